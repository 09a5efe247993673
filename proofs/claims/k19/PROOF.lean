import PyProof.Rows.All
import Wide.All
import OpenK.AllK
import Wide.FinOn
import HandS.ForMost
import HandS.ForExc
import HandS.ExcInit
import HandS.ExcField
import HandS.TryMany
import HandS.IsInst
import HandS.Wide
import HandS.Small
import HandS.RaiseMore
import PyProof.ReprRoads
import KE.KSuper
import HandS.ClsMeth
import HandS.Nested
import HandS.More
import HandS.StrMore
import HandS.Walk
import HandS.Defaults
import HandS.MakeKwOnly
import HandS.Star
import HandS.Property
import KE.SortKeyHeap
import KE.KLam
import HandS.Base
import HandS.Call
import HandS.List
import HandS.Dict
import HandS.Lambda
import HandS.SortKw
import PyProof.TupleOfSeq
import HandS.EndTab
import KE.DataCmp
import KE.LtData
import HandS.Conv
import HandS.DictTup
import HandS.SetKeys
import PyProof.DictMoreH
import HandS.Iter
import KE.GoesMore
import PyProof.EnumMake
import PyProof.Draws
import PyProof.InstNe
import HandS.SlotsOwn
import HandS.Words
import HandS.NamedTupSort
import KE.KOpsOwn
import HandS.MethStar
import OpenK.KMake
import KE.KOwnIter
import HandS.IterVal
import HandS.TupSets
import HandS.DeepEq
import KE.KCallOwn
import HandS.DictComp
import HandS.FStr
import HandS.TupAny
import HandS.Head0
import HandS.Head1
import HandS.Head2
import HandS.HeadHook1
import HandS.HeadHook2
import PySem.Challenge.RW_listviews_k19_whole_finer_orders_or_part
set_option Elab.async false
set_option linter.all false
set_option maxRecDepth 100000
set_option maxHeartbeats 2000000
/-! G1: what a def keeps where no guard is under way; repr of data at any depth, dicts too. -/
namespace G
open PySem PySem.Spec PyProof.Rows L2

/-! ### how long a shown text is -/
mutual
def mass : PyData → Nat
  | .none => 4
  | .bool _ => 5
  | .int _ => 1921
  | .str x => (reprText x).length
  | .list xs => 3 + massAll xs
  | .tuple xs => 4 + massAll xs
  | .dict kvs => 3 + massKv kvs
def massAll : List PyData → Nat
  | [] => 0
  | x :: xs => mass x + 2 + massAll xs
def massKv : List (PyData × PyData) → Nat
  | [] => 0
  | (k, v) :: r => mass k + mass v + 4 + massKv r
end
theorem text_from_le : ∀ (ts : List Str) (k : Nat) (acc : Str), (textFrom k acc ts).length ≤ acc.length + piled ts
  | [], k, acc => by
    show acc.length ≤ acc.length + 0
    omega
  | t :: r, k, acc => by
    have h1 := text_from_le r (k + 1) (acc ++ (if k > 0 then ", " else "" : String) ++ t)
    rw [strLen_append, strLen_append] at h1
    have h2 : (((if k > 0 then ", " else "" : String) : Str)).length ≤ 2 := by
      split <;> decide
    show (textFrom (k + 1) _ r).length ≤ _
    rw [piled_cons]
    omega
theorem list_text_le (ts : List Str) : (listText ts).length ≤ 3 + piled ts := by
  unfold listText
  rw [strLen_append]
  have h1 := text_from_le ts 0 "["
  have e1 : ((("[" : String) : Str)).length = 1 := rfl
  have e2 : ((("]" : String) : Str)).length = 1 := rfl
  rw [e1] at h1
  rw [e2]
  omega
theorem join_le (ts : List Str) : (Str.join ", " ts).length ≤ piled ts := by
  by_cases h : ts = []
  · subst h
    exact Nat.le_refl 0
  · have := join_length_add ts h
    omega
theorem tuple_text_le (ts : List Str) : (tupleText ts).length ≤ 4 + piled ts := by
  unfold tupleText
  rw [strLen_append, strLen_append]
  have h1 := join_le ts
  have e1 : ((("(" : String) : Str)).length = 1 := rfl
  have e3 : (((if ts.length == 1 then ",)" else ")" : String) : Str)).length ≤ 2 := by split <;> decide
  rw [e1]
  omega
theorem dict_text_le (ts : List Str) : (dictText ts).length ≤ 3 + piled ts := by
  unfold dictText
  rw [strLen_append, strLen_append]
  have h1 := join_le ts
  have e1 : ((("{" : String) : Str)).length = 1 := rfl
  have e3 : ((("}" : String) : Str)).length = 1 := rfl
  rw [e1, e3]
  omega
mutual
theorem shown_le : ∀ d : PyData, d.showable = true → d.shown.length ≤ mass d
  | .none, _ => by decide
  | .bool b, _ => by cases b <;> decide
  | .int i, h => by
    have h' : i.natAbs.log2 < 1920 := by simpa [PyData.showable] using h
    have h2 := int_text_length_le (by decide) h'
    show (Str.ofString (toString i)).length ≤ 1921
    rw [PySem.ofString_length]
    exact h2
  | .str x, _ => by
    simp only [PyData.shown, mass]
    exact Nat.le_refl _
  | .list xs, h => by
    have h' : PyData.showableAll xs = true := by simpa [PyData.showable] using h
    have h1 := list_text_le (PyData.shownAll xs)
    have h2 := shown_all_le xs h'
    simp only [PyData.shown, mass]
    omega
  | .tuple xs, h => by
    have h' : PyData.showableAll xs = true := by simpa [PyData.showable] using h
    have h1 := tuple_text_le (PyData.shownAll xs)
    have h2 := shown_all_le xs h'
    simp only [PyData.shown, mass]
    omega
  | .dict kvs, h => by
    have h' : PyData.showableKv kvs = true := by simpa [PyData.showable] using h
    have h1 := dict_text_le (PyData.shownKv kvs)
    have h2 := shown_kv_le kvs h'
    simp only [PyData.shown, mass]
    omega
theorem shown_all_le : ∀ xs : List PyData, PyData.showableAll xs = true → piled (PyData.shownAll xs) ≤ massAll xs
  | [], _ => by
    simp only [PyData.shownAll, massAll, piled_nil]
    exact Nat.le_refl _
  | x :: xs, h => by
    simp only [PyData.showableAll, Bool.and_eq_true] at h
    have h1 := shown_le x h.1
    have h2 := shown_all_le xs h.2
    simp only [PyData.shownAll, massAll, piled_cons]
    omega
theorem shown_kv_le : ∀ xs : List (PyData × PyData), PyData.showableKv xs = true → piled (PyData.shownKv xs) ≤ massKv xs
  | [], _ => by
    simp only [PyData.shownKv, massKv, piled_nil]
    exact Nat.le_refl _
  | (k, v) :: xs, h => by
    simp only [PyData.showableKv, Bool.and_eq_true] at h
    have h1 := shown_le k h.1.1
    have h2 := shown_le v h.1.2
    have h3 := shown_kv_le xs h.2
    have e : (((": " : String) : Str)).length = 2 := rfl
    simp only [PyData.shownKv, massKv, piled_cons, strLen_append, e]
    omega
end

/-! ### data that stands in the heap: lists, tuples, dicts by int and text keys -/
mutual
inductive Rp (K : PySem.W.Frag) (H : Hp) : V → PyData → Prop
  | non : Rp K H .non .none
  | bl (b : Bool) : Rp K H (.bl b) (.bool b)
  | int (i : Int) : Rp K H (.int i) (.int i)
  | str (x : Str) : Rp K H (.str x) (.str x)
  | lst {a : Addr} {xs : List V} {ds : List PyData} : H a = some (.lst xs) → RpAll K H xs ds → Rp K H (.ref a) (.list ds)
  | tup {a : Addr} {xs : List V} {ds : List PyData} : H a = some (.tup xs) → RpAll K H xs ds → Rp K H (.ref a) (.tuple ds)
  | dic {a : Addr} {kvs : List (Key × V)} {ds : List (PyData × PyData)} : H a = some (.dK kvs) → RpAll K H (kvs.map fun p => kV p.1) (ds.map (·.1)) → RpAll K H (kvs.map (·.2)) (ds.map (·.2)) → Rp K H (.ref a) (.dict ds)
inductive RpAll (K : PySem.W.Frag) (H : Hp) : List V → List PyData → Prop
  | nil : RpAll K H [] []
  | cons {v : V} {vs : List V} {d : PyData} {ds : List PyData} : Rp K H v d → RpAll K H vs ds → RpAll K H (v :: vs) (d :: ds)
end

/-! ### .. and how it is read -/
mutual
/-- no list in it: each address that a reading of it counts is a dict's -/
def okS : PyData → Bool
  | .none | .bool _ | .int _ | .str _ => true
  | .list _ => false
  | .tuple xs => okSAll xs
  | .dict kvs => okSKv kvs
def okSAll : List PyData → Bool
  | [] => true
  | x :: xs => okS x && okSAll xs
def okSKv : List (PyData × PyData) → Bool
  | [] => true
  | (k, v) :: r => okS k && okS v && okSKv r
end
theorem okSKv_split : ∀ {kvs : List (PyData × PyData)}, okSKv kvs = true → okSAll (kvs.map (·.1)) = true ∧ okSAll (kvs.map (·.2)) = true
  | [], _ => ⟨rfl, rfl⟩
  | (k, v) :: r, h => by
    simp only [okSKv, Bool.and_eq_true] at h
    obtain ⟨h1, h2⟩ := okSKv_split h.2
    simp only [List.map_cons, okSAll, Bool.and_eq_true]
    exact ⟨⟨h.1.1, h1⟩, h.1.2, h2⟩
theorem pairs_vals {P : Program} {w : World} : ∀ {kvs : List (Key × V)} {vs : List (Key × Value)} {es : List DictEntry}, KV kvs vs → Pairs (mixKind P w) es vs →
    Vals (kvs.map fun p => kV p.1) (es.map (·.key)) ∧ Vals (kvs.map (·.2)) (es.map (·.val))
  | _, _, _, .nil, .nil => ⟨.nil, .nil⟩
  | _, _, _, .cons r t, .cons hk hv p => by
    obtain ⟨h1, h2⟩ := pairs_vals t p
    refine ⟨.cons ?_ h1, .cons ?_ h2⟩
    · dsimp only
      rw [r.1]
      rcases keyIs_shape hk with ⟨i, tk, e1, e2⟩ | ⟨x, tk, e1, e2⟩
      · rw [e1, e2]
        exact ⟨tk, rfl⟩
      · rw [e1, e2]
        exact ⟨tk, rfl⟩
    · dsimp only
      rw [hv]
      exact r.2
section
variable {X : Cx} {pins : List (Addr × Obj)} {σ : L2.St} {H : Hp} {s : Shared}
mutual
theorem rp_reads (I : Inv X pins σ H s) : ∀ (d : PyData) (v : V) (u : Value), Rp X.K H v d → RelV v u → ∃ as, Reads s.heap u d as ∧ (okS d = true → sysModules ∉ as)
  | .none, _, _, h, r => by
    cases h
    cases r
    exact ⟨_, Reads.none, fun _ => by simp⟩
  | .bool b, _, _, h, r => by
    cases h
    cases r
    exact ⟨_, Reads.bool b, fun _ => by simp⟩
  | .int i, _, _, h, r => by
    cases h
    obtain ⟨t, rfl⟩ := r
    exact ⟨_, Reads.int i t, fun _ => by simp⟩
  | .str x, _, _, h, r => by
    cases h
    obtain ⟨t, rfl⟩ := r
    exact ⟨_, Reads.str x t, fun _ => by simp⟩
  | .list ds, _, _, h, r => by
    cases h with
    | lst hs ha =>
      cases r
      obtain ⟨its, rv, ⟨o, n, ho, hc, _, hd⟩, _⟩ := I.list (.of hs)
      obtain ⟨as, hr, _⟩ := rp_readsAll I ds _ its ha rv
      exact ⟨_, Reads.list ho hc hd hr, fun z => by simp [okS] at z⟩
  | .tuple ds, _, _, h, r => by
    cases h with
    | tup hs ha =>
      cases r
      obtain ⟨its, rv, ⟨o, ho, hc, n, hd⟩, _⟩ := I.tuple (.of hs)
      obtain ⟨as, hr, q⟩ := rp_readsAll I ds _ its ha rv
      exact ⟨_, Reads.tuple ho hc hd hr, fun z => q (by simpa [okS] using z)⟩
  | .dict ds, _, _, h, r => by
    cases h with
    | dic hs hk hv =>
      cases r
      obtain ⟨_, hm, vs, rel, o, es, ep, e1, e2, e3, e4, e5, e6⟩ := I.hok _ _ hs
      obtain ⟨r1, r2⟩ := pairs_vals rel e5
      obtain ⟨as, q1, z1⟩ := rp_readsKeys I ds _ _ hk r1
      obtain ⟨bs, q2, z2⟩ := rp_readsVals I ds _ _ hv r2
      refine ⟨_, Reads.dict e1 e2.1 e3 q1 q2, fun z => ?_⟩
      have hz : okSKv ds = true := by simpa [okS] using z
      obtain ⟨k1, k2⟩ := okSKv_split hz
      have hm' := beq_eq_false_iff_ne.mp hm
      intro hin
      rcases List.mem_cons.mp hin with hx | hx
      · exact hm' hx.symm
      · rcases List.mem_append.mp hx with hx | hx
        · exact z1 k1 hx
        · exact z2 k2 hx
theorem rp_readsAll (I : Inv X pins σ H s) : ∀ (ds : List PyData) (vs : List V) (us : List Value), RpAll X.K H vs ds → Vals vs us → ∃ as, ReadsAll s.heap us ds as ∧ (okSAll ds = true → sysModules ∉ as)
  | [], _, _, h, r => by
    cases h
    cases r
    exact ⟨_, ReadsAll.nil, fun _ => by simp⟩
  | d :: ds, _, _, h, r => by
    cases h with
    | cons h1 h2 =>
      cases r with
      | cons r1 r2 =>
        obtain ⟨as, q1, z1⟩ := rp_reads I d _ _ h1 r1
        obtain ⟨bs, q2, z2⟩ := rp_readsAll I ds _ _ h2 r2
        refine ⟨_, ReadsAll.cons q1 q2, fun z => ?_⟩
        simp only [okSAll, Bool.and_eq_true] at z
        intro hin
        rcases List.mem_append.mp hin with hx | hx
        · exact z1 z.1 hx
        · exact z2 z.2 hx
theorem rp_readsKeys (I : Inv X pins σ H s) : ∀ (ds : List (PyData × PyData)) (vs : List V) (us : List Value), RpAll X.K H vs (ds.map (·.1)) → Vals vs us → ∃ as, ReadsAll s.heap us (ds.map (·.1)) as ∧ (okSAll (ds.map (·.1)) = true → sysModules ∉ as)
  | [], _, _, h, r => by
    cases h
    cases r
    exact ⟨_, ReadsAll.nil, fun _ => by simp⟩
  | (d, _) :: ds, _, _, h, r => by
    cases h with
    | cons h1 h2 =>
      cases r with
      | cons r1 r2 =>
        obtain ⟨as, q1, z1⟩ := rp_reads I d _ _ h1 r1
        obtain ⟨bs, q2, z2⟩ := rp_readsKeys I ds _ _ h2 r2
        refine ⟨_, ReadsAll.cons q1 q2, fun z => ?_⟩
        simp only [List.map_cons, okSAll, Bool.and_eq_true] at z
        intro hin
        rcases List.mem_append.mp hin with hx | hx
        · exact z1 z.1 hx
        · exact z2 z.2 hx
theorem rp_readsVals (I : Inv X pins σ H s) : ∀ (ds : List (PyData × PyData)) (vs : List V) (us : List Value), RpAll X.K H vs (ds.map (·.2)) → Vals vs us → ∃ as, ReadsAll s.heap us (ds.map (·.2)) as ∧ (okSAll (ds.map (·.2)) = true → sysModules ∉ as)
  | [], _, _, h, r => by
    cases h
    cases r
    exact ⟨_, ReadsAll.nil, fun _ => by simp⟩
  | (_, d) :: ds, _, _, h, r => by
    cases h with
    | cons h1 h2 =>
      cases r with
      | cons r1 r2 =>
        obtain ⟨as, q1, z1⟩ := rp_reads I d _ _ h1 r1
        obtain ⟨bs, q2, z2⟩ := rp_readsVals I ds _ _ h2 r2
        refine ⟨_, ReadsAll.cons q1 q2, fun z => ?_⟩
        simp only [List.map_cons, okSAll, Bool.and_eq_true] at z
        intro hin
        rcases List.mem_append.mp hin with hx | hx
        · exact z1 z.1 hx
        · exact z2 z.2 hx
end
end

/-! ### repr of a list of such data -/
/-- a list at the top: its own address is not counted -/
theorem repr_top {prog : Program} {w : World} {A : Around} {E : Value → Shared → Prop} {s : Shared} {Q : Value → Shared → Prop} {a : Addr} {o : Obj} {vs : Array Value} {n : Nat} {xs : List PyData} {as : List Addr}
    (h1 : s.heap.get? a = some o) (h2 : o.cls = .type "list") (h3 : o.data = .seq vs n) (h4 : ReadsAll s.heap vs.toList xs as) (hs : PyData.showableAll xs = true) (hsm : PyData.hasDictAll xs = true → sysModules ∉ as)
    (hg : A.guards = some []) (hu : A.units + ((PyData.list xs).depth + 1) < cLine) (hsz : (listText (PyData.shownAll xs)).length ≤ sizeLine)
    (hQ : ∀ h' u tk, (∀ b o, s.heap.get? b = some o → h'.get? b = some o) → Q (.str (listText (PyData.shownAll xs)) u) { s with heap := h', toks := tk }) :
    wpAny (model prog w) A (call (.builtin "repr") [.ref a]) Q E s := by
  obtain ⟨bs, hb, hk⟩ := ReprAllK.of_readsAll (prog := prog) (w := w) h4 hs hsm (fun t ht => Nat.le_trans (listText_mem_le ht) hsz)
  have hna : a ∉ bs :=
    not_mem_of_deeper (.list h1 h2 h3 h4) (by simp only [PyData.depth]; omega) hb
  simp only [PyData.depth] at hu
  refine call_repr_slot (A := A) (by omega) (idr := "list.__repr__") (T := "list") (show s.TypeIs (.ref a) "list" from ⟨o, h1, h2⟩) F.slot_list_repr.toG ?_
  have hu1 : A.in1.units = A.units + 1 := rfl
  obtain ⟨l⟩ := vs
  cases l with
  | nil =>
    have h4' : ReadsAll s.heap [] xs as := h4
    cases h4'
    have ht := hQ s.heap
    rw [show listText (PyData.shownAll []) = ("[]" : Str) by simp only [PyData.shownAll]; exact listText_nil] at ht
    exact call_list_repr_empty ⟨o, h1, h2⟩ h1 h3 ⟨_, _, rfl, ht _ _ fun _ _ e => e⟩
  | cons x l =>
    refine call_list_reprK h1 h2 h3 hna (by simpa using hk.length_eq) (fun i y e => hk.item i y (by simpa using e)) (by exact hg) (fun b _ => Clear.nil b) (by rw [hu1]; omega) (fun _ _ e => e) (fun h' u tk k => ⟨_, _, rfl, hQ h' u tk k⟩) hsz
/-- repr(xs), xs a list of data -/
def rRepr (K : PySem.W.Frag) : List V → Hp → VK → Prop := fun vs H Q => ∃ (a : Addr) (xs : List V) (ds : List PyData), vs = [.ref a] ∧ H a = some (.lst xs) ∧ RpAll K H xs ds ∧ PyData.showableAll ds = true ∧ (PyData.hasDictAll ds = true → okSAll ds = true) ∧
  (PyData.list ds).depth ≤ 20 ∧ 3 + massAll ds ≤ sizeLine ∧ Q (.str (listText (PyData.shownAll ds))) H
theorem call_repr {X : Cx} (hg : X.A.guards = some []) (hu : X.A.units + 64 < cLine) : CallR X (.builtin "repr") (rRepr X.K) := by
  intro pins s σ H xs us Q I r h
  obtain ⟨a, ys, ds, rfl, ha, hr, hs, hd, hp, hm, q⟩ := h
  obtain rfl := Vals.ref1 r
  obtain ⟨its, rv, ⟨o, n, ho, hc, _, hdt⟩, _⟩ := I.list (.of ha)
  obtain ⟨as, q1, z1⟩ := rp_readsAll I ds _ its hr rv
  have hz := Nat.le_trans (list_text_le _) (Nat.le_trans (Nat.add_le_add_left (shown_all_le ds hs) 3) hm)
  exact repr_top ho hc hdt q1 hs (fun z => z1 (hd z)) hg (by omega) hz fun h' u tk k => ⟨.str _, H, I.kept k, ⟨u, rfl⟩, q⟩
end G
set_option Elab.async false
set_option linter.all false
set_option maxRecDepth 100000
set_option maxHeartbeats 2000000
/-! G2: a def that runs where no guard is under way, and the law's own call. -/
namespace G
open PySem PySem.Spec PyProof.Rows L2
/-- as FnOk, of arounds without guards -/
structure FnG (P : Program) (w : World) (K : PySem.W.Frag) (mg : Str → Option Value) (base : Heap) (CX : CXT) (k : Nat) (f : Addr) (fd : FuncData) (ps : List Str) (sp : Sp) : Prop where
  size : ∀ vs H Q E, sp vs H Q E → vs.length = ps.length
  go : ∀ (A : Around) (outer : List Env) (s : Shared) (H : Hp) (args : Args) (us : List Value) (vs : List V) (Q : VK) (E : XK),
    A.guards = some [] → Room k A → Env0 P w K mg base A outer s H → BindsTo s fd args (ps.zip us) → Vals vs us → sp vs H Q E → codeAny (model P w) A (.call (.ref f) args) (CR CX outer P w H s Q E) s
section
variable {P : Program} {w : World} {K : PySem.W.Frag} {mg : Str → Option Value} {base : Heap} {CX : CXT}
theorem FnG.of_body {x qual : Str} {st : Stmt} {f : Addr} {fd : FuncData} {N ps : List Str} {k : Nat} {sp : Sp} (F : Fun K x qual st f fd) (S : FnScope N ps (defScope st))
    (size : ∀ vs H Q E, sp vs H Q E → vs.length = ps.length)
    (body : ∀ (cdv : Value) (A : Around) (outer : List Env) (s : Shared) (H : Hp) (vs : List V) (Q : VK) (E : XK), A.guards = some [] →
      Room k (A.deeper (envOfC qual (defScope st) s.heap.objs.size f cdv)) → sp vs H Q E →
      ∃ t, PSs (cxOf CX P w K mg base N qual (defScope st) f cdv A outer s H E).nox (defBody st) t ∧ t { nx := fun _ H' => Q .non H', rt := Q } (start N vs) H) :
    FnG P w K mg base CX (k + 1) f fd ps sp := by
  obtain ⟨_, _, _, _, _, _, cdv, _, _, rfl, lk, hcd⟩ := F.ex
  refine ⟨size, fun A outer s H args us vs Q E hg hr e0 hb r h => ?_⟩
  have inS : K.In s.heap := e0.mod.kin.keeps fun b o e => (e0.bs b o e).1
  have noL : s.heap.NoLimit := e0.mod.nolimit.keeps fun b o e => (e0.bs b o e).1
  refine codeAny_call_function hr.depth (inS _ _ lk) rfl S.co S.gen rfl
    (PySem.W.codeRec_of inS hcd) (hb _ _ _ _ ?_)
  refine wpAny_newFunctionEnv_cells S.kind
    (fun ⟨n, v⟩ hy => ?_) fun env he s1 x => ?_
  · rcases S.par n (List.of_mem_zip hy).1 with q | q
    · exact Or.inl q
    · exact Or.inr ⟨q, PySem.W.cellsFrom_some _ _ _ (Or.inl q)⟩
  · subst he
    refine ⟨noL.keeps x.toInCall.keep, codeAny_func ?_⟩
    obtain ⟨t, ht, hq⟩ := body cdv A outer s H vs Q E hg (hr.deeper _) h
    have J := inv_start (CX := CX) (P := P) (w := w) (K := K) (mg := mg) (base := base) (E := E) S hr.hd e0 (size _ _ _ _ h) r x
    refine wpAny_mono (ht.nox.run [] s1 (start N vs) H _ J hq) (fun fl s' z => ?_) fun e s' z => z
    cases fl with
    | ret u =>
      obtain ⟨v, σ', H', J', rv, q⟩ := z
      exact ⟨v, H', J'.os, J'.bare, J'.base, J'.hok, rv, q⟩
    | next =>
      obtain ⟨σ', H', J', q⟩ := z
      exact ⟨.non, H', J'.os, J'.bare, J'.base, J'.hok, rfl, q⟩
    | brk =>
      obtain ⟨_, _, _, q⟩ := z
      exact q.elim
    | cont =>
      obtain ⟨_, _, _, q⟩ := z
      exact q.elim
end
section
variable {X : Cx} {CX : CXT} {k : Nat} {f : Addr} {fd : FuncData} {ps : List Str} {sp : Sp} {dvs : List V} {ds : List Value} {E : XK} {x : Str} {p pos : Pos} {e : Expr} {es : List Expr} {t : TA}
theorem FnG.run {pins : List (Addr × Obj)} {σ : L2.St} {H : Hp} {s : Shared} {Q : VK} {us : List Value} {vs : List V} (F : FnG X.prog X.w X.K X.mg X.base CX k f fd ps sp) (hg : X.A.guards = some []) (hr : Room k X.A) (hb : Binds X.K fd ps ds) (hd : Vals dvs ds)
    (hx : Passes CX X E) (I : Inv X pins σ H s) (r : Vals vs us) (h : sp (vs ++ dvs) H Q E) : wpAny (model X.prog X.w) X.A (call (.ref f) us) (EP X pins σ Q) X.xe s := by
  have both := r.append hd
  have size : (us ++ ds).length = ps.length := both.length.symm.trans (F.size _ _ _ _ h)
  refine wpAny_call (codeAny_mono (F.go X.A X.stack s H ⟨us, []⟩ (us ++ ds) (vs ++ dvs) Q E hg hr I.env0 (hb s us I.kIn size) both h) fun q s' z => ?_)
  match q, z with
  | .error er, z => exact hx pins σ H s er s' I z
  | .ok (.ret u), z => exact I.after z
/-- f(e, ..) -/
theorem pe_callG (F : FnG X.prog X.w X.K X.mg X.base CX k f fd ps sp) (hg : X.A.guards = some []) (hr : Room k X.A) (gl : Gl X x) (hm : X.mg x = some (.ref f)) (hk : PySem.W.keepIn X.K (.ref f) = true) (hb : Binds X.K fd ps ds) (hd : Vals dvs ds)
    (hx : Passes CX X E) (ha : PA X (e :: es) t) (hdb : (x == ("__debug__" : Str)) = false := by decide)
    (he : starEach (e :: es) X.env = (false, eval e X.env) :: starEach es X.env := by rfl) (hpl : (backTo pos (starEach es X.env)).any (·.1) = false := by rfl) : PE X (.Call (.Name x p) (e :: es) [] pos) (tCall sp dvs E t) := by
  constructor
  intro pins s σ H Q I h
  refine wpAny_Call_Name_kw (ld_glob I gl hm ?_ hdb)
  exact PySem.W.callWith_K (h₀ := X.base) I.ok.mod.kin hk
    (thn (ha.run pos pins s σ H _ I h) fun us s1 ⟨vs, H1, I1, r, q⟩ => ⟨I1.kIn, F.run hg hr hb hd hx I1 r q⟩) he hpl
end
/-- True comes out, what stood stands, nothing went in or out -/
def Fine (s : Shared) (r : Result) (s' : Shared) : Prop :=
  r = .ok (.ret (.bool true)) ∧ OldK s.heap s'.heap ∧ s'.os = s.os ∧ AllBare s'.gens
/-- the law's call, from the state that the top leaves -/
theorem law_go {P : Program} {w : World} {K : PySem.W.Frag} {mg mb : Str → Option Value} {k : Nat} {fa a : Addr} {fd : FuncData} {x : Str} {sp : Sp} {s₁ : Shared} {vs : List Value} {ns : List Int}
    (inK : K.In s₁.heap) (gl : s₁.heap.Ns mainGlobals mg)
    (bl : s₁.heap.Ns builtinsNs mb) (boot : ∀ y : Str, y ≠ "__name__" → mb y = bootBuiltins y)
    (lim : s₁.heap.NoLimit) (noG : s₁.gens = #[])
    (script : s₁.heap.get? a = some { cls := .type "list", data := .seq vs.toArray })
    (allInt : IntsAre vs ns) (few : ns.length ≤ sizeLine) (hr : Room k callerA)
    (F : ∀ base : Heap, K.In base → base.Ns mainGlobals mg → FnG P w K mg base CX0 k fa fd [x] sp) (hbind : ∀ (s : Shared) (u : Value), BindsTo s fd ⟨[u], []⟩ [(x, u)])
    (hsp : ∀ H : Hp, Only H → SqL K H a (ns.map V.int) → sp [.ref a] H (fun v _ => v = .bl true) fun _ _ _ => False) :
    codeAny (model P w) callerA (.call (.ref fa) ⟨[.ref a], []⟩)
      (Fine s₁) s₁ := by
  -- nothing but the script is tracked; if the written part holds the script, nothing at all
  have main : ∀ H : Hp, Only H → SqL K H a (ns.map V.int) → HOk P w H s₁.heap → (∀ b, H b ≠ none → b = a ∧ K.lookup a = none) →
      codeAny (model P w) callerA (.call (.ref fa) ⟨[.ref a], []⟩)
      (Fine s₁) s₁ := by
    intro H hO hS hok hA
    have nsK : ∀ {b : Addr} {m : Str → Option Value}, s₁.heap.Ns b m → (hidT s₁.heap H).Ns b m := by
      rintro b m ⟨o, es, ep, e, d, r⟩
      refine ⟨o, es, ep, hidT_get e ?_, d, r⟩
      cases q : H b with
      | none => rfl
      | some u =>
        exfalso
        have eb := (hA b (by rw [q]; simp)).1
        rw [eb, script] at e
        rw [← Option.some.inj e] at d
        cases d
    have inB : K.In (hidT s₁.heap H) := fun b o e => hidT_get (inK b o e) (by
      cases q : H b with
      | none => rfl
      | some u =>
        exfalso
        obtain ⟨e1, e2⟩ := hA b (by rw [q]; simp)
        rw [e1, e2] at e
        cases e)
    obtain ⟨mc, l1, l2⟩ := lim
    have hM : Mod K mg (hidT s₁.heap H) := ⟨inB, nsK gl, ⟨mb, nsK bl, boot⟩, ⟨mc, nsK l1, l2⟩⟩
    have e0 : Env0 P w K mg (hidT s₁.heap H) callerA [] s₁ H := ⟨rfl, hM, fun b o e => of_hidT e, Nat.le_of_eq (hidT_size _ _), trivial, fun b z => absurd (show b ∈ ([] : List Addr) from z) (by simp), hok, .of_eq noG⟩
    have run := (F _ inB (nsK gl)).go callerA [] s₁ H ⟨[.ref a], []⟩ [.ref a] [.ref a] _ _ rfl hr e0 (hbind s₁ (.ref a)) (.cons rfl .nil) (hsp H hO hS)
    refine codeAny_mono run fun r s' h => ?_
    match r, h with
    | .ok (.ret u), h =>
      obtain ⟨v, H', os, bare, un, hok', r', q⟩ := h
      obtain rfl : v = .bl true := q
      obtain rfl : u = Value.bool true := r'
      refine ⟨rfl, OldK.of_keep fun b o e => ?_, os, bare⟩
      rcases hO b with z | ⟨ob, xs, z⟩
      · exact un.keep b o e z (fun z => absurd (show b ∈ ([] : List Addr) from z) (by simp)) (by simp)
      · obtain ⟨e1, _⟩ := hok b _ z
        obtain ⟨e2, _⟩ := hok' b _ (un.frzs b ob _ z)
        rw [e] at e1
        cases e1
        exact e2
  cases hk : K.lookup a with
  | some o =>
    have e := inK a o hk
    rw [script] at e
    cases e
    refine main (fun _ => none) (fun _ => .inl rfl) (.inr ⟨_, vs.toArray, _, hk, rfl, rfl, rfl, ?_, ?_⟩) (fun b u z => nomatch z) fun b z => absurd rfl z
    · rw [List.size_toArray, allInt.length]
      exact few
    · simpa using vals_ints allInt
  | none =>
    let o : Obj := { cls := .type "list", data := .seq vs.toArray }
    let T : HO := .frz o (.lst (ns.map V.int))
    have at_a : upd (fun _ => none) a T a = some T := upd_same
    refine main (upd (fun _ => none) a T) (fun b => ?_) (.inl (.inr ⟨o, at_a⟩)) (fun b u z => ?_) fun b z => ?_
    · by_cases h : b = a
      · exact .inr ⟨o, _, by rw [h]; exact at_a⟩
      · exact .inl (upd_ne h)
    · by_cases h : b = a
      · subst h
        rw [at_a] at z
        cases z
        exact ⟨script, by rw [List.length_map]; exact few, vs, _, vals_ints allInt, script⟩
      · rw [upd_ne h] at z
        cases z
    · by_cases h : b = a
      · exact ⟨h, hk⟩
      · exact absurd (upd_ne h) z
/-- what k_head leaves, by the law's promise -/
theorem walk_go {l : PySem.W.OpenLaw} {n k : Nat} {q : Program} {loose : List Str} {XP : (Str → Option Value) → Heap → Prop} {YP : World → Heap → Prop} {d : DefRec} {K : Params → PySem.W.Frag} {sp : PySem.W.Frag → Sp} {x : Str}
    (most : l.most = some n) (few : n ≤ sizeLine)
    (nodf : d.params.defaults = []) (hr : Room k callerA)
    (hY : ∀ (w : World) (h : Heap), YP w h → (K w.params).In h)
    (F : ∀ (w : World) (mg : Str → Option Value) (fa : Addr) (h : Heap),
      (K w.params).In h → h.Ns mainGlobals mg → mg d.name = some (.ref fa) →
      ∃ fd : FuncData, (∀ (s : Shared) (u : Value), BindsTo s fd ⟨[u], []⟩ [(x, u)]) ∧ ∀ base : Heap, (K w.params).In base → base.Ns mainGlobals mg → FnG l.prog w (K w.params) mg base CX0 k fa fd [x] (sp (K w.params)))
    (hsp : ∀ (K : PySem.W.Frag) (H : Hp) (a : Addr) (ns : List Int), ns.length ≤ n → Only H → SqL K H a (ns.map V.int) → sp K [.ref a] H (fun v _ => v = .bl true) fun _ _ _ => False) :
    PySem.W.WalkO q loose XP YP l.row.toRowW d []
      (fun f vs => PySem.call f vs) := by
  refine Att.attach_call most nodf
    fun w _ s₁ mg mb fa _ _ _ _ a vs ns top Y _ _ _ atF obj allInt len noG => ?_
  have inK := hY w _ Y
  obtain ⟨fd, binds, keeps⟩ := F w mg fa _ inK top.T.g atF
  exact law_go inK top.T.g top.T.b top.T.builtins top.T.nolimit noG obj allInt (Nat.le_trans len few) hr keeps binds
    fun H hO hS => hsp _ H a ns len hO hS
end G
set_option Elab.async false
set_option linter.all false
set_option maxRecDepth 100000
set_option maxHeartbeats 2000000
/-! U1: a method that says super().__init__(..): its own activation is known while it runs. -/
namespace G
open PySem PySem.Spec PyProof.Rows L2 NdefX

/-- one statement, of a body whose activation is on top -/
structure PSa (X : Cx) (body : List Stmt) (st : Stmt) (t : TS) : Prop where
  run : ∀ (pins : List (Addr × Obj)) (s : Shared) (σ : L2.St) (H : Hp) (D : Ends), Inv X pins σ H s → t D σ H → _root_.PySem.wpAt (model X.prog X.w) X.A (.func body X.env) (exec st X.env) (SP X pins D) X.xe s
/-- .. several -/
structure PSsa (X : Cx) (body : List Stmt) (st : List Stmt) (t : TS) : Prop where
  run : ∀ (pins : List (Addr × Obj)) (s : Shared) (σ : L2.St) (H : Hp) (D : Ends), Inv X pins σ H s → t D σ H → _root_.PySem.wpAt (model X.prog X.w) X.A (.func body X.env) (execs st X.env) (SP X pins D) X.xe s
section
variable {X : Cx} {body rest : List Stmt} {st : Stmt} {t u : TS}
theorem psa (h : PS X st t) : PSa X body st t := ⟨fun pins s σ H D I q => wpAt_of_wpAny (h.run pins s σ H D I q)⟩
theorem pssa {sts : List Stmt} (h : PSs X sts t) : PSsa X body sts t := ⟨fun pins s σ H D I q => wpAt_of_wpAny (h.run pins s σ H D I q)⟩
theorem pssa_cons (h1 : PSa X body st t) (h2 : PSsa X body rest u) : PSsa X body (st :: rest) (tSeq t u) := by
  refine ⟨fun pins s σ H D I h => ks_wpAt_execs_cons (ks_wpAt_mono (h1.run pins s σ H { D with nx := u D } I h) (fun f s1 q => ?_) fun _ _ z => z)⟩
  cases f with
  | next =>
    obtain ⟨σ', H', I', q⟩ := q
    exact h2.run pins s1 σ' H' D I' q
  | ret v => exact q
  | brk => exact q
  | cont => exact q
end

/-- what of the text the words super().__init__ rest on, said in the def at f, of the class at D, to an instance of the class at C; f2: the __init__ found -/
structure SupOf (P : Program) (K : PySem.W.Frag) (f cda cc D C f2 : Addr) (x : Str) : Prop where
  fn : ∃ oc od fd sl ar, K.lookup f = some ⟨oc, od, .func fd, sl⟩ ∧ (fd.params.posonlyargs ++ fd.params.args).head? = some ar ∧ ar.arg = x
  code : ∃ oc od vs sl file tf, K.lookup cda = some ⟨oc, od, .fields vs, sl⟩ ∧ vs[2]? = some (.str file tf) ∧ ((P.main.file : Str) == file) = true
  cell : ∃ oc od sl, K.lookup cc = some ⟨oc, od, .cell (some (.ref D)), sl⟩
  isc : ∃ cd, PySem.W.clsIn K D = some cd
  isC : ∃ cd, PySem.W.clsIn K C = some cd
  sub : PySem.W.mroIn K C (.ref D) = some true
  thd : PySem.W.nsIn K cStatics "thirdparty.any" = some none
  sup : PySem.W.ks_superIn K C D "__init__" = some (some (.ref f2))
  ty : PySem.W.typeIn K (.ref f2) = some (.type "function")
  fi : PySem.W.fnIn K f2 = true
  top : (P.main.scope.names.lookup ("super" : Str)).isSome = false

/-- super().__init__(..), the instance in the slot i -/
def tSup (i : Nat) (C : Addr) (sp : Sp) (E : XK) (t : TA) : TS := fun D σ H => ∃ a dx fs, σ[i]? = some (some (.ref a)) ∧ H a = some (.ins C dx fs) ∧
  t σ H fun vs H1 => sp (.ref a :: vs) H1 (fun _ H2 => D.nx σ H2) E

section
variable {X : Cx} {CX : CXT} {k i : Nat} {f cda cc D C f2 : Addr} {x : Str} {sp : Sp} {E : XK} {body : List Stmt} {e : Expr} {es : List Expr} {t : TA} {p0 p1 apos pos spos : Pos} {pl : Sem Bool}
theorem cls_at {h : Heap} {K : PySem.W.Frag} {D : Addr} {cd : ClassData} (I : K.In h) (hD : PySem.W.clsIn K D = some cd) : ∃ o, h.get? D = some o ∧ o.data = .cls cd := by
  unfold PySem.W.clsIn at hD
  split at hD
  · rename_i c d cd' sl ho
    cases hD
    exact ⟨_, I _ _ ho, rfl⟩
  · cases hD
/-- the object super() -/
theorem super_base {pins : List (Addr × Obj)} {s : Shared} {σ : L2.St} {H : Hp} {whole : Sem Value} {a dx : Addr} {fs : List (Str × V)} {Q : Value → Shared → Prop}
    (I : Inv X pins σ H s) (S : SupOf X.prog X.K f cda cc D C f2 x) (hfu : X.env.func = some f) (hco : X.env.code = .ref cda) (hcl : X.env.cells.lookup ("__class__" : Str) = some cc)
    (hks : X.env.kindOf "super" = some .globalImplicit) (hkc : X.env.kindOf "__class__" = some .free) (hkx : X.env.kindOf x = some .local) (hm : X.mg "super" = none) (hN : X.N[i]? = some x)
    (hs : σ[i]? = some (some (.ref a))) (ha : H a = some (.ins C dx fs))
    (h : ∀ s', Inv X pins σ H s' → s'.heap.get? s.heap.objs.size = some { cls := .type "super", dict := none, data := .fields #[.ref D, .ref a, .ref C], slots := #[] } → Q (.ref s.heap.objs.size) s') :
    _root_.PySem.wpAt (model X.prog X.w) X.A (.func body X.env) (attributeBase (.Call (.Name "super" p0) [] [] p1) "__init__" X.env whole) Q X.xe s := by
  obtain ⟨oc, od, fd, sl, ar, lk, hp, hx⟩ := S.fn
  obtain ⟨oc2, od2, vs, sl2, file, tf, lk2, hv, hfile⟩ := S.code
  obtain ⟨oc3, od3, sl3, lk3⟩ := S.cell
  obtain ⟨cdD, hD⟩ := S.isc
  have inK := I.kIn
  obtain ⟨oD, hD1, hD2⟩ := cls_at inK hD
  obtain ⟨mb, b1, b2⟩ := I.mod.blt
  obtain ⟨m, hn, hl⟩ := I.loc
  obtain ⟨u, ru, hlook⟩ := hl i x _ hN hs (.inl hkx)
  obtain rfl : u = Value.ref a := ru
  have hmx : m x = some (.ref a) := by
    rcases hlook with ⟨_, z⟩ | ⟨z, _⟩
    · exact z
    · rw [hkx] at z
      rcases z with z | z <;> cases z
  have hob : s.heap.get? a = some (PySem.W.instObj C dx) := (show ObjOk X.prog X.w H s.heap a (.ins C dx fs) from I.hok a _ ha).2.2.2.1
  refine ks_wpAt_super_base hks hkc (by decide) hfu (inK _ _ lk) rfl hp hco (inK _ _ lk2) rfl hv hfile S.top ?_
  refine PySem.W.ks_loadName_global I.ok.kind hks (Calls.loadGlobal_builtin (by rw [I.ok.glob]; exact I.mod.glob.keeps I.bk) hm (by rw [I.ok.blt]; exact b1.keeps I.bk) ((b2 "super" (by decide)).trans (by first | rfl | decide +kernel)) ⟨rfl, ?_⟩)
  refine wpAny_loadName_free I.ok.kind hkc hcl ⟨_, inK _ _ lk3, rfl⟩ ?_
  rw [hx]
  refine wpAny_loadName_local I.ok.kind hkx hn hmx ?_
  obtain ⟨hh, g, d, tk, os⟩ := s
  refine ks_wpAny_isType_cls hD1 hD2 ⟨rfl, ?_⟩
  refine ks_wpAny_call_super hD1 hD2 hob rfl (fun c z => nomatch z) (PySem.W.looks_mroIn inK S.sub) fun h' e1 kp => ?_
  exact h _ (I.kept (t' := tk) kp) e1
/-- super().__init__(e, ..) -/
theorem psa_super (S : SupOf X.prog X.K f cda cc D C f2 x) (F : FnR X.prog X.w X.K X.mg X.base CX k f2 sp) (hr : Room k X.A) (hx : Passes CX X E) (hfu : X.env.func = some f) (hco : X.env.code = .ref cda) (hcl : X.env.cells.lookup ("__class__" : Str) = some cc)
    (hks : X.env.kindOf "super" = some .globalImplicit) (hkc : X.env.kindOf "__class__" = some .free) (hkx : X.env.kindOf x = some .local) (hm : X.mg "super" = none) (hN : X.N[i]? = some x) (ha : PA X (e :: es) t)
    (hst : starEach (e :: es) X.env = (false, eval e X.env) :: starEach es X.env := by rfl) (hpl : (backTo pos (starEach es X.env)).any (·.1) = false := by rfl)
    (ht : eval (.Call (.Attribute (.Call (.Name "super" p0) [] [] p1) "__init__" apos) (e :: es) [] pos) X.env = (do
      let ov ← attributeBase (.Call (.Name "super" p0) [] [] p1) "__init__" X.env (eval (.Call (.Name "super" p0) [] [] p1) X.env)
      standAt apos.atName
      let (f, first) ← holding [ov] (getMethod ov "__init__" pl)
      callWith pos f first (backTo pos (starEach (e :: es) X.env)) []) := by rfl)
    (hw : swapsWith (.Call (.Attribute (.Call (.Name "super" p0) [] [] p1) "__init__" apos) (e :: es) [] pos) none spos.line X.env = pure false := by rfl) :
    PSa X body (.Expr (.Call (.Attribute (.Call (.Name "super" p0) [] [] p1) "__init__" apos) (e :: es) [] pos) spos) (tSup i C sp E t) := by
  refine ⟨fun pins s σ H Dn I h => ?_⟩
  obtain ⟨a, dx, fs, h1, h2, q⟩ := h
  refine ks_wpAt_Expr_any (ks_wpAt_MethodCall (pl := pl) (super_base I S hfu hco hcl hks hkc hkx hm hN h1 h2 fun s1 I1 hso => ?_) ht) I.quiet hw
  obtain ⟨cdC, hC⟩ := S.isC
  have inK := I1.kIn
  have hob : s1.heap.get? a = some (PySem.W.instObj C dx) := (show ObjOk X.prog X.w H s1.heap a (.ins C dx fs) from I1.hok a _ h2).2.2.2.1
  obtain ⟨oC, hC1, hC2⟩ := cls_at inK hC
  have hne : a ≠ C := fun z => by
    rw [z, hC1] at hob
    rw [Option.some.inj hob] at hC2
    cases hC2
  obtain ⟨of, hof, hofc⟩ : ∃ of, s1.heap.get? f2 = some of ∧ of.cls = .type "function" := by
    have ht' : (X.K.lookup f2).map (·.cls) = some (.type "function") := S.ty
    cases z : X.K.lookup f2 with
    | none =>
      rw [z] at ht'
      cases ht'
    | some of =>
      rw [z] at ht'
      exact ⟨of, inK _ _ z, Option.some.inj ht'⟩
  have hsup := S.sup
  unfold PySem.W.ks_superIn at hsup
  rw [hC] at hsup
  obtain ⟨hh, g, d, tk, os⟩ := s1
  refine ks_wpAny_getMethod_super hso (PySem.W.looks_opaque inK S.thd) (l₀ := cdC.mro) ((PySem.W.looks_clsIn inK hC).andThen .now) rfl inK hsup hof hofc hne (by decide) ?_
  have I2 := ClX.met_new (g := f2) (C := a) I1
  refine ClX.callwith_cm I2 (ClX.base_none I1 (Nat.le_refl _)) S.fi (thn (ha.run pos _ _ σ H _ I2 q) fun us s3 ⟨vs, H3, I3, r3, q3⟩ => ⟨⟨ClX.pin_at I3, I3.kIn⟩, ?_⟩) hst hpl
  refine thn (ClX.run_cm F hr hx I3 r3 q3) fun _ _ y => ?_
  obtain ⟨v, H4, I4, _, q4⟩ := y
  exact ⟨σ, H4, I4, q4⟩
end

/-! ### the method -/
/-- THE RULE: a method that captures __class__ (it says super()), by its body -/
theorem fnx_of {CX : CXT} {P : Program} {w : World} {K : PySem.W.Frag} {mg : Str → Option Value} {base : Heap} {k : Nat} {f cda cc : Addr} {name qual : Str} {params : Arguments} {body : List Stmt} {scope : Scope} {dV kV doc pm ct oc : Value} {an od : Option Addr}
    {osl : Array (Option Value)} {N ps : List Str} {sp : Sp} (lk : K.lookup f = some ⟨oc, od, .func (PySem.W.ksFn name qual params body scope dV kV doc pm an (.ref cda) ct cc), osl⟩) (hcd : PySem.W.codeIn K (.ref cda) qual = true)
    (hcell : ∃ oc od sl v, K.lookup cc = some ⟨oc, od, .cell v, sl⟩) (S : NScope N ps ["__class__"] scope) (len : ∀ vs H Q E, sp vs H Q E → vs.length = ps.length)
    (hbody : ∀ (A : Around) (outer : List Env) (s : Shared) (H : Hp) (vs : List V) (Q : VK) (E : XK), Room k (A.deeper (envF ⟨name, qual, params, body, scope, [("__class__", cc)], cda⟩ f s.heap.objs.size)) → sp vs H Q E →
      ∃ t, PSsa (ncx CX P w K mg base N ⟨name, qual, params, body, scope, [("__class__", cc)], cda⟩ f A outer s H E) body body t ∧ t { nx := fun _ H' => Q .non H', rt := Q } (startF N vs [none]) H) :
    FnOk P w K mg base CX (k + 1) f (PySem.W.ksFn name qual params body scope dV kV doc pm an (.ref cda) ct cc) ps sp := by
  refine ⟨len, fun A outer s H args us vs Q E hr e0 hb r hsp => ?_⟩
  have hl := len _ _ _ _ hsp
  have inK : K.In s.heap := e0.mod.kin.keeps fun b o e => (e0.bs b o e).1
  have lim : s.heap.NoLimit := e0.mod.nolimit.keeps fun b o e => (e0.bs b o e).1
  obtain ⟨oc3, od3, sl3, v3, lk3⟩ := hcell
  have C : CellsAt [(("__class__" : Str), cc)] ["__class__"] [none] s.heap H := by
    have one : ∀ {y : Str} {c : Addr}, List.lookup y [(("__class__" : Str), cc)] = some c → y = "__class__" ∧ c = cc := fun {y c} z => by
      have z2 := PySem.mem_of_lookup z
      rw [List.mem_singleton] at z2
      exact ⟨congrArg Prod.fst z2, congrArg Prod.snd z2⟩
    refine ⟨rfl, fun y c z => ?_, fun y y' c z z' => (one z).1.trans (one z').1.symm, fun i y z => ?_⟩
    · obtain ⟨_, rfl⟩ := one z
      exact ⟨(e0.bs _ _ (e0.mod.kin _ _ lk3)).2, v3, _, inK _ _ lk3, rfl⟩
    · have hy : y = "__class__" := by
        have z2 := List.mem_of_getElem? z
        rw [List.mem_singleton] at z2
        exact z2
      subst hy
      refine ⟨cc, by simp [List.lookup], fun v z => ?_⟩
      cases i with
      | zero => cases z
      | succ j => cases z
  refine codeAny_call_function hr.depth (inK _ _ lk) rfl S.co S.gen rfl (PySem.W.codeRec_of inK hcd) (hb _ _ _ _ ?_)
  refine wpAny_newFunctionEnv S.nocell (fun ⟨n, _⟩ hy => S.par n (List.of_mem_zip hy).1) (fun h₁ hns hsb => ⟨lim.fresh _ hsb, ?_⟩) S.kind
  show codeAny _ _ (.func body (envF ⟨name, qual, params, body, scope, [("__class__", cc)], cda⟩ f s.heap.objs.size)) _ _
  refine ks_codeAny_funcAt ?_
  have kp : ∀ b o, s.heap.get? b = some o → h₁.get? b = some o := fun b o e => hsb.extBut b o (Nat.ne_of_lt (Heap.lt_size e)) (Heap.get?_push_of_some _ e)
  obtain ⟨t, ht, hq⟩ := hbody A outer s H vs Q E (hr.deeper _) hsp
  have I : Inv (ncx CX P w K mg base N ⟨name, qual, params, body, scope, [("__class__", cc)], cda⟩ f A outer s H E) [] (startF N vs [none]) H { s with heap := h₁, toks := s.toks + (ps.zip us).length } := inv_startN S hr.hd e0 hl r C hns kp
  refine ks_wpAt_mono (ht.run [] _ (startF N vs [none]) H _ I hq) (fun fl s' hs => ?_) fun e s' hs => hs
  have fin : ∀ {σ' : L2.St} {H' : Hp} {v : V} {u : Value}, Inv (ncx CX P w K mg base N ⟨name, qual, params, body, scope, [("__class__", cc)], cda⟩ f A outer s H E) [] σ' H' s' → L2.RelV v u → Q v H' → CE outer P w H s Q u s' :=
    fun {σ' H' v u} J rv q => ⟨v, H', J.os, J.bare, J.base, J.hok, rv, q⟩
  cases fl with
  | ret u =>
    obtain ⟨v, σ', H', J, rv, q⟩ := hs
    exact fin J rv q
  | next =>
    obtain ⟨σ', H', J, q⟩ := hs
    exact fin (v := V.non) (u := Value.none) J rfl q
  | brk =>
    obtain ⟨_, _, _, q⟩ := hs
    exact False.elim q
  | cont =>
    obtain ⟨_, _, _, q⟩ := hs
    exact False.elim q
end G
set_option Elab.async false
set_option linter.all false
set_option maxRecDepth 100000
set_option maxHeartbeats 2000000
/-! G3: a cell, its box, a draw from it. -/
namespace G
open PySem PySem.Spec PyProof.Rows L2
def topS (i : Nat) : Stmt := PySem.Challenge.pw_listviews_k19_whole_finer_orders_or_part.main.body.getD i (.Pass ⟨0, 0, 0, 0⟩)
abbrev sCell : Stmt := topS 35
abbrev sBox : Stmt := topS 36
abbrev sTake : Stmt := topS 37
theorem scCell : FnScope ["_law_script", "_law_k"] ["_law_script", "_law_k"] (defScope sCell) := ⟨rfl, rfl, rfl, by decide +kernel, rfl, by decide +kernel, by decide +kernel⟩
theorem scBox : FnScope ["_law_cell_here"] ["_law_cell_here"] (defScope sBox) := ⟨rfl, rfl, rfl, by decide +kernel, rfl, by decide +kernel, by decide +kernel⟩
theorem scTake : FnScope ["_law_box_here", "_law_many", "_law_digit", "_law_mixed_here"] ["_law_box_here", "_law_many"] (defScope sTake) := ⟨rfl, rfl, rfl, by decide +kernel, rfl, by decide +kernel, by decide +kernel⟩
/-- all but b stands as it stood -/
def But (b : Addr) (H H' : Hp) : Prop := ∀ c o, c ≠ b → H c = some o → H' c = some o
theorem But.refl (b : Addr) (H : Hp) : But b H H := fun _ _ _ h => h
theorem But.trans {b : Addr} {H H1 H2 : Hp} (x : But b H H1) (y : But b H1 H2) : But b H H2 := fun c o n h => y c o n (x c o n h)
theorem But.upd {b : Addr} {H : Hp} {o : HO} : But b H (upd H b o) := fun c u n h => by
  rw [upd_ne n]
  exact h
theorem But.new {b p : Addr} {H : Hp} {o : HO} (h : H p = none) : But b H (L2.upd H p o) := fun c u n e => by
  rw [upd_ne (ne_of_none e h)]
  exact e
theorem But.same {b : Addr} {H H' : Hp} (h : Same H H') : But b H H' := fun c o _ e => h c o e
theorem Same.new {p : Addr} {H : Hp} {o : HO} (h : H p = none) : Same H (upd H p o) := fun c u e => by
  rw [upd_ne (ne_of_none e h)]
  exact e
/-- a box from which at most n draws were made -/
def BoxAt (H : Hp) (b : Addr) (n : Nat) : Prop := ∃ x y z : Int, H b = some (.lst [.int x, .int y, .int z]) ∧ 0 ≤ x ∧ 0 ≤ y ∧ y < 2147483629 ∧ 0 ≤ z ∧ z ≤ n
theorem BoxAt.mono {H : Hp} {b : Addr} {n m : Nat} (h : BoxAt H b n) (le : n ≤ m) : BoxAt H b m := by
  obtain ⟨x, y, z, e, h1, h2, h3, h4, h5⟩ := h
  exact ⟨x, y, z, e, h1, h2, h3, h4, by omega⟩
theorem BoxAt.keep {H H' : Hp} {b : Addr} {n : Nat} (h : BoxAt H b n) (s : ∀ o, H b = some o → H' b = some o) : BoxAt H' b n := by
  obtain ⟨x, y, z, e, r⟩ := h
  exact ⟨x, y, z, s _ e, r⟩
/-- a draw is one of so many -/
theorem draw_at {r m : Int} {n : Nat} (h0 : 0 ≤ r) (h1 : r < m) (e : m = n) : ∃ j : Nat, r = j ∧ j < n := ⟨r.toNat, by omega, by omega⟩
def spCell' (K : PySem.W.Frag) : Sp := fun vs H Q _ => ∃ (a : Addr) (ns : List Int) (z : Int), vs = [.ref a, .int z] ∧ SqL K H a (ns.map V.int) ∧ 0 ≤ z ∧ z < 1000 ∧ ∀ i : Int, Q (.int i) H
def spBox : Sp := fun vs H Q _ => ∃ i : Int, vs = [.int i] ∧ ∀ (b : Addr) (H' : Hp), H b = none → Same H H' → BoxAt H' b 0 → Q (.ref b) H'
def spTake : Sp := fun vs H Q _ => ∃ (b : Addr) (m : Int) (n : Nat), vs = [.ref b, .int m] ∧ BoxAt H b n ∧ n ≤ 100000 ∧ 0 < m ∧ m < 2 ^ 200 ∧
  ∀ (r : Int) (H' : Hp), 0 ≤ r → r < m → BoxAt H' b (n + 1) → But b H H' → Q (.int r) H'
section
variable {P : Program} {w : World} {K : PySem.W.Frag} {mg : Str → Option Value} {base : Heap}
theorem ok_cell {f : Addr} {fd : FuncData} (F : Fun K "_law_cell" "_law_cell" sCell f fd) (ml : mg "len" = none) : FnOk P w K mg base CX0 1 f fd ["_law_script", "_law_k"] (spCell' K) := by
  refine F.ok scCell (fun vs H Q E h => ?_) (fun cdv A outer s H vs Q E hr h => ?_)
  · obtain ⟨a, ns, j, rfl, _⟩ := h
    rfl
  · obtain ⟨a, ns, z, rfl, hS, z0, z1, q⟩ := h
    obtain ⟨j, rfl, hj⟩ := draw_at (n := 1000) z0 z1 rfl
    refine ⟨_, pss_cons (ps_if (pt_cmpR op_lt (pv 1) (pe_callB call_len_seq (by rfl) ml PySem.boot_len (pa_cons (pv 0) pa_nil)) (nomark _))
        (pss_one (ps_ret (pe_ix ix_list (pv 0) (pv 1) (fun _ _ => rfl)))) pss_nil)
      (pss_one (ps_ret (pe_op op_add (pe_op op_mul pe_int (pv 1)) pe_int))), ?_⟩
    refine ⟨_, rfl, _, rfl, a, _, rfl, .inl hS, _, _, rfl, rfl, _, rfl, ite2 (fun e => ?_) (fun _ => ?_)⟩
    · have e1 : (j : Int) < ((ns.map V.int).length : Nat) := of_decide_eq_true e
      have e2 : j < ns.length := by
        rw [List.length_map] at e1
        omega
      exact ⟨_, rfl, _, rfl, a, _, _, .int ns[j], rfl, rfl, hS, atI_nat (by rw [List.getElem?_map, List.getElem?_eq_getElem e2] <;> rfl), q _⟩
    · exact ⟨_, rfl, _, _, rfl, rfl, .inl ⟨by decide, by decide⟩, _, _, rfl, rfl, q _⟩
theorem ok_box {f : Addr} {fd : FuncData} (F : Fun K "_law_box" "_law_box" sBox f fd) (mm : mg "max" = none) : FnOk P w K mg base CX0 1 f fd ["_law_cell_here"] spBox := by
  refine F.ok scBox (fun vs H Q E h => ?_) (fun cdv A outer s H vs Q E hr h => ?_)
  · obtain ⟨i, rfl, _⟩ := h
    rfl
  · obtain ⟨i, rfl, q⟩ := h
    refine ⟨_, pss_one (ps_ret (pe_lst (pa_cons (pe_callB (call_max2 rfl) (by rfl) mm (by decide +kernel) (pa_cons pe_int (pa_cons (pe_op op_sub (pv 0) (pe_op op_pow pe_int pe_int)) pa_nil)))
      (pa_cons (pe_op op_mod (pv 0) pe_int) (pa_cons pe_int pa_nil))))), ?_⟩
    refine ⟨_, rfl, _, _, rfl, rfl, ⟨by decide, by decide, by decide⟩, _, _, rfl, rfl, _, _, rfl, _, rfl, _, _, rfl, rfl, (by show (0 : Int) < 2147483629; decide), (by show 3 ≤ sizeLine; decide), fun b hb => ?_⟩
    refine q b _ hb (Same.new hb) ⟨_, _, _, upd_same, ?_, Int.emod_nonneg _ (by decide), Int.emod_lt_of_pos _ (by decide), Int.le_refl _, Int.le_refl _⟩
    split <;> omega
theorem emod_in (a m : Int) (h : 0 < m) : 0 ≤ a % m ∧ a % m < m := ⟨Int.emod_nonneg _ (by omega), Int.emod_lt_of_pos _ h⟩
theorem ok_take {f : Addr} {fd : FuncData} (F : Fun K "_law_take" "_law_take" sTake f fd) : FnOk P w K mg base CX0 1 f fd ["_law_box_here", "_law_many"] spTake := by
  refine F.ok scTake (fun vs H Q E h => ?_) (fun cdv A outer s H vs Q E hr h => ?_)
  · obtain ⟨b, m, n, rfl, _⟩ := h
    rfl
  · obtain ⟨b, m, n, rfl, ⟨x, y, z, hb, hx, hy, hy2, hz, hzn⟩, hn, hm, hm2, q⟩ := h
    refine ⟨_, pss_cons (ps_if (pt_cmpR op_gt (pe_ix ix_list (pv 0) pe_int (fun _ _ => rfl)) pe_int (nomark _))
        (pss_cons (ps_set (i := 2) scTake.nd rfl (.inl rfl) (pe_op op_mod (pe_ix ix_list (pv 0) pe_int (fun _ _ => rfl)) (pv 1)))
        (pss_cons (ps_asg (pe_op op_fdivW (pe_ix ix_list (pv 0) pe_int (fun _ _ => rfl)) (pv 1)) (pg_sub (pv 0) pe_int set_list))
        (pss_one (ps_ret (pv 2))))) pss_nil)
      (pss_cons (ps_asg (pe_op op_add (pe_ix ix_list (pv 0) pe_int (fun _ _ => rfl)) pe_int) (pg_sub (pv 0) pe_int set_list))
      (pss_cons (ps_set (i := 3) scTake.nd rfl (.inl rfl) (pe_op op_mod (pe_op op_pow (pe_op op_add (pe_op op_add (pe_ix ix_list (pv 0) pe_int (fun _ _ => rfl)) (pe_op op_mul pe_int (pe_ix ix_list (pv 0) pe_int (fun _ _ => rfl)))) pe_int) pe_int) pe_int))
      (pss_cons (ps_set (i := 3) scTake.nd rfl (.inl rfl) (pe_op op_mod (pe_op op_pow (pe_op op_add (pv 3) (pe_op op_mul pe_int (pe_ix ix_list (pv 0) pe_int (fun _ _ => rfl)))) pe_int) pe_int))
      (pss_one (ps_ret (pe_op op_mod (pe_op op_fdivW (pv 3) pe_int) (pv 1))))))), ?_⟩
    -- if box[0] > 0
    refine ⟨_, rfl, b, _, 0, .int x, rfl, rfl, .of hb, rfl, _, _, rfl, rfl, _, rfl, ite2 (fun e => ?_) (fun _ => ?_)⟩
    · refine ⟨_, rfl, b, _, 0, .int x, rfl, rfl, .of hb, rfl, _, rfl, _, _, rfl, rfl, hm, ?_⟩
      refine ⟨_, rfl, b, _, 0, .int x, rfl, rfl, .of hb, rfl, _, rfl, _, _, rfl, rfl, wide_div hm (b := 200) (by omega) (by decide) (by decide), ?_⟩
      refine ⟨_, rfl, b, _, 0, 0, rfl, rfl, hb, rfl, _, rfl, ?_⟩
      have r := emod_in x m hm
      exact q _ _ r.1 r.2 ⟨_, _, _, upd_same, Int.ediv_nonneg hx (by omega), hy, hy2, hz, by omega⟩ But.upd
    · refine ⟨_, rfl, b, _, 2, .int z, rfl, rfl, .of hb, rfl, _, _, rfl, rfl, ?_⟩
      refine ⟨_, rfl, b, _, 2, 2, rfl, rfl, hb, rfl, ?_⟩
      have hb' : (upd H b (.lst [.int x, .int y, .int (z + 1)])) b = some (.lst [.int x, .int y, .int (z + 1)]) := upd_same
      refine ⟨_, rfl, b, _, 1, .int y, rfl, rfl, .of hb', rfl, _, rfl, b, _, 2, .int (z + 1), rfl, rfl, .of hb', rfl, _, _, rfl, rfl, .inl ⟨by decide, by decide⟩, _, _, rfl, rfl, _, _, rfl, rfl,
        _, _, rfl, rfl, ⟨by decide, by decide, by omega⟩, _, _, rfl, rfl, (by show (0 : Int) < 2147483647; decide), ?_⟩
      generalize h1 : ((y + 7507 * (z + 1) + 211) ^ (5 : Int).toNat : Int) = t1
      have r1 := emod_in t1 2147483647 (by decide)
      refine ⟨_, rfl, _, rfl, b, _, 2, .int (z + 1), rfl, rfl, .of hb', rfl, _, _, rfl, rfl, .inl ⟨by decide, by decide⟩, _, _, rfl, rfl, _, _, rfl, rfl, ⟨by decide, by decide, by omega⟩, _, _, rfl, rfl, (by show (0 : Int) < 2147483587; decide), ?_⟩
      generalize h2 : ((t1 % 2147483647 + 104729 * (z + 1)) ^ (3 : Int).toNat : Int) = t2
      refine ⟨_, rfl, _, _, rfl, rfl, wide_div (by decide) (b := 200) (by decide) (by decide) (by decide), _, rfl, _, _, rfl, rfl, hm, ?_⟩
      have r := emod_in (t2 % 2147483587 / 16) m hm
      exact q _ _ r.1 r.2 ⟨_, _, _, upd_same, hx, hy, hy2, by omega, by omega⟩ But.upd
end
end G
set_option Elab.async false
set_option linter.all false
set_option maxRecDepth 100000
set_option maxHeartbeats 2000000
/-! G5: what data in the heap keeps, its type, == of it. -/
namespace G
open PySem PySem.Spec PyProof.Rows L2
section
variable {K : PySem.W.Frag} {H H' : Hp}
mutual
theorem rp_same (s : Same H H') : ∀ (d : PyData) (v : V), Rp K H v d → Rp K H' v d
  | .none, _, h => by
    cases h
    exact .non
  | .bool b, _, h => by
    cases h
    exact .bl b
  | .int i, _, h => by
    cases h
    exact .int i
  | .str x, _, h => by
    cases h
    exact .str x
  | .list ds, _, h => by
    cases h with
    | lst e r => exact .lst (s _ _ e) (rp_sameAll s ds _ r)
  | .tuple ds, _, h => by
    cases h with
    | tup e r => exact .tup (s _ _ e) (rp_sameAll s ds _ r)
  | .dict ds, _, h => by
    cases h with
    | dic e r q => exact .dic (s _ _ e) (rp_sameK s ds _ r) (rp_sameV s ds _ q)
theorem rp_sameAll (s : Same H H') : ∀ (ds : List PyData) (vs : List V), RpAll K H vs ds → RpAll K H' vs ds
  | [], _, h => by
    cases h
    exact .nil
  | d :: ds, _, h => by
    cases h with
    | cons a b => exact .cons (rp_same s d _ a) (rp_sameAll s ds _ b)
theorem rp_sameK (s : Same H H') : ∀ (ds : List (PyData × PyData)) (vs : List V), RpAll K H vs (ds.map (·.1)) → RpAll K H' vs (ds.map (·.1))
  | [], _, h => by
    cases h
    exact .nil
  | (d, _) :: ds, _, h => by
    cases h with
    | cons a b => exact .cons (rp_same s d _ a) (rp_sameK s ds _ b)
theorem rp_sameV (s : Same H H') : ∀ (ds : List (PyData × PyData)) (vs : List V), RpAll K H vs (ds.map (·.2)) → RpAll K H' vs (ds.map (·.2))
  | [], _, h => by
    cases h
    exact .nil
  | (_, d) :: ds, _, h => by
    cases h with
    | cons a b => exact .cons (rp_same s d _ a) (rp_sameV s ds _ b)
end
theorem rp_len : ∀ {ds : List PyData} {vs : List V}, RpAll K H vs ds → vs.length = ds.length
  | [], _, h => by
    cases h
    rfl
  | _ :: ds, _, h => by
    cases h with
    | cons a b =>
      rw [List.length_cons, List.length_cons, rp_len b]
theorem rp_at : ∀ {ds : List PyData} {vs : List V} {i : Nat} {v : V}, RpAll K H vs ds → vs[i]? = some v → ∃ d, ds[i]? = some d ∧ Rp K H v d
  | [], _, i, v, h, e => by
    cases h
    simp at e
  | d :: ds, _, i, v, h, e => by
    cases h with
    | cons a b =>
      cases i with
      | zero =>
        have e' := Option.some.inj e
        subst e'
        exact ⟨d, rfl, a⟩
      | succ j => exact rp_at (ds := ds) (i := j) b (by simpa using e)
theorem rp_app : ∀ {ds : List PyData} {vs : List V} {v : V} {d : PyData}, RpAll K H vs ds → Rp K H v d → RpAll K H (vs ++ [v]) (ds ++ [d])
  | [], _, _, _, h, r => by
    cases h
    exact .cons r .nil
  | _ :: ds, _, _, _, h, r => by
    cases h with
    | cons a b => exact .cons a (rp_app b r)
theorem rp_set : ∀ {ds : List PyData} {vs : List V} {v : V} {d : PyData} (i : Nat), RpAll K H vs ds → Rp K H v d → RpAll K H (vs.set i v) (ds.set i d)
  | [], _, _, _, _, h, r => by
    cases h
    exact .nil
  | _ :: ds, _, _, _, i, h, r => by
    cases h with
    | cons a b =>
      cases i with
      | zero => exact .cons r b
      | succ j => exact .cons a (rp_set j b r)
theorem rp_ints : ∀ (is : List Int), RpAll K H (is.map V.int) (is.map PyData.int)
  | [] => .nil
  | i :: is => .cons (.int i) (rp_ints is)
mutual
theorem rp_dp : ∀ (d : PyData) (v : V), d.hasDict = false → Rp K H v d → Dp K H v d
  | .none, _, _, h => by
    cases h
    exact .non
  | .bool b, _, _, h => by
    cases h
    exact .bl b
  | .int i, _, _, h => by
    cases h
    exact .int i
  | .str x, _, _, h => by
    cases h
    exact .str x
  | .list ds, _, n, h => by
    cases h with
    | lst e r => exact .lst (.of e) (rp_dpAll ds _ (by simpa [PyData.hasDict] using n) r)
  | .tuple ds, _, n, h => by
    cases h with
    | tup e r => exact .tup (.of e) (rp_dpAll ds _ (by simpa [PyData.hasDict] using n) r)
  | .dict ds, _, n, h => by simp [PyData.hasDict] at n
theorem rp_dpAll : ∀ (ds : List PyData) (vs : List V), PyData.hasDictAll ds = false → RpAll K H vs ds → DpAll K H vs ds
  | [], _, _, h => by
    cases h
    exact .nil
  | d :: ds, _, n, h => by
    simp only [PyData.hasDictAll, Bool.or_eq_false_iff] at n
    cases h with
    | cons a b => exact .cons (rp_dp d _ n.1 a) (rp_dpAll ds _ n.2 b)
end
/-- the name of a thing's type -/
def tyN : PyData → String
  | .none => "NoneType"
  | .bool _ => "bool"
  | .int _ => "int"
  | .str _ => "str"
  | .list _ => "list"
  | .tuple _ => "tuple"
  | .dict _ => "dict"
theorem rp_ty {v : V} {d : PyData} (h : Rp K H v d) : TyX K H v (.type (tyN d)) := by
  cases h with
  | non => exact .base .non
  | bl b => exact .base (.bl b)
  | int i => exact .base (.int i)
  | str x => exact .base (.str x)
  | lst e r => exact .base (.lst e)
  | tup e r => exact .base (.tup e)
  | dic e r q => exact .base (.dK e)
end
/-- H without what stands at b -/
def hide (b : Addr) (H : Hp) : Hp := fun a => if a = b then none else H a
theorem hide_same (b : Addr) (H : Hp) : Same (hide b H) H := fun a o e => by
  by_cases h : a = b
  · rw [show hide b H a = none from if_pos h] at e
    cases e
  · rwa [show hide b H a = H a from if_neg h] at e
theorem hide_ne {b a : Addr} {H : Hp} (h : a ≠ b) : hide b H a = H a := if_neg h
theorem hide_at {b : Addr} {H : Hp} : hide b H b = none := if_pos rfl
theorem hide_but {b : Addr} {H H' : Hp} (h : But b H H') : Same (hide b H) (hide b H') := fun a o e => by
  have n : a ≠ b := fun z => by
    rw [z, hide_at] at e
    cases e
  rw [hide_ne n] at e ⊢
  exact h a o n e
theorem hide_upd {b : Addr} {H : Hp} {o : HO} : hide b (upd H b o) = hide b H := by
  funext a
  by_cases h : a = b
  · rw [h, hide_at, hide_at]
  · rw [hide_ne h, hide_ne h, upd_ne h]
/-- what is new is not in what stood -/
theorem hide_new {b : Addr} {H : Hp} (h : H b = none) : Same H (hide b H) := fun a o e => by
  rw [hide_ne (ne_of_none e h)]
  exact e
theorem hide_mono {b : Addr} {H H' : Hp} (h : Same H H') : Same (hide b H) (hide b H') := hide_but fun c o _ e => h c o e
theorem hide_hide {b c : Addr} {H : Hp} : hide b (hide c H) = hide c (hide b H) := by
  funext a
  unfold hide
  split <;> split <;> rfl
end G
set_option Elab.async false
set_option linter.all false
set_option maxRecDepth 100000
set_option maxHeartbeats 2000000
/-! V3: the items of a list, in a drawn order. -/
namespace G
open PySem PySem.Spec PyProof.Rows L2
abbrev sMixed : Stmt := topS 38
theorem scMixed : FnScope ["_law_box_here", "_law_some", "_law_left", "_law_found"] ["_law_box_here", "_law_some"] (defScope sMixed) := ⟨rfl, rfl, rfl, by decide +kernel, rfl, by decide +kernel, by decide +kernel⟩
/-- data that == takes: no dict, texts that can be compared, not too deep -/
def lay (d : PyData) : Prop := d.hasDict = false ∧ d.canLay0 = true ∧ d.depth ≤ 60
theorem lay_all : ∀ {ds : List PyData}, (∀ d ∈ ds, lay d) → PyData.hasDictAll ds = false ∧ PyData.canLayAll0 ds = true ∧ PyData.depthAll ds ≤ 60
  | [], _ => ⟨rfl, rfl, Nat.zero_le _⟩
  | d :: ds, h => by
    obtain ⟨a1, a2, a3⟩ := h d List.mem_cons_self
    obtain ⟨b1, b2, b3⟩ := lay_all (ds := ds) fun e he => h e (List.mem_cons_of_mem _ he)
    refine ⟨?_, ?_, ?_⟩
    · rw [PyData.hasDictAll, a1, b1]
      rfl
    · rw [PyData.canLayAll0, a2, b2]
      rfl
    · rw [PyData.depthAll]
      exact Nat.max_le.mpr ⟨a3, b3⟩
theorem lay_shaped {d : PyData} (h : lay d) : SeqAt.shaped d = true := by
  unfold SeqAt.shaped
  rw [h.2.1, decide_eq_true (Nat.le_trans h.2.2 (by decide))]
  rfl
theorem lay_list {ds : List PyData} (h : ∀ d ∈ ds, lay d) : SeqAt.shaped (.list ds) = true := by
  obtain ⟨_, b2, b3⟩ := lay_all h
  unfold SeqAt.shaped
  rw [PyData.canLay0, b2, decide_eq_true (show (PyData.list ds).depth ≤ 64 by rw [PyData.depth]; omega)]
  rfl
/-- values and what they show -/
abbrev Vd := V × PyData
theorem rp_pairs {K : PySem.W.Frag} {H : Hp} : ∀ {qs : List Vd}, (∀ p ∈ qs, Rp K H p.1 p.2) → RpAll K H (qs.map (·.1)) (qs.map (·.2))
  | [], _ => .nil
  | p :: qs, h => .cons (h p List.mem_cons_self) (rp_pairs fun q hq => h q (List.mem_cons_of_mem _ hq))
theorem dp_pairs {K : PySem.W.Frag} {H : Hp} {qs : List Vd} (h : ∀ p ∈ qs, Rp K H p.1 p.2) (l : ∀ p ∈ qs, lay p.2) : DpAll K H (qs.map (·.1)) (qs.map (·.2)) :=
  rp_dpAll _ _ (lay_all (ds := qs.map (·.2)) fun d hd => by
    obtain ⟨p, hp, rfl⟩ := List.mem_map.mp hd
    exact l p hp).1 (rp_pairs h)
theorem erase_map {α β : Type} (f : α → β) : ∀ (l : List α) (j : Nat), (l.map f).eraseIdx j = (l.eraseIdx j).map f
  | [], _ => rfl
  | _ :: _, 0 => rfl
  | x :: l, j + 1 => by
    show f x :: (l.map f).eraseIdx j = f x :: (l.eraseIdx j).map f
    rw [erase_map f l j]
theorem erase_perm {α : Type} : ∀ {l : List α} {j : Nat} (h : j < l.length), ([l[j]] ++ l.eraseIdx j).Perm l
  | _ :: _, 0, _ => .refl _
  | x :: l, j + 1, h => by
    have hj : j < l.length := by simpa using h
    have ih := erase_perm hj
    show (l[j] :: x :: l.eraseIdx j).Perm (x :: l)
    exact (List.Perm.swap x _ _).trans (List.Perm.cons x ih)
/-- some: any order of its items, in a new list -/
def spMixed (K : PySem.W.Frag) : Sp := fun vs H Q _ => ∃ (b a : Addr) (n : Nat) (ps : List Vd), vs = [.ref b, .ref a] ∧ BoxAt H b n ∧ n + ps.length ≤ 100000 ∧ (SqL K H a (ps.map (·.1)) ∨ SqT K H a (ps.map (·.1))) ∧
  (∀ p ∈ ps, lay p.2 ∧ ∀ H', But b H H' → Rp K H' p.1 p.2) ∧
  ∀ (p : Addr) (H' : Hp) (qs : List Vd), qs.Perm ps → H p = none → H' p = some (.lst (qs.map (·.1))) → BoxAt H' b (n + ps.length) → But b H H' → Q (.ref p) H'
theorem eqv_nil (ds : List PyData) : PyData.eqv (.list ds) (.list []) = ds.isEmpty := by
  cases ds with
  | nil => rfl
  | cons d ds => rfl
section
variable {P : Program} {w : World} {K : PySem.W.Frag} {mg : Str → Option Value} {base : Heap}
theorem ok_mixed {f fT : Addr} {fd fdT : FuncData} (F : Fun K "_law_mixed" "_law_mixed" sMixed f fd) (T : Fun K "_law_take" "_law_take" sTake fT fdT) (bT : Binds K fdT ["_law_box_here", "_law_many"] []) (gT : mg "_law_take" = some (.ref fT))
    (ml : mg "len" = none) (mL : mg "list" = none) : FnOk P w K mg base CX0 2 f fd ["_law_box_here", "_law_some"] (spMixed K) := by
  refine F.ok scMixed (fun vs H Q E h => ?_) (fun cdv A outer s H vs Q E hr h => ?_)
  · obtain ⟨b, a, n, ps, rfl, _⟩ := h
    rfl
  · obtain ⟨b, a, n, ps, rfl, B, hn, hS, hp, q⟩ := h
    have big : ∀ {k : Nat}, k ≤ 100000 → k < sizeLine := fun {k} h => by
      rw [sizeLine_eq]
      omega
    refine ⟨_, pss_cons (ps_par (i := 2) (j := 3) (by rfl) scMixed.nd rfl rfl (by decide) rfl rfl (pa_cons (pe_callTy call_list_of (by rfl) mL (by decide +kernel) (pa_cons (pv 1) pa_nil)) (pa_cons (pe_lst pa_nil) pa_nil)) (by rfl))
      (pss_cons (ps_while PassesOwn.never (pt_cmpR (op_neD hr.units) (pv 2) (pe_lst pa_nil) (nomark _))
        (pss_one (ps_expr (pe_bm PySem.F.plainAttrs_list PySem.F.slot_list_append PySem.F.type_list_append mt_append (pv 3) (pa_cons
          (pe_bm PySem.F.plainAttrs_list PySem.F.slot_list_pop PySem.F.type_list_pop mt_popAt (pv 2)
            (pa_cons (pe_call (ok_take T) hr rfl gT T.kp bT .nil pass0 (pa_cons (pv 0) (pa_cons (pe_callB call_len_seq (by rfl) ml PySem.boot_len (pa_cons (pv 2) pa_nil)) pa_nil))) pa_nil)) pa_nil)))))
      (pss_one (ps_ret (pv 3)))), ?_⟩
    refine ⟨_, rfl, a, _, rfl, hS, fun l hl => ⟨by decide, fun p hp0 => ⟨_, _, rfl, ?_⟩⟩⟩
    have nlp : l ≠ p := fun z => by
      rw [z, upd_same] at hp0
      cases hp0
    have hpn : H p = none := (upd_ne nlp.symm).symm.trans hp0
    have nbl : b ≠ l := by
      obtain ⟨_, _, _, e, _⟩ := B
      exact ne_of_none e hl
    have nbp : b ≠ p := by
      obtain ⟨_, _, _, e, _⟩ := B
      exact ne_of_none e hpn
    refine ⟨fun m σ H1 => ∃ qs rs : List Vd, m = qs.length ∧ σ = [some (.ref b), some (.ref a), some (.ref l), some (.ref p)] ∧ H1 l = some (.lst (qs.map (·.1))) ∧ H1 p = some (.lst (rs.map (·.1))) ∧
        (rs ++ qs).Perm ps ∧ BoxAt H1 b (n + rs.length) ∧ But b H H1, ⟨ps.length, ps, [], rfl, rfl, ?_, upd_same, .refl _, ?_, ?_⟩, ?_⟩
    · rw [upd_ne nlp, upd_same]
    · exact (B.keep fun o e => by rw [upd_ne nbp, upd_ne nbl]; exact e).mono (Nat.le_add_right _ _)
    · exact (But.new hl).trans (But.new hp0)
    · rintro m σ H1 ⟨qs, rs, rfl, rfl, el, ep, pm, B1, s1⟩
      have hq : ∀ x ∈ qs, x ∈ ps := fun x hx => pm.mem_iff.mp (List.mem_append_right _ hx)
      have hlen : rs.length + qs.length = ps.length := by
        rw [← List.length_append]
        exact pm.length_eq
      refine ⟨_, rfl, by decide, fun t ht => ?_⟩
      have nlt : l ≠ t := ne_of_none el ht
      have s2 : But b H (upd H1 t (.lst [])) := s1.trans (But.new ht)
      refine ⟨.list (qs.map fun x : Vd => x.2), .list [], .lst (xs := qs.map fun x : Vd => x.1) (.of (by rw [upd_ne nlt]; exact el)) (dp_pairs (fun x hx => (hp x (hq x hx)).2 _ s2) fun x hx => (hp x (hq x hx)).1), .lst (.of upd_same) .nil, lay_list (fun d hd => ?_), by rfl, _, rfl, ?_⟩
      · obtain ⟨x, hx, rfl⟩ := List.mem_map.mp hd
        exact (hp x (hq x hx)).1
      · rw [eqv_nil]
        cases qs with
        | nil =>
          refine iteF ?_
          refine ⟨_, rfl, ?_⟩
          rw [List.append_nil] at pm
          refine q p _ rs pm hpn ?_ ?_ s2
          · rw [upd_ne (ne_of_none ep ht)]
            exact ep
          · have e : rs.length = ps.length := pm.length_eq
            rw [← e]
            exact B1.keep fun o e => by rw [upd_ne (ne_of_none e ht)]; exact e
        | cons y ys =>
          refine iteT ?_
          have hlen' : rs.length + (ys.length + 1) = ps.length := hlen
          refine ⟨fun σ' H' => ∃ m', m' < (y :: ys).length ∧ ∃ qs rs : List Vd, m' = qs.length ∧ σ' = [some (.ref b), some (.ref a), some (.ref l), some (.ref p)] ∧ H' l = some (.lst (qs.map (·.1))) ∧ H' p = some (.lst (rs.map (·.1))) ∧
            (rs ++ qs).Perm ps ∧ BoxAt H' b (n + rs.length) ∧ But b H H', fun _ _ h => h, ?_⟩
          have ep2 : upd H1 t (.lst []) p = some (.lst (rs.map (·.1))) := by
            rw [upd_ne (ne_of_none ep ht)]
            exact ep
          have el2 : upd H1 t (.lst []) l = some (.lst ((y :: ys).map (·.1))) := by
            rw [upd_ne nlt]
            exact el
          have B2 : BoxAt (upd H1 t (.lst [])) b (n + rs.length) := B1.keep fun o e => by rw [upd_ne (ne_of_none e ht)]; exact e
          refine ⟨_, rfl, .inl ⟨rfl, _, .of ep2⟩, _, rfl, .inl ⟨rfl, _, .of el2⟩, _, rfl, _, rfl, l, _, rfl, .inl (.of el2), b, _, n + rs.length, rfl, B2, by omega, ?_, ?_, fun r H3 r0 r1 B3 s3 => ?_⟩
          · rw [List.length_map]
            show (0 : Int) < ((ys.length + 1 : Nat) : Int)
            omega
          · rw [List.length_map]
            show ((ys.length + 1 : Nat) : Int) < _
            have : ys.length + 1 ≤ 100000 := by omega
            omega
          · obtain ⟨j, rfl, hj⟩ := draw_at r0 r1 (n := (y :: ys).length) (by rw [List.length_map])
            have el3 : H3 l = some (.lst ((y :: ys).map (·.1))) := s3 _ _ nbl.symm el2
            have ep3 : H3 p = some (.lst (rs.map (·.1))) := s3 _ _ nbp.symm ep2
            have hjm : j < ((y :: ys).map (·.1)).length := by
              rw [List.length_map]
              exact hj
            have hj5 : j < 100000 := by
              have e : (y :: ys).length = ys.length + 1 := rfl
              omega
            refine ⟨l, _, (j : Int), j, ((y :: ys)[j]).1, rfl, rfl, el3, by omega, by omega, ?_, ?_, ?_⟩
            · have := PySem.seqIndex_of (k := (j : Int)) (n := ((y :: ys).map (·.1)).length) (by omega) (by omega)
              rw [this]
              rfl
            · rw [List.getElem?_map, List.getElem?_eq_getElem hj]
              rfl
            · refine ⟨p, _, _, rfl, rfl, by rw [upd_ne nlp.symm]; exact ep3, ?_, ?_⟩
              · rw [List.length_map]
                exact big (by omega)
              · refine ⟨((y :: ys).eraseIdx j).length, ?_, (y :: ys).eraseIdx j, rs ++ [(y :: ys)[j]], rfl, rfl, ?_, ?_, ?_, ?_, ?_⟩
                · rw [List.length_eraseIdx, if_pos hj]
                  show (ys.length + 1) - 1 < ys.length + 1
                  omega
                · rw [upd_ne nlp, upd_same, erase_map]
                · rw [upd_same, List.map_append]
                  rfl
                · rw [List.append_assoc]
                  refine List.Perm.trans (List.Perm.append_left rs ?_) pm
                  exact erase_perm hj
                · rw [List.length_append, List.length_singleton]
                  exact B3.keep fun o e => by rw [upd_ne nbp, upd_ne nbl]; exact e
                · intro c o nc e
                  have e3 := (s2.trans s3) c o nc e
                  rw [upd_ne (ne_of_none e hpn), upd_ne (ne_of_none e hl)]
                  exact e3
end
end G
set_option Elab.async false
set_option linter.all false
set_option maxRecDepth 100000
set_option maxHeartbeats 2000000
/-! V4: drawn names. -/
namespace G
open PySem PySem.Spec PyProof.Rows L2
abbrev sNames : Stmt := topS 39
abbrev nNames : List Str := ["_law_box_here", "_law_many", "_law_letters", "_law_way", "_law_cut", "_law_begin", "_law_step", "_law_stem", "_law_k", "_law_found", "_law_letter", "_law_name"]
theorem scNames : FnScope nNames ["_law_box_here", "_law_many"] (defScope sNames) := ⟨rfl, rfl, rfl, by decide +kernel, rfl, by decide +kernel, by decide +kernel⟩
abbrev cs (z : Str) : List Nat := z.cps.toList
theorem cs_len (z : Str) : (cs z).length = z.length := by simp [cs, Str.length]
theorem cs_app (a b : Str) : cs (a ++ b) = cs a ++ cs b := TL.tl_append a b
theorem app_len (a b : Str) : (a ++ b).length = a.length + b.length := strLen_append a b
theorem small_size {n : Nat} (h : n ≤ 7000) : n ≤ sizeLine := by
  rw [sizeLine_eq]
  omega
theorem box_new {H : Hp} {b p : Addr} {n : Nat} {o : HO} (B : BoxAt H b n) (h : H p = none) : BoxAt (upd H p o) b n := B.keep fun o' e => Same.new h b o' e
theorem box_ne {H : Hp} {b p : Addr} {n : Nat} (B : BoxAt H b n) (h : H p = none) : p ≠ b := fun z => by
  obtain ⟨_, _, _, e, _⟩ := B
  rw [← z, h] at e
  cases e
theorem box_upd {H : Hp} {b p : Addr} {n : Nat} {o : HO} (B : BoxAt H b n) (h : p ≠ b) : BoxAt (upd H p o) b n := by
  obtain ⟨x, y, z, e, r⟩ := B
  exact ⟨x, y, z, (upd_ne h.symm).trans e, r⟩
/-- a store at what was new -/
theorem but_upd {b p : Addr} {H H1 : Hp} {o : HO} (k : But b H H1) (h : H p = none) : But b H (upd H1 p o) := fun c u n e => by
  rw [upd_ne (ne_of_none e h)]
  exact k c u n e
theorem free_of {b p : Addr} {H H' : Hp} (k : But b H H') (n : p ≠ b) (h : H' p = none) : H p = none := by
  cases e : H p with
  | none => rfl
  | some o =>
    rw [k p o n e] at h
    cases h
/-! ### names -/
def LowZ (z : Str) : Prop := ∀ c ∈ cs z, 97 ≤ c ∧ c ≤ 122
def NameZ (z : Str) : Prop := LowZ z ∧ 1 ≤ z.length ∧ z.length ≤ 8
def NameI (y : Str) (i : Nat) : Prop := LowZ y ∧ 1 ≤ y.length ∧ y.length ≤ 8 ∧ (26 ≤ i → y.length ≤ 7)
theorem LowZ.app {a b : Str} (h1 : LowZ a) (h2 : LowZ b) : LowZ (a ++ b) := fun c hc => by
  rw [cs_app] at hc
  rcases List.mem_append.mp hc with h | h
  · exact h1 c h
  · exact h2 c h
theorem LowZ.cut {a : Str} (h : LowZ a) (lo hi : Option Int) : LowZ (cutS a lo hi) := fun c hc => by
  have hc' : c ∈ ((cs a).drop _).take _ := hc
  exact h c (List.mem_of_mem_drop (List.mem_of_mem_take hc'))
theorem low_one {c : Nat} (h : 97 ≤ c ∧ c ≤ 122) : LowZ ⟨#[c]⟩ := fun x hx => by
  have : x ∈ [c] := hx
  rw [List.mem_singleton.mp this]
  exact h
theorem LowZ.lay {z : Str} (h : LowZ z) : lay (.str z) := by
  refine ⟨rfl, ?_, Nat.zero_le _⟩
  show z.cps.all (· < 0x110000) = true
  rw [Array.all_eq_true]
  intro i hi
  have := h z.cps[i] (by simp [cs])
  exact decide_eq_true (by omega)
abbrev abc : Str := "abcdefghijklmnopqrstuvwxyz"
theorem abc_low : LowZ abc := by
  have h : ((cs abc).all fun c => decide (97 ≤ c ∧ c ≤ 122)) = true := by decide +kernel
  exact fun c hc => of_decide_eq_true (List.all_eq_true.mp h c hc)
theorem abc_at {j : Nat} (hj : j < 26) : ∃ c, abc.cps[j]? = some c ∧ 97 ≤ c ∧ c ≤ 122 := by
  have h1 : j < abc.cps.size := hj
  refine ⟨abc.cps[j], by simp [h1], abc_low _ ?_⟩
  simp [cs]
theorem cut_first (z : Str) (k : Nat) : cs (cutS z none (some (k : Int))) = (cs z).take k := by
  show ((cs z).drop (HT.sIx z.length 0 none)).take (HT.sIx z.length z.length (some (k : Int)) - HT.sIx z.length 0 none) = _
  rw [HT.sIx_none, HT.sIx_nat z.length z.length k, List.drop_zero, ← cs_len, Nat.sub_zero]
  by_cases h : k ≤ (cs z).length
  · rw [Nat.min_eq_left h]
  · rw [Nat.min_eq_right (by omega), List.take_length, List.take_of_length_le (by omega)]
theorem cut_len (z : Str) (k : Nat) : (cutS z none (some (k : Int))).length = min k z.length := by
  rw [← cs_len, cut_first, List.length_take, cs_len]
def spNames : Sp := fun vs H Q _ => ∃ (b : Addr) (m n : Nat), vs = [.ref b, .int (m : Int)] ∧ BoxAt H b n ∧ n ≤ 50000 ∧ m ≤ 100 ∧
  ∀ (p : Addr) (H' : Hp) (zs : List Str), zs.length = m → (∀ z ∈ zs, NameZ z) → H p = none → H' p = some (.lst (zs.map V.str)) → BoxAt H' b (n + 11 + m) → But b H H' → Q (.ref p) H'
section
variable {P : Program} {w : World} {K : PySem.W.Frag} {mg : Str → Option Value} {base : Heap}
theorem ok_names {f fT fM : Addr} {fd fdT fdM : FuncData} (F : Fun K "_law_names" "_law_names" sNames f fd) (T : Fun K "_law_take" "_law_take" sTake fT fdT) (bT : Binds K fdT ["_law_box_here", "_law_many"] []) (gT : mg "_law_take" = some (.ref fT))
    (M : Fun K "_law_mixed" "_law_mixed" sMixed fM fdM) (bM : Binds K fdM ["_law_box_here", "_law_some"] []) (gM : mg "_law_mixed" = some (.ref fM)) (ml : mg "len" = none) (mL : mg "list" = none) (mr : mg "range" = none) :
    FnOk P w K mg base CX0 3 f fd ["_law_box_here", "_law_many"] spNames := by
  have GT : FnOk P w K mg base CX0 1 fT fdT ["_law_box_here", "_law_many"] spTake := ok_take T
  have GM : FnOk P w K mg base CX0 2 fM fdM ["_law_box_here", "_law_some"] (spMixed K) := ok_mixed M T bT gT ml mL
  refine F.ok scNames (fun vs H Q E h => ?_) (fun cdv A outer s H vs Q E hr h => ?_)
  · obtain ⟨b, m, n, rfl, _⟩ := h
    rfl
  · obtain ⟨b, m, n, rfl, B, hn, hm, q⟩ := h
    have hr1 := hr.mono (show 1 ≤ 2 by decide)
    obtain ⟨ts, psl, qsl⟩ : ∃ t, PSs (cxOf CX0 P w K mg base nNames "_law_names" (defScope sNames) f cdv A outer s H E).nox ((defBody sNames).drop 5) t ∧
        ∀ (way cut bg st : Nat) (z : Str) (x8 : Option V) (H1 : Hp), cut ≤ 7 → (26 < m → cut ≤ 6) → bg < 26 → st ≤ 17 → LowZ z → z.length = 7 → BoxAt H1 b (n + 11) → But b H H1 → t { nx := fun _ H' => Q .non H', rt := Q } [some (.ref b), some (.int (m : Int)), some (.str abc), some (.int (way : Int)), some (.int (cut : Int)), some (.int (bg : Int)), some (.int (st : Int)), some (.str z), x8, none, none, none] H1 := by
      refine ⟨_, pss_cons (ps_set (i := 9) scNames.nd rfl (.inl rfl) (pe_lst pa_nil))
      (pss_cons (ps_for PassesOwn.never rfl (pi_range1 rfl mr (pa_cons (pv 1) pa_nil)) (pg_name (i := 8) scNames.nd rfl (.inl rfl))
        (pss_cons (ps_set (i := 10) scNames.nd rfl (.inl rfl) (pe_item_str (pv 2) (pe_op op_mod (pe_op op_add (pv 5) (pe_op op_mul (pv 6) (pv 8))) pe_int) (fun _ _ => rfl)))
        (pss_cons (ps_set (i := 11) scNames.nd rfl (.inl rfl) (pe_op op_add_str (pe_slice sl_str (pv 7) po_none (po_some (pv 4))) (pv 10)))
        (pss_cons (ps_if (PW.pt (pw_and (pt_cmpR op_eq (pv 3) pe_int (nomark _)) (pw_and1 (pt_cmpR op_lt (pv 1) pe_int (nomark _)))))
          (pss_one (ps_set (i := 11) scNames.nd rfl (.inl rfl) (pe_op op_add_str (pv 10) (pe_slice sl_str (pv 7) po_none (po_some (pe_op op_mod (pe_op op_add (pv 4) (pe_op op_mul pe_int (pv 8))) pe_int)))))) pss_nil)
        (pss_one (ps_expr (pe_bm PySem.F.plainAttrs_list PySem.F.slot_list_append PySem.F.type_list_append mt_append (pv 9) (pa_cons
          (pe_ifExp (pt_cmpR op_lt (pv 8) pe_int (nomark _)) (pv 11) (pe_op op_add_str (pv 11) (pe_item_str (pv 2) (pe_op op_fdiv (pv 8) pe_int) (fun _ _ => rfl)))) pa_nil))))))))
      (pss_one (ps_ret (pv 9)))), ?_⟩
      intro way cut bg st z x8 H1 hcut hcut2 hbg hst hz hl B1 k1
      refine ⟨Nat.zero_le _, fun D hD => ?_⟩
      have nD := box_ne B1 hD
      have fD := free_of k1 nD hD
      refine ⟨_, rfl, _, rfl, by omega, by omega, ?_⟩
      rw [Int.toNat_natCast m]
      refine for_range (lo := 0) (n := m) (fun i σ H2 => ∃ (zs : List Str) (x8 x10 x11 : Option V), σ = [some (.ref b), some (.int (m : Int)), some (.str abc), some (.int (way : Int)), some (.int (cut : Int)), some (.int (bg : Int)), some (.int (st : Int)), some (.str z), x8, some (.ref D), x10, x11] ∧
        H2 D = some (.lst (zs.map V.str)) ∧ zs.length = i ∧ (∀ y ∈ zs, NameZ y) ∧ BoxAt H2 b (n + 11) ∧ But b H H2) ?_ ?_ ?_
      · exact ⟨[], x8, none, none, rfl, upd_same, rfl, (fun y h => nomatch h), box_new B1 hD, but_upd k1 fD⟩
      · rintro i σ H2 hi ⟨zs, x8, x10, x11, rfl, e2, hlz, hy, B2, k2⟩
        have r := emod_in ((bg : Int) + (st : Int) * (0 + (i : Int))) 26 (by decide)
        obtain ⟨j, ej, hj⟩ := draw_at r.1 r.2 (n := 26) rfl
        obtain ⟨c, hc, c97⟩ := abc_at hj
        refine ⟨_, rfl, _, rfl, _, rfl, _, rfl, _, _, rfl, rfl, .inl ⟨by omega, by omega⟩, _, _, rfl, rfl, _, _, rfl, rfl, (by show (0 : Int) < 26; decide), _, _, c, rfl, rfl, r.1, by omega, (show _ < ((26 : Nat) : Int) by omega), (by rw [ej]; exact hc), ?_⟩
        have lo := low_one c97
        have len1 : (⟨#[c]⟩ : Str).length = 1 := rfl
        generalize (⟨#[c]⟩ : Str) = lt at lo len1
        have cl := cut_len z cut
        refine ⟨_, rfl, _, rfl, _, rfl, z, rfl, small_size (by omega), _, rfl, _, _, rfl, rfl, small_size (by omega), ?_⟩
        have Y0 : LowZ (cutS z none (some (cut : Int)) ++ lt) ∧ 1 ≤ (cutS z none (some (cut : Int)) ++ lt).length ∧ (cutS z none (some (cut : Int)) ++ lt).length ≤ 8 ∧ (26 ≤ i → (cutS z none (some (cut : Int)) ++ lt).length ≤ 7) := by
          rw [app_len]
          exact ⟨(hz.cut _ _).app lo, by omega, by omega, fun _ => by omega⟩
        have r8 := emod_in ((cut : Int) + 3 * (0 + (i : Int))) 8 (by decide)
        refine ⟨_, rfl, rfl, _, rfl, ite2 (fun _ => ?_) (fun _ => ?_)⟩
        · refine ⟨_, rfl, _, _, rfl, rfl, _, rfl, ite2 (fun h27 => ?_) (fun _ => ?_)⟩
          · have hm27 : (m : Int) < 27 := of_decide_eq_true h27
            obtain ⟨j8, ej8, hj8⟩ := draw_at r8.1 r8.2 (n := 8) rfl
            have cl8 := cut_len z j8
            refine ⟨_, rfl, _, rfl, _, rfl, _, rfl, _, _, rfl, rfl, .inl ⟨by decide, by decide⟩, _, _, rfl, rfl, _, _, rfl, rfl, (by show (0 : Int) < 8; decide), _, rfl, z, rfl, small_size (by omega), _, _, rfl, rfl, ?_, ?_⟩
            · rw [ej8, len1]
              exact small_size (by omega)
            have Y : NameI (lt ++ cutS z none (some (((cut : Int) + 3 * (0 + (i : Int))) % 8))) i := by
              unfold NameI
              rw [ej8, app_len]
              exact ⟨lo.app (hz.cut _ _), by omega, by omega, fun h => by omega⟩
            revert Y
            generalize (lt ++ cutS z none (some (((cut : Int) + 3 * (0 + (i : Int))) % 8))) = y
            intro Y
            obtain ⟨y1, y2, y3, y4⟩ := Y
            have done : ∀ (u : Str) (x8 x10 x11 : Option V), NameZ u → ∃ (zs' : List Str) (x8' x10' x11' : Option V), [some (V.ref b), some (.int (m : Int)), some (.str abc), some (.int (way : Int)), some (.int (cut : Int)), some (.int (bg : Int)), some (.int (st : Int)), some (.str z), x8, some (.ref D), x10, x11] = [some (.ref b), some (.int (m : Int)), some (.str abc), some (.int (way : Int)), some (.int (cut : Int)), some (.int (bg : Int)), some (.int (st : Int)), some (.str z), x8', some (.ref D), x10', x11'] ∧
                upd H2 D (.lst (zs.map V.str ++ [.str u])) D = some (.lst (zs'.map V.str)) ∧ zs'.length = i + 1 ∧ (∀ y ∈ zs', NameZ y) ∧ BoxAt (upd H2 D (.lst (zs.map V.str ++ [.str u]))) b (n + 11) ∧ But b H (upd H2 D (.lst (zs.map V.str ++ [.str u]))) := fun u x8 x10 x11 hu => by
              refine ⟨zs ++ [u], x8, x10, x11, rfl, ?_, ?_, fun v hv => ?_, box_upd B2 nD, but_upd k2 fD⟩
              · rw [upd_same, List.map_append]
                rfl
              · rw [List.length_append, hlz]
                rfl
              · rcases List.mem_append.mp hv with hv | hv
                · exact hy v hv
                · rw [List.mem_singleton.mp hv]
                  exact hu
            have room : (zs.map V.str).length < sizeLine := by
              rw [List.length_map]
              exact small1000 (by omega)
            refine ⟨_, rfl, .inl ⟨rfl, _, .of e2⟩, _, rfl, _, _, rfl, rfl, _, rfl, ite2 (fun h26 => ?_) (fun h26 => ?_)⟩
            · exact ⟨_, rfl, D, _, _, rfl, rfl, e2, room, done y _ _ _ ⟨y1, y2, y3⟩⟩
            · have h26' : ¬ ((0 + (i : Int)) < 26) := fun h => h26 (decide_eq_true h)
              have yl := y4 (by omega)
              have hd : (0 + (i : Int)) / 26 = ((i / 26 : Nat) : Int) := by omega
              obtain ⟨c2, hc2, c297⟩ := abc_at (j := i / 26) (by omega)
              refine ⟨_, rfl, _, rfl, _, rfl, _, _, rfl, rfl, ⟨by decide, by decide⟩, _, _, c2, rfl, rfl, by omega, by omega, (show _ < ((26 : Nat) : Int) by omega), (by rw [hd]; exact hc2), _, _, rfl, rfl, ?_, D, _, _, rfl, rfl, e2, room, ?_⟩
              · show y.length + 1 ≤ sizeLine
                exact small_size (by omega)
              · have l2 : (y ++ (⟨#[c2]⟩ : Str)).length = y.length + 1 := app_len y ⟨#[c2]⟩
                exact done (y ++ ⟨#[c2]⟩) _ _ _ ⟨y1.app (low_one c297), by omega, by omega⟩
          · have Y : NameI (cutS z none (some (cut : Int)) ++ lt) i := Y0
            revert Y
            generalize (cutS z none (some (cut : Int)) ++ lt) = y
            intro Y
            obtain ⟨y1, y2, y3, y4⟩ := Y
            have done : ∀ (u : Str) (x8 x10 x11 : Option V), NameZ u → ∃ (zs' : List Str) (x8' x10' x11' : Option V), [some (V.ref b), some (.int (m : Int)), some (.str abc), some (.int (way : Int)), some (.int (cut : Int)), some (.int (bg : Int)), some (.int (st : Int)), some (.str z), x8, some (.ref D), x10, x11] = [some (.ref b), some (.int (m : Int)), some (.str abc), some (.int (way : Int)), some (.int (cut : Int)), some (.int (bg : Int)), some (.int (st : Int)), some (.str z), x8', some (.ref D), x10', x11'] ∧
                upd H2 D (.lst (zs.map V.str ++ [.str u])) D = some (.lst (zs'.map V.str)) ∧ zs'.length = i + 1 ∧ (∀ y ∈ zs', NameZ y) ∧ BoxAt (upd H2 D (.lst (zs.map V.str ++ [.str u]))) b (n + 11) ∧ But b H (upd H2 D (.lst (zs.map V.str ++ [.str u]))) := fun u x8 x10 x11 hu => by
              refine ⟨zs ++ [u], x8, x10, x11, rfl, ?_, ?_, fun v hv => ?_, box_upd B2 nD, but_upd k2 fD⟩
              · rw [upd_same, List.map_append]
                rfl
              · rw [List.length_append, hlz]
                rfl
              · rcases List.mem_append.mp hv with hv | hv
                · exact hy v hv
                · rw [List.mem_singleton.mp hv]
                  exact hu
            have room : (zs.map V.str).length < sizeLine := by
              rw [List.length_map]
              exact small1000 (by omega)
            refine ⟨_, rfl, .inl ⟨rfl, _, .of e2⟩, _, rfl, _, _, rfl, rfl, _, rfl, ite2 (fun h26 => ?_) (fun h26 => ?_)⟩
            · exact ⟨_, rfl, D, _, _, rfl, rfl, e2, room, done y _ _ _ ⟨y1, y2, y3⟩⟩
            · have h26' : ¬ ((0 + (i : Int)) < 26) := fun h => h26 (decide_eq_true h)
              have yl := y4 (by omega)
              have hd : (0 + (i : Int)) / 26 = ((i / 26 : Nat) : Int) := by omega
              obtain ⟨c2, hc2, c297⟩ := abc_at (j := i / 26) (by omega)
              refine ⟨_, rfl, _, rfl, _, rfl, _, _, rfl, rfl, ⟨by decide, by decide⟩, _, _, c2, rfl, rfl, by omega, by omega, (show _ < ((26 : Nat) : Int) by omega), (by rw [hd]; exact hc2), _, _, rfl, rfl, ?_, D, _, _, rfl, rfl, e2, room, ?_⟩
              · show y.length + 1 ≤ sizeLine
                exact small_size (by omega)
              · have l2 : (y ++ (⟨#[c2]⟩ : Str)).length = y.length + 1 := app_len y ⟨#[c2]⟩
                exact done (y ++ ⟨#[c2]⟩) _ _ _ ⟨y1.app (low_one c297), by omega, by omega⟩
        · have Y : NameI (cutS z none (some (cut : Int)) ++ lt) i := Y0
          revert Y
          generalize (cutS z none (some (cut : Int)) ++ lt) = y
          intro Y
          obtain ⟨y1, y2, y3, y4⟩ := Y
          have done : ∀ (u : Str) (x8 x10 x11 : Option V), NameZ u → ∃ (zs' : List Str) (x8' x10' x11' : Option V), [some (V.ref b), some (.int (m : Int)), some (.str abc), some (.int (way : Int)), some (.int (cut : Int)), some (.int (bg : Int)), some (.int (st : Int)), some (.str z), x8, some (.ref D), x10, x11] = [some (.ref b), some (.int (m : Int)), some (.str abc), some (.int (way : Int)), some (.int (cut : Int)), some (.int (bg : Int)), some (.int (st : Int)), some (.str z), x8', some (.ref D), x10', x11'] ∧
              upd H2 D (.lst (zs.map V.str ++ [.str u])) D = some (.lst (zs'.map V.str)) ∧ zs'.length = i + 1 ∧ (∀ y ∈ zs', NameZ y) ∧ BoxAt (upd H2 D (.lst (zs.map V.str ++ [.str u]))) b (n + 11) ∧ But b H (upd H2 D (.lst (zs.map V.str ++ [.str u]))) := fun u x8 x10 x11 hu => by
            refine ⟨zs ++ [u], x8, x10, x11, rfl, ?_, ?_, fun v hv => ?_, box_upd B2 nD, but_upd k2 fD⟩
            · rw [upd_same, List.map_append]
              rfl
            · rw [List.length_append, hlz]
              rfl
            · rcases List.mem_append.mp hv with hv | hv
              · exact hy v hv
              · rw [List.mem_singleton.mp hv]
                exact hu
          have room : (zs.map V.str).length < sizeLine := by
            rw [List.length_map]
            exact small1000 (by omega)
          refine ⟨_, rfl, .inl ⟨rfl, _, .of e2⟩, _, rfl, _, _, rfl, rfl, _, rfl, ite2 (fun h26 => ?_) (fun h26 => ?_)⟩
          · exact ⟨_, rfl, D, _, _, rfl, rfl, e2, room, done y _ _ _ ⟨y1, y2, y3⟩⟩
          · have h26' : ¬ ((0 + (i : Int)) < 26) := fun h => h26 (decide_eq_true h)
            have yl := y4 (by omega)
            have hd : (0 + (i : Int)) / 26 = ((i / 26 : Nat) : Int) := by omega
            obtain ⟨c2, hc2, c297⟩ := abc_at (j := i / 26) (by omega)
            refine ⟨_, rfl, _, rfl, _, rfl, _, _, rfl, rfl, ⟨by decide, by decide⟩, _, _, c2, rfl, rfl, by omega, by omega, (show _ < ((26 : Nat) : Int) by omega), (by rw [hd]; exact hc2), _, _, rfl, rfl, ?_, D, _, _, rfl, rfl, e2, room, ?_⟩
            · show y.length + 1 ≤ sizeLine
              exact small_size (by omega)
            · have l2 : (y ++ (⟨#[c2]⟩ : Str)).length = y.length + 1 := app_len y ⟨#[c2]⟩
              exact done (y ++ ⟨#[c2]⟩) _ _ _ ⟨y1.app (low_one c297), by omega, by omega⟩
      · rintro σ H2 ⟨zs, x8, x10, x11, rfl, e2, hlz, hy, B2, k2⟩
        exact ⟨_, rfl, q D H2 zs hlz hy fD e2 (B2.mono (by omega)) k2⟩
    obtain ⟨tl, pl, ql⟩ : ∃ t, PSs (cxOf CX0 P w K mg base nNames "_law_names" (defScope sNames) f cdv A outer s H E).nox ((defBody sNames).drop 2) t ∧
        ∀ (way cut bg : Nat) (H1 : Hp), cut ≤ 7 → (26 < m → cut ≤ 6) → bg < 26 → BoxAt H1 b (n + 3) → But b H H1 → t { nx := fun _ H' => Q .non H', rt := Q } [some (.ref b), some (.int (m : Int)), some (.str abc), some (.int (way : Int)), some (.int (cut : Int)), some (.int (bg : Int)), none, none, none, none, none, none] H1 := by
      refine ⟨_, pss_cons (ps_asg (pe_tup (pa_cons (pe_ix ix_list (pe_lst (pa_cons pe_int (pa_cons pe_int (pa_cons pe_int (pa_cons pe_int (pa_cons pe_int (pa_cons pe_int (pa_cons pe_int (pa_cons pe_int pa_nil)))))))))
          (pe_call GT hr1 rfl gT T.kp bT .nil pass0 (pa_cons (pv 0) (pa_cons pe_int pa_nil))) (fun _ _ => rfl)) (pa_cons pe_str pa_nil)))
        (pg_tup (by rfl) (pgs_cons (pg_name (i := 6) scNames.nd rfl (.inl rfl)) (pgs_cons (pg_name (i := 7) scNames.nd rfl (.inr rfl)) pgs_nil))))
      (pss_cons (ps_for PassesOwn.never rfl (pi_range1 rfl mr (pa_cons pe_int pa_nil)) (pg_name (i := 8) scNames.nd rfl (.inl rfl))
        (pss_one (ps_set (i := 7) scNames.nd rfl (.inr rfl) (pe_op op_add_str (pv 7) (pe_item_str (pv 2) (pe_call GT hr1 rfl gT T.kp bT .nil pass0 (pa_cons (pv 0) (pa_cons pe_int pa_nil))) (fun _ _ => rfl))))))
      (pss_cons (ps_if (PW.pt (pw_and (pt_cmpR op_eq (pv 3) pe_int (nomark _)) (pw_and1 (pt_cmpR op_lt (pv 1) pe_int (nomark _)))))
        (pss_one (ps_ret (pe_call GM hr rfl gM M.kp bM .nil pass0 (pa_cons (pv 0) (pa_cons (pe_lc (own := [("_law_k", 8)]) (g := gName 8) (tt := tYes) (by rfl) scNames.nd (pi_range1 rfl mr (pa_cons (pv 1) pa_nil))
          (blkOk_by (own := [("_law_k", 8)]) (N := nNames) (sc := defScope sNames) (by decide +kernel)) (fun _ _ _ _ _ => pg_name (i := 8) scNames.nd rfl (.inl rfl)) (fun _ _ _ _ _ => pts_nil)
          (fun _ _ _ _ _ => pe_slice sl_str (pe_op op_add_str (pv 7) (pe_item_str (pv 2) (pv 5) (fun _ _ => rfl))) po_none (po_some (pe_op op_add (pv 8) pe_int)))) pa_nil))))) pss_nil)
      psl)), ?_⟩
      intro way cut bg H1 hcut hcut2 hbg B1 k1
      refine ⟨(by show 8 ≤ sizeLine; decide), fun p1 hp1 => ?_⟩
      have np1 := box_ne B1 hp1
      refine ⟨_, rfl, b, 8, n + 3, rfl, box_new B1 hp1, by omega, by decide, by decide, fun r H2 r0 r1 B2 k2 => ?_⟩
      obtain ⟨j, rfl, hj⟩ := draw_at (n := 8) r0 r1 rfl
      have e2 := k2 _ _ np1 upd_same
      have kk2 : But b H H2 := (k1.trans (But.new hp1)).trans k2
      obtain ⟨st, hst, hst17⟩ : ∃ st : Nat, ([.int 1, .int 3, .int 5, .int 7, .int 9, .int 11, .int 15, .int 17] : List V)[j]? = some (.int (st : Int)) ∧ st ≤ 17 := by
        match j, hj with
        | 0, _ => exact ⟨1, rfl, by decide⟩
        | 1, _ => exact ⟨3, rfl, by decide⟩
        | 2, _ => exact ⟨5, rfl, by decide⟩
        | 3, _ => exact ⟨7, rfl, by decide⟩
        | 4, _ => exact ⟨9, rfl, by decide⟩
        | 5, _ => exact ⟨11, rfl, by decide⟩
        | 6, _ => exact ⟨15, rfl, by decide⟩
        | 7, _ => exact ⟨17, rfl, by decide⟩
      refine ⟨p1, _, _, .int (st : Int), rfl, rfl, .of e2, atI_nat hst, (by show 2 ≤ sizeLine; decide), fun p2 hp2 => ?_⟩
      have np2 := box_ne B2 hp2
      refine ⟨p2, _, rfl, .of upd_same, rfl, _, _, rfl, _, _, rfl, rfl, ?_⟩
      have B3 : BoxAt (upd H2 p2 (.tup [.int (st : Int), .str ""])) b (n + 4) := box_new B2 hp2
      have k3 : But b H (upd H2 p2 (.tup [.int (st : Int), .str ""])) := kk2.trans (But.new hp2)
      generalize upd H2 p2 (.tup [.int (st : Int), .str ""]) = H3 at B3 k3
      -- the stem
      refine ⟨_, rfl, by decide, by decide, ?_⟩
      refine for_range (lo := 0) (n := 7) (fun i σ H4 => ∃ (z : Str) (x8 : Option V), σ = [some (.ref b), some (.int (m : Int)), some (.str abc), some (.int (way : Int)), some (.int (cut : Int)), some (.int (bg : Int)), some (.int (st : Int)), some (.str z), x8, none, none, none] ∧ LowZ z ∧ z.length = i ∧ BoxAt H4 b (n + 4 + i) ∧ But b H H4) ?_ ?_ ?_
      · exact ⟨"", none, rfl, (fun c h => nomatch h), rfl, B3, k3⟩
      · rintro i σ H4 hi ⟨z, x8, rfl, hz, hl, B4, k4⟩
        refine ⟨_, rfl, _, rfl, _, rfl, b, 26, n + 4 + i, rfl, B4, by omega, by decide, by decide, fun r H5 r0 r1 B5 k5 => ?_⟩
        obtain ⟨j, rfl, hj⟩ := draw_at (n := 26) r0 r1 rfl
        obtain ⟨c, hc, c97⟩ := abc_at hj
        refine ⟨_, _, c, rfl, rfl, by omega, by omega, (show ((j : Nat) : Int) < ((26 : Nat) : Int) by omega), hc, ?_⟩
        refine ⟨_, _, rfl, rfl, ?_, ?_⟩
        · show z.length + 1 ≤ sizeLine
          rw [sizeLine_eq]
          omega
        · refine ⟨z ++ ⟨#[c]⟩, _, rfl, hz.app (low_one c97), ?_, B5, k4.trans k5⟩
          rw [app_len, hl]
          rfl
      · rintro σ H4 ⟨z, x8, rfl, hz, hl, B4, k4⟩
        -- from here on two ways
        have namesOf : ∀ (zs : List Str) (qs : List Vd), qs.Perm (zs.map fun z => (V.str z, PyData.str z)) → (∀ z ∈ zs, NameZ z) →
            ∃ ys : List Str, qs.map (·.1) = ys.map V.str ∧ ys.length = zs.length ∧ ∀ y ∈ ys, NameZ y := fun zs qs pm hz => by
          have each : ∀ x ∈ qs, ∃ y, x = (V.str y, PyData.str y) ∧ NameZ y := fun x hx => by
            obtain ⟨y, hy, e⟩ := List.mem_map.mp (pm.mem_iff.mp hx)
            exact ⟨y, e.symm, hz y hy⟩
          have hlen : qs.length = zs.length := by
            rw [pm.length_eq, List.length_map]
          rw [← hlen]
          clear pm hlen
          induction qs with
          | nil => exact ⟨[], rfl, rfl, fun y hy => nomatch hy⟩
          | cons x qs ih =>
            obtain ⟨y, rfl, hy⟩ := each x List.mem_cons_self
            obtain ⟨ys, e1, e2, e3⟩ := ih fun x hx => each x (List.mem_cons_of_mem _ hx)
            refine ⟨y :: ys, ?_, congrArg (· + 1) e2, fun u hu => ?_⟩
            · rw [List.map_cons, e1]
              rfl
            · rcases List.mem_cons.mp hu with rfl | hu
              · exact hy
              · exact e3 u hu
        have mInt : (m : Int).toNat = m := Int.toNat_natCast m
        refine ⟨_, rfl, rfl, _, rfl, ite2 (fun _ => ?_) (fun _ => ?_)⟩
        · refine ⟨_, rfl, _, _, rfl, rfl, _, rfl, ite2 (fun h9 => ?_) (fun _ => ?_)⟩
          · have hm9 : (m : Int) < 9 := of_decide_eq_true h9
            refine ⟨_, rfl, _, rfl, _, rfl, by omega, by omega, fun D hD => ?_⟩
            have nD := box_ne B4 hD
            have fD := free_of k4 nD hD
            rw [mInt]
            refine lc_range (lo := 0) (n := m) (fun i H5 => ∃ ys : List Str, H5 D = some (.lst (ys.map V.str)) ∧ ys.length = i ∧ (∀ y ∈ ys, NameZ y) ∧ BoxAt H5 b (n + 11) ∧ But b H H5) ?_ ?_ ?_
            · exact ⟨[], upd_same, rfl, (fun y h => nomatch h), box_new B4 hD, but_upd k4 fD⟩
            · rintro i H5 hi ⟨ys, e5, hl5, hy, B5, k5⟩
              refine ⟨rfl, ?_⟩
              unfold tYes
              dsimp only
              rw [if_pos rfl]
              obtain ⟨c, hc, c97⟩ := abc_at hbg
              refine ⟨_, rfl, _, rfl, _, rfl, _, _, c, rfl, rfl, by omega, by omega, (show ((bg : Nat) : Int) < ((26 : Nat) : Int) by omega), hc, _, _, rfl, rfl, ?_, ?_⟩
              · show z.length + 1 ≤ sizeLine
                rw [sizeLine_eq]
                omega
              have lz : (z ++ ⟨#[c]⟩).length = 8 := by
                rw [app_len, hl]
                rfl
              refine ⟨_, rfl, _, _, rfl, rfl, _, rfl, _, rfl, small_size (by omega), ?_⟩
              have e0 : (0 + (i : Int) + 1 : Int) = ((i + 1 : Nat) : Int) := by omega
              rw [e0]
              have cl := cut_len (z ++ ⟨#[c]⟩) (i + 1)
              refine ⟨_, e5, ?_, ys ++ [cutS (z ++ ⟨#[c]⟩) none (some ((i + 1 : Nat) : Int))], ?_, ?_, ?_, ?_, ?_⟩
              · rw [List.length_map]
                exact small1000 (by omega)
              · rw [upd_same, List.map_append]
                rfl
              · rw [List.length_append, hl5]
                rfl
              · intro y h
                rcases List.mem_append.mp h with h | h
                · exact hy y h
                · rw [List.mem_singleton.mp h]
                  exact ⟨(hz.app (low_one c97)).cut _ _, by omega, by omega⟩
              · exact box_upd B5 nD
              · exact but_upd k5 fD
            · rintro H5 ⟨ys, e5, hl5, hy, B5, k5⟩
              refine ⟨b, D, n + 11, ys.map fun z => (V.str z, PyData.str z), rfl, B5, ?_, .inl (.of ?_), ?_, fun p H6 qs pm np e6 B6 k6 => ?_⟩
              · rw [List.length_map]
                omega
              · rw [e5, List.map_map]
                rfl
              · intro x hx
                obtain ⟨y, hyy, rfl⟩ := List.mem_map.mp hx
                exact ⟨(hy y hyy).1.lay, fun H' _ => .str y⟩
              · obtain ⟨us, u1, u2, u3⟩ := namesOf ys qs pm hy
                rw [u1] at e6
                rw [List.length_map, hl5] at B6
                exact q p H6 us (u2.trans hl5) u3 (free_of k5 (box_ne B5 np) np) e6 B6 (k5.trans k6)
          · exact qsl way cut bg st z x8 H4 hcut hcut2 hbg hst17 hz hl B4 k4
        · exact qsl way cut bg st z x8 H4 hcut hcut2 hbg hst17 hz hl B4 k4
    refine ⟨_, pss_cons (ps_set (i := 2) scNames.nd rfl (.inr rfl) pe_str)
      (pss_cons (ps_asg (pe_tup (pa_cons (pe_call GT hr1 rfl gT T.kp bT .nil pass0 (pa_cons (pv 0) (pa_cons pe_int pa_nil)))
          (pa_cons (pe_call GT hr1 rfl gT T.kp bT .nil pass0 (pa_cons (pv 0) (pa_cons (pe_ifExp (pt_cmpR op_lt (pv 1) pe_int (nomark _)) pe_int pe_int) pa_nil)))
          (pa_cons (pe_call GT hr1 rfl gT T.kp bT .nil pass0 (pa_cons (pv 0) (pa_cons pe_int pa_nil))) pa_nil))))
        (pg_tup (by rfl) (pgs_cons (pg_name (i := 3) scNames.nd rfl (.inl rfl)) (pgs_cons (pg_name (i := 4) scNames.nd rfl (.inl rfl)) (pgs_cons (pg_name (i := 5) scNames.nd rfl (.inr rfl)) pgs_nil))))) pl), ?_⟩
    refine ⟨_, rfl, b, 4, n, rfl, B, by omega, by decide, by decide, fun way H1 w0 w1 B1 k1 => ?_⟩
    obtain ⟨way, rfl, _⟩ := draw_at (n := 4) w0 w1 rfl
    refine ⟨_, rfl, _, rfl, _, _, rfl, rfl, _, rfl, ite2 (fun hm27 => ?_) (fun hm27 => ?_)⟩
    · refine ⟨b, 8, n + 1, rfl, B1, by omega, by decide, by decide, fun cut H2 c0 c1 B2 k2 => ?_⟩
      obtain ⟨cut, rfl, hcut⟩ := draw_at (n := 8) c0 c1 rfl
      refine ⟨_, rfl, b, 26, n + 2, rfl, B2, by omega, by decide, by decide, fun bg H3 g0 g1 B3 k3 => ?_⟩
      obtain ⟨bg, rfl, hbg⟩ := draw_at (n := 26) g0 g1 rfl
      refine ⟨(by show 3 ≤ sizeLine; decide), fun p hp => ⟨p, _, rfl, .of upd_same, rfl, _, _, rfl, _, _, rfl, _, _, rfl, rfl, ?_⟩⟩
      have hm' : (m : Int) < 27 := of_decide_eq_true hm27
      exact ql way cut bg _ (by omega) (by omega) hbg (box_new B3 hp) (((k1.trans k2).trans k3).trans (But.new hp))
    · refine ⟨b, 7, n + 1, rfl, B1, by omega, by decide, by decide, fun cut H2 c0 c1 B2 k2 => ?_⟩
      obtain ⟨cut, rfl, hcut⟩ := draw_at (n := 7) c0 c1 rfl
      refine ⟨_, rfl, b, 26, n + 2, rfl, B2, by omega, by decide, by decide, fun bg H3 g0 g1 B3 k3 => ?_⟩
      obtain ⟨bg, rfl, hbg⟩ := draw_at (n := 26) g0 g1 rfl
      refine ⟨(by show 3 ≤ sizeLine; decide), fun p hp => ⟨p, _, rfl, .of upd_same, rfl, _, _, rfl, _, _, rfl, _, _, rfl, rfl, ?_⟩⟩
      exact ql way cut bg _ (by omega) (by omega) hbg (box_new B3 hp) (((k1.trans k2).trans k3).trans (But.new hp))
end
end G
set_option Elab.async false
set_option linter.all false
set_option maxRecDepth 100000
set_option maxHeartbeats 2000000
/-! V5: the values of some fields. -/
namespace G
open PySem PySem.Spec PyProof.Rows L2
/-- some of the fields, each with a number -/
def ValN (zs : List Str) (kvs : List (Key × V)) : Prop := ∀ p ∈ kvs, ∃ z i, p = (Sum.inr z, V.int i) ∧ z ∈ zs ∧ -999 ≤ i ∧ i ≤ 999
/-- an order of texts is made of these texts -/
theorem texts_of : ∀ {zs : List Str} {qs : List Vd}, qs.Perm (zs.map fun z => (V.str z, PyData.str z)) → ∃ ys : List Str, qs.map (·.1) = ys.map V.str ∧ ys.length = zs.length ∧ ∀ y ∈ ys, y ∈ zs := by
  intro zs qs pm
  have each : ∀ x ∈ qs, ∃ y, x = (V.str y, PyData.str y) ∧ y ∈ zs := fun x hx => by
    obtain ⟨y, hy, e⟩ := List.mem_map.mp (pm.mem_iff.mp hx)
    exact ⟨y, e.symm, hy⟩
  have hlen : qs.length = zs.length := by
    rw [pm.length_eq, List.length_map]
  rw [← hlen]
  clear pm hlen
  induction qs with
  | nil => exact ⟨[], rfl, rfl, fun y hy => nomatch hy⟩
  | cons x qs ih =>
    obtain ⟨y, rfl, hy⟩ := each x List.mem_cons_self
    obtain ⟨ys, e1, e2, e3⟩ := ih fun x hx => each x (List.mem_cons_of_mem _ hx)
    refine ⟨y :: ys, ?_, congrArg (· + 1) e2, fun u hu => ?_⟩
    · rw [List.map_cons, e1]
      rfl
    · rcases List.mem_cons.mp hu with rfl | hu
      · exact hy
      · exact e3 u hu
theorem mem_putK {kvs : List (Key × V)} {k : Key} {v : V} {p : Key × V} (h : p ∈ putK kvs k v) : p = (k, v) ∨ p ∈ kvs := by
  unfold putK at h
  split at h
  · obtain ⟨q, hq, e⟩ := List.mem_map.mp h
    by_cases z : q.1 = k
    · rw [if_pos z] at e
      left
      rw [← e, z]
    · rw [if_neg z] at e
      right
      rw [← e]
      exact hq
  · rcases List.mem_append.mp h with h | h
    · exact .inr h
    · exact .inl (List.mem_singleton.mp h)
theorem putK_pos (kvs : List (Key × V)) (k : Key) (v : V) : 1 ≤ (putK kvs k v).length := by
  unfold putK
  split
  · rename_i h
    obtain ⟨x, hx, _⟩ := List.any_eq_true.mp h
    rw [List.length_map]
    exact List.length_pos_of_mem hx
  · rw [List.length_append]
    exact Nat.le_add_left 1 _
theorem ValN.put {zs : List Str} {kvs : List (Key × V)} (h : ValN zs kvs) {z : Str} {i : Int} (hz : z ∈ zs) (h1 : -999 ≤ i) (h2 : i ≤ 999) : ValN zs (putK kvs (Sum.inr z) (.int i)) := fun p hp => by
  rcases mem_putK hp with e | hp
  · exact ⟨z, i, e, hz, h1, h2⟩
  · exact h p hp
theorem cutV_first (xs : List V) (k : Nat) (h : k ≤ xs.length) : cutV xs none (some (k : Int)) = xs.take k := by
  unfold cutV
  rw [HT.sIx_none, HT.sIx_nat, List.drop_zero, Nat.min_eq_left h, Nat.sub_zero]
end G
set_option Elab.async false
set_option linter.all false
set_option maxRecDepth 100000
set_option maxHeartbeats 2000000
/-! P0: isinstance by the kind of a thing. -/
namespace G
open PySem PySem.Spec PyProof.Rows L2
def isI : PyData → Bool
  | .int _ => true
  | .bool _ => true
  | _ => false
def isB : PyData → Bool
  | .bool _ => true
  | _ => false
def isTup : PyData → Bool
  | .tuple _ => true
  | _ => false
def isLst : PyData → Bool
  | .list _ => true
  | _ => false
def isDic : PyData → Bool
  | .dict _ => true
  | _ => false
theorem kit_i {K : PySem.W.Frag} : ∀ d : PyData, PySem.W.kitOne K (.type (tyN d)) (.type "int") = some (isI d)
  | .none => kit_ty (a := "NoneType") (b := "int") (r := false) (by decide +kernel)
  | .bool _ => kit_ty (a := "bool") (b := "int") (r := true) (by decide +kernel)
  | .int _ => kit_ty (a := "int") (b := "int") (r := true) (by decide +kernel)
  | .str _ => kit_ty (a := "str") (b := "int") (r := false) (by decide +kernel)
  | .list _ => kit_ty (a := "list") (b := "int") (r := false) (by decide +kernel)
  | .tuple _ => kit_ty (a := "tuple") (b := "int") (r := false) (by decide +kernel)
  | .dict _ => kit_ty (a := "dict") (b := "int") (r := false) (by decide +kernel)
theorem kit_b {K : PySem.W.Frag} : ∀ d : PyData, PySem.W.kitOne K (.type (tyN d)) (.type "bool") = some (isB d)
  | .none => kit_ty (a := "NoneType") (b := "bool") (r := false) (by decide +kernel)
  | .bool _ => kit_ty (a := "bool") (b := "bool") (r := true) (by decide +kernel)
  | .int _ => kit_ty (a := "int") (b := "bool") (r := false) (by decide +kernel)
  | .str _ => kit_ty (a := "str") (b := "bool") (r := false) (by decide +kernel)
  | .list _ => kit_ty (a := "list") (b := "bool") (r := false) (by decide +kernel)
  | .tuple _ => kit_ty (a := "tuple") (b := "bool") (r := false) (by decide +kernel)
  | .dict _ => kit_ty (a := "dict") (b := "bool") (r := false) (by decide +kernel)
theorem kit_t {K : PySem.W.Frag} : ∀ d : PyData, PySem.W.kitOne K (.type (tyN d)) (.type "tuple") = some (isTup d)
  | .none => kit_ty (a := "NoneType") (b := "tuple") (r := false) (by decide +kernel)
  | .bool _ => kit_ty (a := "bool") (b := "tuple") (r := false) (by decide +kernel)
  | .int _ => kit_ty (a := "int") (b := "tuple") (r := false) (by decide +kernel)
  | .str _ => kit_ty (a := "str") (b := "tuple") (r := false) (by decide +kernel)
  | .list _ => kit_ty (a := "list") (b := "tuple") (r := false) (by decide +kernel)
  | .tuple _ => kit_ty (a := "tuple") (b := "tuple") (r := true) (by decide +kernel)
  | .dict _ => kit_ty (a := "dict") (b := "tuple") (r := false) (by decide +kernel)
theorem kit_l {K : PySem.W.Frag} : ∀ d : PyData, PySem.W.kitOne K (.type (tyN d)) (.type "list") = some (isLst d)
  | .none => kit_ty (a := "NoneType") (b := "list") (r := false) (by decide +kernel)
  | .bool _ => kit_ty (a := "bool") (b := "list") (r := false) (by decide +kernel)
  | .int _ => kit_ty (a := "int") (b := "list") (r := false) (by decide +kernel)
  | .str _ => kit_ty (a := "str") (b := "list") (r := false) (by decide +kernel)
  | .list _ => kit_ty (a := "list") (b := "list") (r := true) (by decide +kernel)
  | .tuple _ => kit_ty (a := "tuple") (b := "list") (r := false) (by decide +kernel)
  | .dict _ => kit_ty (a := "dict") (b := "list") (r := false) (by decide +kernel)
theorem kit_d {K : PySem.W.Frag} : ∀ d : PyData, PySem.W.kitOne K (.type (tyN d)) (.type "dict") = some (isDic d)
  | .none => kit_ty (a := "NoneType") (b := "dict") (r := false) (by decide +kernel)
  | .bool _ => kit_ty (a := "bool") (b := "dict") (r := false) (by decide +kernel)
  | .int _ => kit_ty (a := "int") (b := "dict") (r := false) (by decide +kernel)
  | .str _ => kit_ty (a := "str") (b := "dict") (r := false) (by decide +kernel)
  | .list _ => kit_ty (a := "list") (b := "dict") (r := false) (by decide +kernel)
  | .tuple _ => kit_ty (a := "tuple") (b := "dict") (r := false) (by decide +kernel)
  | .dict _ => kit_ty (a := "dict") (b := "dict") (r := true) (by decide +kernel)
def isS : PyData → Bool
  | .str _ => true
  | _ => false
theorem kit_s {K : PySem.W.Frag} : ∀ d : PyData, PySem.W.kitOne K (.type (tyN d)) (.type "str") = some (isS d)
  | .none => kit_ty (a := "NoneType") (b := "str") (r := false) (by decide +kernel)
  | .bool _ => kit_ty (a := "bool") (b := "str") (r := false) (by decide +kernel)
  | .int _ => kit_ty (a := "int") (b := "str") (r := false) (by decide +kernel)
  | .str _ => kit_ty (a := "str") (b := "str") (r := true) (by decide +kernel)
  | .list _ => kit_ty (a := "list") (b := "str") (r := false) (by decide +kernel)
  | .tuple _ => kit_ty (a := "tuple") (b := "str") (r := false) (by decide +kernel)
  | .dict _ => kit_ty (a := "dict") (b := "str") (r := false) (by decide +kernel)
/-- isinstance(x, int), by name -/
theorem pt_isi {X : Cx} {y : Str} {py : Pos} {te : TE} {n : Str} {p q pos : Pos} (T : String) (he : PE X (.Name y py) te) (hg : Gl X "isinstance" := by rfl) (hm : X.mg "isinstance" = none) (gn : Gl X n := by rfl) (mn : X.mg n = none) (hv : bootBuiltins n = some (.type T) := by decide +kernel)
    (hn : n ≠ "__name__" := by decide) (hd : (n == ("__debug__" : Str)) = false := by decide) :
    PE X (.Call (.Name "isinstance" p) [.Name y py, .Name n q] [] pos) (tCB (rIsi X.K) (tCons te (tCons (tC (.ty T)) tNil))) :=
  pe_callB call_isi hg hm (by decide +kernel) (pa_cons he (pa_cons (pe_bltn gn mn hv rfl hn hd) pa_nil))

end G
set_option Elab.async false
set_option linter.all false
set_option maxRecDepth 100000
set_option maxHeartbeats 2000000
/-! W1: checks that pass. -/
namespace G
open PySem PySem.Spec PyProof.Rows L2 NdefX
abbrev sIsInt : Stmt := topS 13
abbrev sIsName : Stmt := topS 14
abbrev sNeedName : Stmt := topS 18
abbrev sIsValue : Stmt := topS 15
abbrev sNeedValue : Stmt := topS 19
abbrev sNeedRecord : Stmt := topS 20
theorem scIsInt : FnScope ["value", "low", "high"] ["value", "low", "high"] (defScope sIsInt) := ⟨rfl, rfl, rfl, by decide +kernel, rfl, by decide +kernel, by decide +kernel⟩
theorem scIsName : FnScope ["value", "letter"] ["value"] (defScope sIsName) := ⟨rfl, rfl, rfl, by decide +kernel, rfl, by decide +kernel, by decide +kernel⟩
theorem scNeedName : FnScope ["value"] ["value"] (defScope sNeedName) := ⟨rfl, rfl, rfl, by decide +kernel, rfl, by decide +kernel, by decide +kernel⟩
theorem scIsValue : FnScope ["value", "field"] ["value"] (defScope sIsValue) := ⟨rfl, rfl, rfl, by decide +kernel, rfl, by decide +kernel, by decide +kernel⟩
theorem scNeedValue : FnScope ["value"] ["value"] (defScope sNeedValue) := ⟨rfl, rfl, rfl, by decide +kernel, rfl, by decide +kernel, by decide +kernel⟩
theorem scNeedRecord : FnScope ["key", "value"] ["key", "value"] (defScope sNeedRecord) := ⟨rfl, rfl, rfl, by decide +kernel, rfl, by decide +kernel, by decide +kernel⟩
/-- a record's value, of some names -/
structure ValOk (zs : List Str) (kvs : List (Key × V)) : Prop where
  nm : ∀ z ∈ zs, NameZ z
  is : ValN zs kvs
  pos : 1 ≤ kvs.length
  six : kvs.length ≤ 6
theorem valV_of {zs : List Str} {kvs : List (Key × V)} (h : ValN zs kvs) {i : Nat} {k : Key} {v : V} (e : kvs[i]? = some (k, v)) : ∃ (z : Str) (n : Int), k = Sum.inr z ∧ z ∈ zs ∧ valV kvs k = some (.int n) ∧ -999 ≤ n ∧ n ≤ 999 := by
  have hm := List.mem_of_getElem? e
  obtain ⟨z, j, ez, hz, _, _⟩ := h _ hm
  obtain ⟨rfl, _⟩ := Prod.mk.inj ez
  cases q : valV kvs (Sum.inr z) with
  | none =>
    exfalso
    have h2 : (kvs.find? fun kv => decide (kv.1 = (Sum.inr z : Key))) = none := by
      have : Option.map (fun p : Key × V => p.2) (kvs.find? fun kv => decide (kv.1 = (Sum.inr z : Key))) = none := q
      exact Option.map_eq_none_iff.mp this
    have h3 := List.find?_eq_none.mp h2 _ hm
    exact h3 (decide_eq_true rfl)
  | some x =>
    have h2 : Option.map (fun p : Key × V => p.2) (kvs.find? fun kv => decide (kv.1 = (Sum.inr z : Key))) = some x := q
    obtain ⟨p, hp, rfl⟩ := Option.map_eq_some_iff.mp h2
    obtain ⟨z2, n, ep, _, n1, n2⟩ := h p (List.mem_of_find?_eq_some hp)
    rw [ep]
    exact ⟨z, n, rfl, hz, rfl, n1, n2⟩
def spIsInt : Sp := fun vs H Q _ => ∃ v lo hi : Int, vs = [.int v, .int lo, .int hi] ∧ Q (.bl (decide (lo ≤ v) && decide (v ≤ hi))) H
def spIsName : Sp := fun vs H Q _ => ∃ z : Str, vs = [.str z] ∧ NameZ z ∧ ∀ H', Same H H' → Q (.bl true) H'
def spNeedName : Sp := fun vs H Q _ => ∃ z : Str, vs = [.str z] ∧ NameZ z ∧ ∀ H', Same H H' → Q .non H'
def spIsValue : Sp := fun vs H Q _ => ∃ (d : Addr) (zs : List Str) (kvs : List (Key × V)), vs = [.ref d] ∧ H d = some (.dK kvs) ∧ ValOk zs kvs ∧ ∀ H', Same H H' → Q (.bl true) H'
def spNeedValue : Sp := fun vs H Q _ => ∃ (d : Addr) (zs : List Str) (kvs : List (Key × V)), vs = [.ref d] ∧ H d = some (.dK kvs) ∧ ValOk zs kvs ∧ ∀ H', Same H H' → Q .non H'
def spNeedRecord : Sp := fun vs H Q _ => ∃ (y : Str) (d : Addr) (zs : List Str) (kvs : List (Key × V)), vs = [.str y, .ref d] ∧ NameZ y ∧ H d = some (.dK kvs) ∧ ValOk zs kvs ∧ ∀ H', Same H H' → Q .non H'
section
variable {P : Program} {w : World} {K : PySem.W.Frag} {mg : Str → Option Value} {base : Heap}
theorem ok_isint {f : Addr} {fd : FuncData} (F : Fun K "is_integer" "is_integer" sIsInt f fd) (mi : mg "isinstance" = none) (mn : mg "int" = none) (mb : mg "bool" = none) : FnOk P w K mg base CX0 1 f fd ["value", "low", "high"] spIsInt := by
  refine F.ok scIsInt (fun vs H Q E h => ?_) (fun cdv A outer s H vs Q E hr h => ?_)
  · obtain ⟨v, lo, hi, rfl, _⟩ := h
    rfl
  · obtain ⟨v, lo, hi, rfl, q⟩ := h
    refine ⟨_, pss_cons (ps_if (PW.pt (pw_or (pt_not (pt_val (pt_isi "int" (pv 0) (hm := mi) (mn := mn)))) (pw_or1 (pt_val (pt_isi "bool" (pv 0) (hm := mi) (mn := mb)))))) (pss_one (ps_ret pe_bl)) pss_nil)
      (pss_one (ps_ret (pe_chain op_le op_le (pv 1) (pv 0) (pv 2)))), ?_⟩
    have hR : Rp K H (.int v) (.int v) := .int v
    refine ⟨_, rfl, _, _, _, _, _, rfl, .ty _, rp_ty hR, kit_i (.int v), _, rfl, iteF ?_⟩
    refine ⟨_, rfl, _, _, _, _, _, rfl, .ty _, rp_ty hR, kit_b (.int v), _, rfl, iteF ?_⟩
    refine ⟨_, rfl, _, rfl, _, _, rfl, rfl, _, rfl, ?_⟩
    cases e : decide (lo ≤ v) with
    | false =>
      refine iteF ?_
      rw [e] at q
      exact q
    | true =>
      refine iteT ?_
      rw [e] at q
      exact ⟨_, rfl, _, _, rfl, rfl, q⟩
theorem ok_isname {f : Addr} {fd : FuncData} {t1 t2 : Tok} (F : Fun K "is_name" "is_name" sIsName f fd) (gM : mg "MOST_LETTERS" = some (.int 8 t1)) (gL : mg "LETTERS" = some (.str abc t2)) (mi : mg "isinstance" = none) (ms : mg "str" = none) (ml : mg "len" = none) (ma : mg "all" = none) :
    FnOk P w K mg base CX0 1 f fd ["value"] spIsName := by
  refine F.ok scIsName (fun vs H Q E h => ?_) (fun cdv A outer s H vs Q E hr h => ?_)
  · obtain ⟨z, rfl, _⟩ := h
    rfl
  · obtain ⟨z, rfl, ⟨hz, h1, h8⟩, q⟩ := h
    refine ⟨_, pss_cons (ps_if (PW.pt (pw_or (pt_not (pt_val (pt_isi "str" (pv 0) (hm := mi) (mn := ms)))) (pw_or1 (pt_not (pt_chain op_le op_le pe_int (pe_callB call_len_str (by rfl) ml PySem.boot_len (pa_cons (pv 0) pa_nil)) (pe_glob (v := .int 8) rfl gM ⟨_, rfl⟩))))))
        (pss_one (ps_ret pe_bl)) pss_nil)
      (pss_one (ps_ret (pe_callB (cr_all rfl) (by rfl) ma (by decide +kernel) (pa_cons (pe_lc (own := [("letter", 1)]) (g := gName 1) (tt := tYes) (by rfl) scIsName.nd (pi_str (pv 0))
        (blkOk_by (own := [("letter", 1)]) (N := ["value", "letter"]) (sc := defScope sIsName) (by decide +kernel)) (fun _ _ _ _ _ => pg_name (i := 1) scIsName.nd rfl (.inl rfl)) (fun _ _ _ _ _ => pts_nil)
        (fun _ _ _ _ _ => pe_cmpR op_in_sign (pv 1) (pe_glob (v := .str abc) rfl gL ⟨_, rfl⟩) (by rfl))) pa_nil)))), ?_⟩
    have hR : Rp K H (.str z) (.str z) := .str z
    refine ⟨_, rfl, _, _, _, _, _, rfl, .ty _, rp_ty hR, kit_s (.str z), _, rfl, iteF ?_⟩
    refine ⟨_, rfl, z, rfl, small_size (by omega), _, _, rfl, rfl, _, rfl, ?_⟩
    rw [decide_eq_true (show (1 : Int) ≤ (z.length : Int) by omega)]
    refine iteT ⟨_, _, rfl, rfl, _, rfl, ?_⟩
    rw [decide_eq_true (show (z.length : Int) ≤ 8 by omega)]
    refine iteF ?_
    refine ⟨_, rfl, z, rfl, fun D hD => ?_⟩
    refine lc_it walk_str (fun i H2 => Same H H2 ∧ H2 D = some (.lst ((List.replicate i true).map V.bl))) ?_ ?_ ?_ ?_
    · exact ⟨Same.new hD, upd_same⟩
    · exact fun _ _ _ _ => trivial
    · rintro i x H2 H3 hi ⟨s2, e2⟩ ⟨rfl, c, hc, rfl⟩
      have hc2 : (cs z)[i]? = some c := by
        rw [← hc, ← Array.getElem?_toList]
      have hzs : z.cps.size = z.length := rfl
      have c97 := hz c (List.mem_of_getElem? hc2)
      refine ⟨rfl, ?_⟩
      unfold tYes
      dsimp only
      rw [if_pos rfl]
      refine ⟨_, rfl, c, _, rfl, rfl, _, e2, ?_, fun a o e => ?_, ?_⟩
      · rw [List.length_map, List.length_replicate]
        exact Nat.lt_of_lt_of_le hi (small_size (by omega))
      · rw [upd_ne (ne_of_none e hD)]
        exact s2 _ _ e
      · have hin : decide (c ∈ abc.cps.toList) = true := decide_eq_true (by
          have e : abc.cps.toList = (List.range 26).map (97 + ·) := by decide +kernel
          rw [e]
          exact List.mem_map.mpr ⟨c - 97, List.mem_range.mpr (by omega), by omega⟩)
        rw [upd_same, hin, List.replicate_succ', List.map_append]
        rfl
    · rintro H2 ⟨s2, e2⟩
      refine ⟨D, _, rfl, .of e2, ?_⟩
      have ha : (List.replicate z.cps.size true).all id = true := by
        rw [List.all_eq_true]
        intro x hx
        rw [(List.mem_replicate.mp hx).2]
        rfl
      rw [ha]
      exact q H2 s2
theorem ok_needname {f fI : Addr} {fd fdI : FuncData} (F : Fun K "need_name" "need_name" sNeedName f fd) (I : Fun K "is_name" "is_name" sIsName fI fdI) (bI : Binds K fdI ["value"] []) (gI : mg "is_name" = some (.ref fI))
    (GI : FnOk P w K mg base CX0 1 fI fdI ["value"] spIsName) : FnOk P w K mg base CX0 2 f fd ["value"] spNeedName := by
  refine F.ok scNeedName (fun vs H Q E h => ?_) (fun cdv A outer s H vs Q E hr h => ?_)
  · obtain ⟨z, rfl, _⟩ := h
    rfl
  · obtain ⟨z, rfl, hz, q⟩ := h
    refine ⟨_, pss_one (ps_if (pt_not (pt_val (pe_call GI hr rfl gI I.kp bI .nil pass0 (pa_cons (pv 0) pa_nil)))) (pss_one ps_never) pss_nil), ?_⟩
    exact ⟨_, rfl, z, rfl, hz, fun H' s' => ⟨_, rfl, iteF (q H' s')⟩⟩
theorem ok_isvalue {f fN fI : Addr} {fd fdN fdI : FuncData} {t1 t2 : Tok} (F : Fun K "is_value" "is_value" sIsValue f fd) (N : Fun K "is_name" "is_name" sIsName fN fdN) (bN : Binds K fdN ["value"] []) (gN : mg "is_name" = some (.ref fN))
    (GN : FnOk P w K mg base CX0 1 fN fdN ["value"] spIsName) (I : Fun K "is_integer" "is_integer" sIsInt fI fdI) (bI : Binds K fdI ["value", "low", "high"] []) (gI : mg "is_integer" = some (.ref fI)) (GI : FnOk P w K mg base CX0 1 fI fdI ["value", "low", "high"] spIsInt)
    (gM : mg "MOST_FIELDS" = some (.int 6 t1)) (gG : mg "GREATEST" = some (.int 999 t2)) (mi : mg "isinstance" = none) (md : mg "dict" = none) (ml : mg "len" = none) (ma : mg "all" = none) :
    FnOk P w K mg base CX0 2 f fd ["value"] spIsValue := by
  refine F.ok scIsValue (fun vs H Q E h => ?_) (fun cdv A outer s H vs Q E hr h => ?_)
  · obtain ⟨d, zs, kvs, rfl, _⟩ := h
    rfl
  · obtain ⟨d, zs, kvs, rfl, hd, hv, q⟩ := h
    have hu := hu_of hr
    refine ⟨_, pss_cons (ps_if (PW.pt (pw_or (pt_not (pt_val (pt_isi "dict" (pv 0) (hm := mi) (mn := md)))) (pw_or1 (pt_not (pt_chain op_le op_le pe_int (pe_callB call_lenD (by rfl) ml PySem.boot_len (pa_cons (pv 0) pa_nil)) (pe_glob (v := .int 6) rfl gM ⟨_, rfl⟩))))))
        (pss_one (ps_ret pe_bl)) pss_nil)
      (pss_one (ps_ret (pe_callB (cr_all rfl) (by rfl) ma (by decide +kernel) (pa_cons (pe_lock (pe_lc (own := [("field", 1)]) (g := gName 1) (tt := tYes) (by rfl) scIsValue.nd (pi_keys (pv 0))
        (blkOk_by (own := [("field", 1)]) (N := ["value", "field"]) (sc := defScope sIsValue) (by decide +kernel)) (fun _ _ _ _ _ => pg_name (i := 1) scIsValue.nd rfl (.inl rfl)) (fun _ _ _ _ _ => pts_nil)
        (fun _ _ _ _ _ => pe_and (pe_call GN hr rfl gN N.kp bN .nil pass0 (pa_cons (pv 1) pa_nil)) (pe_one (pe_call GI hr rfl gI I.kp bI .nil pass0 (pa_cons (pe_dget hu (pv 0) (pv 1) (fun _ _ => rfl))
          (pa_cons (pe_un un_neg (pe_glob (v := .int 999) rfl gG ⟨_, rfl⟩)) (pa_cons (pe_glob (v := .int 999) rfl gG ⟨_, rfl⟩) pa_nil)))))))) pa_nil)))), ?_⟩
    refine ⟨_, rfl, _, _, _, _, _, rfl, .ty _, .base (.dK hd), kit_ty (a := "dict") (b := "dict") (r := true) (by decide +kernel), _, rfl, iteF ?_⟩
    refine ⟨_, rfl, d, kvs, rfl, hd, ?_⟩
    have h1 := hv.pos
    have h6 := hv.six
    refine ⟨_, _, rfl, rfl, _, rfl, ?_⟩
    rw [decide_eq_true (show (1 : Int) ≤ (kvs.length : Int) by omega)]
    refine iteT ⟨_, _, rfl, rfl, _, rfl, ?_⟩
    rw [decide_eq_true (show (kvs.length : Int) ≤ 6 by omega)]
    refine iteF ?_
    refine ⟨d, _, hd, trivial, fun od => ?_⟩
    refine ⟨_, rfl, d, od, rfl, .inl ⟨kvs, upd_same, fun D hD => ?_⟩⟩
    have ndD : d ≠ D := fun z => by
      rw [← z, upd_same] at hD
      cases hD
    have fD : H D = none := (upd_ne ndD.symm).symm.trans hD
    refine lc_it walk_keys (fun i H2 => But d H H2 ∧ H2 d = some (.frz od (.dK kvs)) ∧ H2 D = some (.lst ((List.replicate i true).map V.bl))) ?_ ?_ ?_ ?_
    · exact ⟨but_upd But.upd fD, (upd_ne ndD).trans upd_same, upd_same⟩
    · exact fun _ _ _ h => h.2.1
    · rintro i x H2 H3 hi ⟨b2, d2, e2⟩ ⟨rfl, k, v, hk, rfl⟩
      obtain ⟨z, n, rfl, hz, hn, n1, n2⟩ := valV_of hv.is hk
      refine ⟨rfl, ?_⟩
      unfold tYes
      dsimp only
      rw [if_pos rfl]
      refine ⟨_, rfl, z, rfl, hv.nm z hz, fun H4 s4 => ⟨_, rfl, iteT ?_⟩⟩
      have d4 := s4 _ _ d2
      have e4 := s4 _ _ e2
      refine ⟨_, rfl, _, rfl, d, .int n, rfl, .inl ⟨kvs, Sum.inr z, .inr ⟨od, d4⟩, rfl, hn.symm⟩, _, rfl, n, -999, 999, rfl, ?_⟩
      rw [decide_eq_true n1, decide_eq_true n2]
      refine ⟨_, e4, ?_, ?_, ?_, ?_⟩
      · rw [List.length_map, List.length_replicate]
        exact small1000 (by omega)
      · exact but_upd (b2.trans (But.same s4)) fD
      · exact (upd_ne ndD).trans d4
      · rw [upd_same, List.replicate_succ', List.map_append]
        rfl
    · rintro H2 ⟨b2, d2, e2⟩
      refine ⟨d2, D, _, rfl, .of ((upd_ne ndD.symm).trans e2), ?_⟩
      have ha : (List.replicate kvs.length true).all id = true := by
        rw [List.all_eq_true]
        intro x hx
        rw [(List.mem_replicate.mp hx).2]
        rfl
      rw [ha]
      refine q _ fun c o e => ?_
      by_cases hc : c = d
      · rw [hc] at e ⊢
        rw [hd] at e
        rw [← e]
        exact upd_same
      · rw [upd_ne hc]
        exact b2 c o hc e
theorem ok_needvalue {f fI : Addr} {fd fdI : FuncData} (F : Fun K "need_value" "need_value" sNeedValue f fd) (I : Fun K "is_value" "is_value" sIsValue fI fdI) (bI : Binds K fdI ["value"] []) (gI : mg "is_value" = some (.ref fI))
    (GI : FnOk P w K mg base CX0 2 fI fdI ["value"] spIsValue) : FnOk P w K mg base CX0 3 f fd ["value"] spNeedValue := by
  refine F.ok scNeedValue (fun vs H Q E h => ?_) (fun cdv A outer s H vs Q E hr h => ?_)
  · obtain ⟨d, zs, kvs, rfl, _⟩ := h
    rfl
  · obtain ⟨d, zs, kvs, rfl, hd, hv, q⟩ := h
    refine ⟨_, pss_one (ps_if (pt_not (pt_val (pe_call GI hr rfl gI I.kp bI .nil pass0 (pa_cons (pv 0) pa_nil)))) (pss_one ps_never) pss_nil), ?_⟩
    exact ⟨_, rfl, d, zs, kvs, rfl, hd, hv, fun H' s' => ⟨_, rfl, iteF (q H' s')⟩⟩
theorem ok_needrecord {f fN fV : Addr} {fd fdN fdV : FuncData} (F : Fun K "need_record" "need_record" sNeedRecord f fd) (kN : PySem.W.keepIn K (.ref fN) = true) (bN : Binds K fdN ["value"] []) (gN : mg "need_name" = some (.ref fN)) (GN : FnOk P w K mg base CX0 2 fN fdN ["value"] spNeedName)
    (kV : PySem.W.keepIn K (.ref fV) = true) (bV : Binds K fdV ["value"] []) (gV : mg "need_value" = some (.ref fV)) (GV : FnOk P w K mg base CX0 3 fV fdV ["value"] spNeedValue) : FnOk P w K mg base CX0 4 f fd ["key", "value"] spNeedRecord := by
  refine F.ok scNeedRecord (fun vs H Q E h => ?_) (fun cdv A outer s H vs Q E hr h => ?_)
  · obtain ⟨y, d, zs, kvs, rfl, _⟩ := h
    rfl
  · obtain ⟨y, d, zs, kvs, rfl, hy, hd, hv, q⟩ := h
    refine ⟨_, pss_cons (ps_expr (pe_call GN (hr.mono (by decide)) rfl gN kN bN .nil pass0 (pa_cons (pv 0) pa_nil))) (pss_one (ps_expr (pe_call GV hr rfl gV kV bV .nil pass0 (pa_cons (pv 1) pa_nil)))), ?_⟩
    exact ⟨_, rfl, y, rfl, hy, fun H1 s1 => ⟨_, rfl, d, zs, kvs, rfl, s1 _ _ hd, hv, fun H2 s2 => q H2 (s1.trans s2)⟩⟩
end
end G
set_option Elab.async false
set_option linter.all false
set_option maxRecDepth 100000
set_option maxHeartbeats 2000000
/-! W2: fields with signs; what they answer. -/
namespace G
open PySem PySem.Spec PyProof.Rows L2 NdefX
theorem cs_inj {a b : Str} (h : cs a = cs b) : a = b := by
  obtain ⟨x⟩ := a
  obtain ⟨y⟩ := b
  have e : x = y := Array.toList_inj.mp h
  rw [e]
def cutSign (l : List Nat) : List Nat := if l.head? = some 45 then l.drop 1 else l
theorem cs_prefix (z : Str) : cs (Txt.removeprefix z "-") = cutSign (cs z) := by
  have hl := cs_len z
  rw [StrLaws.removeprefix_eq]
  unfold cutSign
  by_cases h : (cs z).head? = some 45
  · rw [if_pos h]
    obtain ⟨q, hq⟩ : ∃ q, cs z = 45 :: q := by
      cases hz : cs z with
      | nil =>
        rw [hz] at h
        cases h
      | cons x q =>
        rw [hz] at h
        exact ⟨q, by rw [Option.some.inj h]⟩
    have hA : StrLaws.At z ⟨#[45]⟩ z.length 0 := (StrLaws.subAt_one z 45 0).mpr (by rw [show z.cps.toList = 45 :: q from hq]; rfl)
    have e1 : (decide (0 + ("-" : Str).length ≤ z.length) && Builtin.Str.subAt z "-" 0) = true := by
      have e2 : Builtin.Str.subAt z "-" 0 = true := hA.2
      rw [e2, decide_eq_true (show 0 + ("-" : Str).length ≤ z.length from hA.1)]
      rfl
    rw [if_pos e1]
    show ((cs z).drop 1).take (z.length - 1) = (cs z).drop 1
    exact List.take_of_length_le (by rw [List.length_drop, hl]; exact Nat.le_refl _)
  · rw [if_neg h]
    rw [if_neg]
    intro e
    rw [Bool.and_eq_true, decide_eq_true_eq] at e
    have hA : StrLaws.At z ⟨#[45]⟩ z.length 0 := ⟨e.1, e.2⟩
    have := (StrLaws.subAt_one z 45 0).mp hA
    apply h
    rw [List.head?_eq_getElem?]
    exact this
/-- a field as it is passed: with a sign or without one, its name, its text -/
structure Fld where
  neg : Bool
  nm : Str
  tx : Str
def Fld.Ok (f : Fld) : Prop := NameZ f.nm ∧ cs f.tx = (if f.neg then [45] else []) ++ cs f.nm
theorem name_cons {y : Str} (h : NameZ y) : ∃ c l, cs y = c :: l ∧ 97 ≤ c ∧ c ≤ 122 := by
  obtain ⟨low, h1, _⟩ := h
  cases e : cs y with
  | nil =>
    have := cs_len y
    rw [e] at this
    simp at this
    omega
  | cons c l =>
    obtain ⟨a, b⟩ := low c (by rw [e]; exact List.mem_cons_self)
    exact ⟨c, l, rfl, a, b⟩
section
variable {f : Fld}
theorem Fld.Ok.len (h : f.Ok) : f.tx.length ≤ 9 := by
  have e := congrArg List.length h.2
  rw [cs_len, List.length_append, cs_len] at e
  have h8 := h.1.2.2
  have : (if f.neg then [45] else [] : List Nat).length ≤ 1 := by
    cases f.neg <;> decide
  omega
theorem Fld.Ok.bare (h : f.Ok) : Txt.removeprefix f.tx "-" = f.nm := by
  apply cs_inj
  rw [cs_prefix, h.2]
  obtain ⟨c, l, e, c1, c2⟩ := name_cons h.1
  rw [e]
  cases f.neg with
  | true => rfl
  | false =>
    show cutSign (c :: l) = c :: l
    unfold cutSign
    rw [if_neg (fun z => by have := Option.some.inj z; omega)]
theorem minus_goes (c : Nat) : ("-" : Str).cps.contains c = decide (c = 45) := by
  have e : ("-" : Str).cps = #[45] := by decide +kernel
  rw [e]
  by_cases h : c = 45
  · subst h
    decide +kernel
  · rw [decide_eq_false h]
    simp [h]
theorem Fld.Ok.strip (h : f.Ok) : Txt.lstripChars f.tx "-" = f.nm := by
  obtain ⟨c, l, e, c1, c2⟩ := name_cons h.1
  have hg : ("-" : Str).cps.contains c = false := by
    rw [minus_goes]
    exact decide_eq_false (by omega)
  have hlo : stripLo ("-" : Str).cps.contains true f.tx = (if f.neg then 1 else 0) := by
    show ((cs f.tx).takeWhile ("-" : Str).cps.contains).length = _
    rw [h.2, e]
    cases f.neg with
    | true =>
      show ((45 :: c :: l).takeWhile _).length = 1
      rw [List.takeWhile_cons_of_pos (by rw [minus_goes]; rfl), List.takeWhile_cons_of_neg (by rw [hg]; decide)]
      rfl
    | false =>
      show ((c :: l).takeWhile _).length = 0
      rw [List.takeWhile_cons_of_neg (by rw [hg]; decide)]
      rfl
  have hl := cs_len f.tx
  apply cs_inj
  unfold Txt.lstripChars Txt.stripBy stripSame
  rw [hlo]
  have e2 := h.2
  cases hn : f.neg with
  | true =>
    rw [hn] at hlo e2
    rw [if_neg (by simp)]
    unfold stripped
    rw [hlo]
    show (Builtin.Str.strSub f.tx 1 f.tx.length).cps.toList = _
    rw [StrLaws.strSub_toList]
    show ((cs f.tx).drop 1).take (f.tx.length - 1) = _
    rw [List.take_of_length_le (by rw [List.length_drop, hl]; exact Nat.le_refl _), e2]
    rfl
  | false =>
    rw [hn] at e2
    rw [if_pos (by show (decide _ && _) = true; simp [stripHi])]
    rw [e2]
    rfl
/-- the first sign -/
theorem Fld.Ok.first (h : f.Ok) : ∃ c, atI f.tx.cps.toList 0 = some c ∧ decide ((V.str ⟨#[c]⟩ : V) = V.str "-") = f.neg := by
  obtain ⟨c, l, e, c1, c2⟩ := name_cons h.1
  have e2 := h.2
  cases hn : f.neg with
  | true =>
    rw [hn] at e2
    exact ⟨45, atI_nat (j := 0) (by show (cs f.tx)[0]? = _; rw [e2]; rfl), by decide +kernel⟩
  | false =>
    rw [hn] at e2
    refine ⟨c, atI_nat (j := 0) (by show (cs f.tx)[0]? = _; rw [e2, e]; rfl), decide_eq_false fun z => ?_⟩
    have z1 := congrArg cs (V.str.inj z)
    have z2 : cs ("-" : Str) = [45] := by decide +kernel
    rw [z2] at z1
    have z3 : [c] = [45] := z1
    simp at z3
    omega
end
/-- the number of a field in a value -/
def numK (kvs : List (Key × V)) (y : Str) : Int := match valV kvs (Sum.inr y) with
  | some (.int n) => n
  | _ => -1000
def Fld.ans (f : Fld) (kvs : List (Key × V)) : Int := if f.neg then -(numK kvs f.nm) else numK kvs f.nm
theorem valN_get {zs : List Str} {kvs : List (Key × V)} (h : ValN zs kvs) (y : Str) : (valV kvs (Sum.inr y)).getD (.int (-1000)) = .int (numK kvs y) ∧ -1000 ≤ numK kvs y ∧ numK kvs y ≤ 999 := by
  unfold numK
  cases e : valV kvs (Sum.inr y) with
  | none => exact ⟨rfl, by decide, by decide⟩
  | some v =>
    have h2 : Option.map (fun p : Key × V => p.2) (kvs.find? fun kv => decide (kv.1 = (Sum.inr y : Key))) = some v := e
    obtain ⟨p, hp, rfl⟩ := Option.map_eq_some_iff.mp h2
    obtain ⟨z, n, ep, _, n1, n2⟩ := h p (List.mem_of_find?_eq_some hp)
    rw [ep]
    exact ⟨rfl, by show -1000 ≤ n; omega, n2⟩
theorem Fld.ans_bound (f : Fld) {zs : List Str} {kvs : List (Key × V)} (h : ValN zs kvs) : -1000 ≤ f.ans kvs ∧ f.ans kvs ≤ 1000 := by
  obtain ⟨_, h1, h2⟩ := valN_get h f.nm
  unfold Fld.ans
  split <;> omega
end G
set_option Elab.async false
set_option linter.all false
set_option maxRecDepth 100000
set_option maxHeartbeats 2000000
/-! W3: an order's defs. -/
namespace G
open PySem PySem.Spec PyProof.Rows L2 NdefX StX
abbrev sSigned : Stmt := topS 25
abbrev sNegative : Stmt := topS 26
abbrev sNumberFor : Stmt := topS 28
abbrev sBy (j : Nat) : Stmt := inClass (topS 24) j
abbrev nByI : List Str := ["self", "fields", "field"]
theorem scSigned : FnScope ["value"] ["value"] (defScope sSigned) := ⟨rfl, rfl, rfl, by decide +kernel, rfl, by decide +kernel, by decide +kernel⟩
theorem scNegative : FnScope ["field"] ["field"] (defScope sNegative) := ⟨rfl, rfl, rfl, by decide +kernel, rfl, by decide +kernel, by decide +kernel⟩
theorem scNumberFor : FnScope ["field", "value", "number"] ["field", "value"] (defScope sNumberFor) := ⟨rfl, rfl, rfl, by decide +kernel, rfl, by decide +kernel, by decide +kernel⟩
theorem scByI : FnScope nByI ([("self" : Str)] ++ [("fields" : Str)]) (defScope (sBy 0)) := ⟨rfl, rfl, rfl, by decide +kernel, rfl, by decide +kernel, by decide +kernel⟩
theorem scByF : FnScope ["self"] ["self"] (defScope (sBy 1)) := ⟨rfl, rfl, rfl, by decide +kernel, rfl, by decide +kernel, by decide +kernel⟩
theorem scByC : FnScope ["self", "key", "value"] ["self", "key", "value"] (defScope (sBy 2)) := ⟨rfl, rfl, rfl, by decide +kernel, rfl, by decide +kernel, by decide +kernel⟩
theorem scByA : FnScope ["self", "value", "field"] ["self", "value"] (defScope (sBy 3)) := ⟨rfl, rfl, rfl, by decide +kernel, rfl, by decide +kernel, by decide +kernel⟩
def spSigned : Sp := fun vs H Q _ => ∃ f : Fld, vs = [.str f.tx] ∧ f.Ok ∧ ∀ H', Same H H' → Q (.bl true) H'
def spNegative : Sp := fun vs H Q _ => ∃ f : Fld, vs = [.str f.tx] ∧ f.Ok ∧ Q (.bl f.neg) H
def spNumberFor : Sp := fun vs H Q _ => ∃ (f : Fld) (d : Addr) (zs : List Str) (kvs : List (Key × V)), vs = [.str f.tx, .ref d] ∧ f.Ok ∧ H d = some (.dK kvs) ∧ ValN zs kvs ∧ Q (.int (f.ans kvs)) H
/-- at a stands By(*fs), whose tuple is at t -/
def ByAt (C : Addr) (H : Hp) (a t : Addr) (fs : List Fld) : Prop := ∃ dx, H a = some (.ins C dx [("signed_fields", .ref t)]) ∧ H t = some (.tup (fs.map fun f => V.str f.tx))
theorem ByAt.same {C a t : Addr} {H H' : Hp} {fs : List Fld} (h : ByAt C H a t fs) (s : Same H H') : ByAt C H' a t fs := let ⟨dx, h1, h2⟩ := h; ⟨dx, s _ _ h1, s _ _ h2⟩
def spByI (C : Addr) : Sp := fun vs H Q _ => ∃ (a dx t : Addr) (fs : List Fld), vs = [.ref a, .ref t] ∧ H a = some (.ins C dx []) ∧ H t = some (.tup (fs.map fun f => V.str f.tx)) ∧ 1 ≤ fs.length ∧ fs.length ≤ 3 ∧ (∀ f ∈ fs, f.Ok) ∧
  ∀ H', Same H H' → Q .non (upd H' a (.ins C dx [("signed_fields", .ref t)]))
def spByF (C : Addr) : Sp := fun vs H Q _ => ∃ (a t : Addr) (fs : List Fld), vs = [.ref a] ∧ ByAt C H a t fs ∧ Q (.ref t) H
def spByA (C : Addr) : Sp := fun vs H Q _ => ∃ (a t d : Addr) (fs : List Fld) (zs : List Str) (kvs : List (Key × V)), vs = [.ref a, .ref d] ∧ ByAt C H a t fs ∧ fs.length ≤ 3 ∧ (∀ f ∈ fs, f.Ok) ∧ H d = some (.dK kvs) ∧ ValN zs kvs ∧
  ∀ (p : Addr) (H' : Hp), Same H H' → H p = none → H' p = some (.tup (fs.map fun f => V.int (f.ans kvs))) → Q (.ref p) H'
def spByC (C : Addr) : Sp := fun vs H Q _ => ∃ (a t d : Addr) (y : Str) (fs : List Fld) (zs : List Str) (kvs : List (Key × V)), vs = [.ref a, .str y, .ref d] ∧ ByAt C H a t fs ∧ fs.length ≤ 3 ∧ (∀ f ∈ fs, f.Ok) ∧ NameZ y ∧ H d = some (.dK kvs) ∧ ValOk zs kvs ∧
  ∀ (p : Addr) (H' : Hp), Same H H' → H p = none → H' p = some (.tup (fs.map fun f => V.int (f.ans kvs))) → Q (.ref p) H'
section
variable {P : Program} {w : World} {K : PySem.W.Frag} {mg : Str → Option Value} {base : Heap}
theorem ok_signed {f fN : Addr} {fd fdN : FuncData} (F : Fun K "is_signed_field" "is_signed_field" sSigned f fd) (N : Fun K "is_name" "is_name" sIsName fN fdN) (bN : Binds K fdN ["value"] []) (gN : mg "is_name" = some (.ref fN))
    (GN : FnOk P w K mg base CX0 1 fN fdN ["value"] spIsName) (mi : mg "isinstance" = none) (ms : mg "str" = none) : FnOk P w K mg base CX0 2 f fd ["value"] spSigned := by
  refine F.ok scSigned (fun vs H Q E h => ?_) (fun cdv A outer s H vs Q E hr h => ?_)
  · obtain ⟨z, rfl, _⟩ := h
    rfl
  · obtain ⟨z, rfl, hz, q⟩ := h
    refine ⟨_, pss_one (ps_ret (pe_and (pt_isi "str" (pv 0) (hm := mi) (mn := ms)) (pe_one (pe_call GN hr rfl gN N.kp bN .nil pass0 (pa_cons (pe_m1 PySem.F.slot_str_removeprefix PySem.F.type_str_removeprefix mt_removeprefix (pv 0) pe_str) pa_nil))))), ?_⟩
    refine ⟨_, rfl, _, _, _, _, _, rfl, .ty _, rp_ty (K := K) (.str z.tx), kit_s (.str z.tx), _, rfl, iteT ?_⟩
    have h9 := hz.len
    refine ⟨_, rfl, ⟨_, rfl⟩, z.tx, _, rfl, rfl, small_size (by omega), ?_⟩
    rw [hz.bare]
    exact ⟨z.nm, rfl, hz.1, q⟩
theorem ok_negative {f : Addr} {fd : FuncData} (F : Fun K "is_negative" "is_negative" sNegative f fd) : FnOk P w K mg base CX0 1 f fd ["field"] spNegative := by
  refine F.ok scNegative (fun vs H Q E h => ?_) (fun cdv A outer s H vs Q E hr h => ?_)
  · obtain ⟨z, rfl, _⟩ := h
    rfl
  · obtain ⟨z, rfl, hz, q⟩ := h
    refine ⟨_, pss_one (ps_ret (pe_cmpR op_eq (pe_ix ix_str (pv 0) pe_int (fun _ _ => rfl)) pe_str (nomark _))), ?_⟩
    have h9 := hz.len
    obtain ⟨c, e1, e2⟩ := hz.first
    refine ⟨_, rfl, z.tx, _, c, rfl, rfl, small_size (by omega), e1, rfl, ?_⟩
    rw [e2]
    exact q
theorem ok_numfor {f fN : Addr} {fd fdN : FuncData} {t1 : Tok} (F : Fun K "number_for" "number_for" sNumberFor f fd) (N : Fun K "is_negative" "is_negative" sNegative fN fdN) (bN : Binds K fdN ["field"] []) (gN : mg "is_negative" = some (.ref fN))
    (gM : mg "MISSING" = some (.int (-1000) t1)) : FnOk P w K mg base CX0 2 f fd ["field", "value"] spNumberFor := by
  have GN : FnOk P w K mg base CX0 1 fN fdN ["field"] spNegative := ok_negative N
  refine F.ok scNumberFor (fun vs H Q E h => ?_) (fun cdv A outer s H vs Q E hr h => ?_)
  · obtain ⟨z, d, zs, kvs, rfl, _⟩ := h
    rfl
  · obtain ⟨z, d, zs, kvs, rfl, hz, hd, hv, q⟩ := h
    have hu := hu_of hr
    refine ⟨_, pss_cons (ps_set (i := 2) scNumberFor.nd rfl (.inl rfl) (pe_dget2 hu (pv 1) (pe_m1 PySem.F.slot_str_removeprefix PySem.F.type_str_removeprefix mt_removeprefix (pv 0) pe_str) (pe_glob (v := .int (-1000)) rfl gM ⟨_, rfl⟩) ⟨rfl, rfl, rfl, rfl⟩))
      (pss_one (ps_ret (pe_ifExp (pt_val (pe_call GN hr rfl gN N.kp bN .nil pass0 (pa_cons (pv 0) pa_nil))) (pe_un un_neg (pv 2)) (pv 2)))), ?_⟩
    have h9 := hz.len
    refine ⟨_, rfl, d, rfl, .inl ⟨_, .inl hd⟩, _, rfl, ⟨_, rfl⟩, z.tx, _, rfl, rfl, small_size (by omega), ?_⟩
    rw [hz.bare]
    obtain ⟨n1, n2, n3⟩ := valN_get hv z.nm
    refine ⟨_, DGet.k (k := Sum.inr z.nm) hd, ?_⟩
    rw [n1]
    refine ⟨_, rfl, z, rfl, hz, _, rfl, ?_⟩
    unfold Fld.ans at q
    cases e : z.neg with
    | true =>
      rw [e] at q
      exact iteT ⟨_, rfl, _, rfl, q⟩
    | false =>
      rw [e] at q
      exact iteF ⟨_, rfl, q⟩
end
end G
set_option Elab.async false
set_option linter.all false
set_option maxRecDepth 100000
set_option maxHeartbeats 2000000
/-! W4: an order made and asked. -/
namespace G
open PySem PySem.Spec PyProof.Rows L2 NdefX StX
theorem Fld.Ok.lay {f : Fld} (h : f.Ok) : G.lay (.str f.tx) := by
  refine ⟨rfl, ?_, Nat.zero_le _⟩
  show f.tx.cps.all (· < 0x110000) = true
  rw [Array.all_eq_true]
  intro i hi
  have hm : f.tx.cps[i] ∈ cs f.tx := by simp [cs]
  rw [h.2] at hm
  rcases List.mem_append.mp hm with hm | hm
  · have : f.tx.cps[i] = 45 := by
      cases e : f.neg with
      | true =>
        rw [e] at hm
        exact List.mem_singleton.mp hm
      | false =>
        rw [e] at hm
        cases hm
    exact decide_eq_true (by omega)
  · have := h.1.1 _ hm
    exact decide_eq_true (by omega)
theorem dp_flds {K : PySem.W.Frag} {H : Hp} : ∀ fs : List Fld, DpAll K H (fs.map fun f => V.str f.tx) (fs.map fun f => PyData.str f.tx)
  | [] => .nil
  | f :: fs => .cons (.str f.tx) (dp_flds fs)
theorem sh_flds {fs : List Fld} (h : ∀ f ∈ fs, f.Ok) : SeqAt.shaped (.tuple (fs.map fun f => PyData.str f.tx)) = true := lay_list (ds := fs.map fun f : Fld => PyData.str f.tx) fun d hd => by
  obtain ⟨u, hu, rfl⟩ := List.mem_map.mp hd
  exact (h u hu).lay
section
variable {P : Program} {w : World} {K : PySem.W.Frag} {mg : Str → Option Value} {base : Heap}
abbrev spByR (C : Addr) : Sp := fun vs H Q E => ∃ ws rest, vs = ws ++ rest ∧ ws.length = ["self"].length ∧ rest.length ≤ sizeLine ∧ ∀ p, H p = Option.none → spByI C (ws ++ [V.ref p]) (upd H p (.tup rest)) Q E
theorem ok_byinit {f C fS : Addr} {fd fdS : FuncData} {t1 : Tok} (F : Fun K "__init__" "By.__init__" (sBy 0) f fd) (c : Cls K C) (n1 : NoAttr K C "signed_fields")
    (GS : FnOk P w K mg base CX0 2 fS fdS ["value"] spSigned) (gS : mg "is_signed_field" = some (.ref fS)) (kS : PySem.W.keepIn K (.ref fS) = true) (bS : Binds K fdS ["value"] []) (gM : mg "MOST_IN_ORDER" = some (.int 3 t1)) (ml : mg "len" = none) :
    FnR P w K mg base CX0 3 f (spByR C) := by
  obtain ⟨oc, od, kV, doc, pm, an, cdv, ct, osl, rfl, lk, hcd⟩ := F.ex
  refine fn_star (ps := ["self"]) (pv := "fields") (k := 2) lk hcd scByI cxUp_none (fun us rest hl => match us, rest, hl with | [_], [], _ => rfl | [_], _ :: _, _ => rfl) (fun A outer s H vs Q E hr h => ?_)
  suffices hh : ∃ t, PSs (cxOf CX0 P w K mg base nByI "By.__init__" (defScope (sBy 0)) f cdv A outer s H E).nox (defBody (sBy 0)) t ∧ t { nx := fun _ H' => Q .non H', rt := Q } (start nByI vs) H by
    obtain ⟨t, h1, h2⟩ := hh
    exact ⟨t, h1.nox, h2⟩
  obtain ⟨a, dx, t, fs, rfl, ha, ht, l1, l3, hz, q⟩ := h
  refine ⟨_, pss_cons (ps_if (pt_cmpR (op_eqD hr.units) (pv 1) (pe_tup pa_nil) (nomark _)) (pss_one ps_never) pss_nil)
    (pss_cons (ps_if (pt_cmpR op_gt (pe_callB call_len_seq (by rfl) ml PySem.boot_len (pa_cons (pv 1) pa_nil)) (pe_glob (v := .int 3) rfl gM ⟨_, rfl⟩) (nomark _)) (pss_one ps_never) pss_nil)
    (pss_cons (ps_for PassesOwn.never rfl (pi_tup (pv 1)) (pg_name (i := 2) scByI.nd rfl (.inl rfl)) (pss_one (ps_if (pt_not (pt_val (pe_call GS hr rfl gS kS bS .nil pass0 (pa_cons (pv 2) pa_nil)))) (pss_one ps_never) pss_nil)))
      (pss_one (ps_fld (pv 0) (pv 1) rfl)))), ?_⟩
  refine ⟨_, rfl, (by show 0 ≤ sizeLine; exact Nat.zero_le _), fun p hp => ?_⟩
  have s1 : Same H (upd H p (.tup [])) := Same.new hp
  refine ⟨.tuple (fs.map fun f => PyData.str f.tx), .tuple [], .tup (.of (s1 _ _ ht)) (dp_flds fs), .tup (.of upd_same) .nil, sh_flds hz, rfl, _, rfl, ?_⟩
  have en : PyData.eqv (.tuple (fs.map fun f => PyData.str f.tx)) (.tuple []) = false := by
    cases fs with
    | nil => cases l1
    | cons f r => simp [PyData.eqv, PyData.eqvAll]
  rw [en]
  refine iteF ?_
  generalize upd H p (.tup []) = H1 at s1 ⊢
  have ht1 := s1 _ _ ht
  refine ⟨_, rfl, t, _, rfl, .inr (.of ht1), _, _, rfl, rfl, _, rfl, ?_⟩
  rw [List.length_map, decide_eq_false (show ¬ ((fs.length : Int) > 3) by omega)]
  refine iteF ⟨_, rfl, t, rfl, ⟨_, .of ht1⟩, ?_⟩
  refine for_tup (xs := fs.map fun f => V.str f.tx) (fun i σ H2 => ∃ x2 : Option V, σ = [some (.ref a), some (.ref t), x2] ∧ Same H H2) ?_ ?_ ?_ ?_
  · exact ⟨none, rfl, s1⟩
  · rintro i σ H2 _ ⟨x2, rfl, s2⟩
    exact .of (s2 _ _ ht)
  · rintro i x σ H2 hx ⟨x2, rfl, s2⟩
    rw [List.getElem?_map] at hx
    obtain ⟨y, hy, rfl⟩ := Option.map_eq_some_iff.mp hx
    exact ⟨_, rfl, y, rfl, hz y (List.mem_of_getElem? hy), fun H3 s3 => ⟨_, rfl, iteF ⟨_, rfl, s2.trans s3⟩⟩⟩
  · rintro σ H2 ⟨x2, rfl, s2⟩
    exact ⟨_, rfl, _, rfl, a, C, dx, _, rfl, s2 _ _ ha, c, n1, (by show 0 < 1000; decide), q H2 s2⟩
theorem ok_byfields {f C : Addr} {fd : FuncData} (F : Fun K "fields" "By.fields" (sBy 1) f fd) (c : Cls K C) (n : NoAttr K C "signed_fields") : FnOk P w K mg base CX0 1 f fd ["self"] (spByF C) := by
  refine F.ok scByF (fun vs H Q E h => ?_) (fun cdv A outer s H vs Q E hr h => ?_)
  · obtain ⟨a, t, zs, rfl, _⟩ := h
    rfl
  · obtain ⟨a, t, zs, rfl, ⟨dx, ha, _⟩, q⟩ := h
    exact ⟨_, pss_one (ps_ret (pe_fld (pv 0) rfl)), _, rfl, a, C, dx, _, _, rfl, ha, c, n, rfl, q⟩
theorem ok_byans {f C fN : Addr} {fd fdN : FuncData} (F : Fun K "answer_for" "By.answer_for" (sBy 3) f fd) (c : Cls K C) (n : NoAttr K C "signed_fields")
    (GN : FnOk P w K mg base CX0 2 fN fdN ["field", "value"] spNumberFor) (gN : mg "number_for" = some (.ref fN)) (kN : PySem.W.keepIn K (.ref fN) = true) (bN : Binds K fdN ["field", "value"] []) (mT : mg "tuple" = none) :
    FnOk P w K mg base CX0 3 f fd ["self", "value"] (spByA C) := by
  refine F.ok scByA (fun vs H Q E h => ?_) (fun cdv A outer s H vs Q E hr h => ?_)
  · obtain ⟨a, t, d, fs, zs, kvs, rfl, _⟩ := h
    rfl
  · obtain ⟨a, t, d, fs, zs, kvs, rfl, ⟨dx, ha, ht⟩, l3, hz, hd, hv, q⟩ := h
    refine ⟨_, pss_one (ps_ret (pe_callTy call_tuple_of (by rfl) mT (by decide +kernel) (pa_cons (pe_lc (own := [("field", 2)]) (g := gName 2) (tt := tYes) (by rfl) scByA.nd (pi_tup (pe_fld (pv 0) rfl))
      (blkOk_by (own := [("field", 2)]) (N := ["self", "value", "field"]) (sc := defScope (sBy 3)) (by decide +kernel)) (fun _ _ _ _ _ => pg_name (i := 2) scByA.nd rfl (.inl rfl)) (fun _ _ _ _ _ => pts_nil)
      (fun _ _ _ _ _ => pe_call GN hr rfl gN kN bN .nil pass0 (pa_cons (pv 2) (pa_cons (pv 1) pa_nil)))) pa_nil))), ?_⟩
    refine ⟨_, rfl, a, C, dx, _, _, rfl, ha, c, n, rfl, t, rfl, ⟨_, .of ht⟩, fun D hD => ?_⟩
    refine lc_tup (xs := fs.map fun f => V.str f.tx) (fun i H2 => Same H H2 ∧ H2 D = some (.lst (((fs.take i).map fun f => f.ans kvs).map V.int))) ?_ ?_ ?_ ?_
    · exact ⟨Same.new hD, upd_same⟩
    · rintro i H2 _ ⟨s2, _⟩
      exact .of (s2 _ _ ht)
    · rintro i x H2 hx ⟨s2, eD⟩
      rw [List.getElem?_map] at hx
      obtain ⟨y, hy, rfl⟩ := Option.map_eq_some_iff.mp hx
      refine ⟨rfl, ?_⟩
      unfold tYes
      dsimp only
      rw [if_pos rfl]
      refine ⟨_, rfl, _, rfl, y, d, zs, kvs, rfl, hz y (List.mem_of_getElem? hy), s2 _ _ hd, hv, _, eD, ?_, ?_, ?_⟩
      · rw [List.length_map, List.length_map, List.length_take]
        exact small1000 (by omega)
      · exact fun c o e => (upd_ne (ne_of_none e hD)).trans (s2 _ _ e)
      · rw [upd_same, List.take_add_one, hy]
        simp
    · rintro H2 ⟨s2, eD⟩
      rw [List.length_map, List.take_length] at eD
      refine ⟨D, _, rfl, .inl ⟨.of eD, fun p hp => ?_⟩⟩
      have npD : p ≠ D := fun z => by
        rw [z, eD] at hp
        cases hp
      refine q p _ (s2.trans (Same.new hp)) (s2.free hp) ?_
      rw [upd_same, List.map_map]
      rfl
theorem ok_bycall {f C fR fA : Addr} {fd fdR fdA : FuncData} (F : Fun K "__call__" "By.__call__" (sBy 2) f fd) (c : Cls K C) (kR : PySem.W.keepIn K (.ref fR) = true) (bR : Binds K fdR ["key", "value"] []) (gR : mg "need_record" = some (.ref fR))
    (GR : FnOk P w K mg base CX0 4 fR fdR ["key", "value"] spNeedRecord) (hm : Meth K C "answer_for" fA) (bA : Binds K fdA ["self", "value"] []) (GA : FnOk P w K mg base CX0 3 fA fdA ["self", "value"] (spByA C)) :
    FnOk P w K mg base CX0 5 f fd ["self", "key", "value"] (spByC C) := by
  refine F.ok scByC (fun vs H Q E h => ?_) (fun cdv A outer s H vs Q E hr h => ?_)
  · obtain ⟨a, t, d, y, fs, zs, kvs, rfl, _⟩ := h
    rfl
  · obtain ⟨a, t, d, y, fs, zs, kvs, rfl, hb, l3, hz, hy, hd, hv, q⟩ := h
    refine ⟨_, pss_cons (ps_expr (pe_call GR hr rfl gR kR bR .nil pass0 (pa_cons (pv 1) (pa_cons (pv 2) pa_nil))))
      (pss_one (ps_ret (pe_meth (pv 0) c hm GA (hr.mono (by decide)) bA .nil pass0 (pa_cons (pv 2) pa_nil)))), ?_⟩
    refine ⟨_, rfl, _, rfl, y, d, zs, kvs, rfl, hy, hd, hv, fun H1 s1 => ?_⟩
    obtain ⟨dx, ha, ht⟩ := hb.same s1
    exact ⟨_, rfl, a, dx, _, rfl, ha, rfl, _, rfl, a, t, d, fs, zs, kvs, rfl, ⟨dx, ha, ht⟩, l3, hz, s1 _ _ hd, hv.is, fun p H2 s2 np e2 => q p H2 (s1.trans s2) (s1.free np) e2⟩
end
end G
set_option Elab.async false
set_option linter.all false
set_option maxRecDepth 100000
set_option maxHeartbeats 2000000
/-! W5: the law's fields, answers and orders. -/
namespace G
open PySem PySem.Spec PyProof.Rows L2 NdefX StX
theorem ifN {c : Bool} {A B : Prop} (e : c = false) (h : B) : if c = true then A else B := by
  rw [e]
  exact iteF h
theorem ifY {c : Bool} {A B : Prop} (e : c = true) (h : A) : if c = true then A else B := by
  rw [e]
  exact iteT h
abbrev sFields : Stmt := topS 43
abbrev sAnswer : Stmt := topS 44
abbrev sOrder : Stmt := topS 46
abbrev nFields : List Str := ["_law_box_here", "_law_names_here", "_law_most", "_law_found", "_law_k"]
abbrev nAnswer : List Str := ["_law_fields_here", "_law_worth", "_law_found", "_law_field", "_law_number"]
theorem scFields : FnScope nFields ["_law_box_here", "_law_names_here", "_law_most"] (defScope sFields) := ⟨rfl, rfl, rfl, by decide +kernel, rfl, by decide +kernel, by decide +kernel⟩
theorem scAnswer : FnScope nAnswer ["_law_fields_here", "_law_worth"] (defScope sAnswer) := ⟨rfl, rfl, rfl, by decide +kernel, rfl, by decide +kernel, by decide +kernel⟩
theorem scOrder : FnScope ["_law_fields_here"] ["_law_fields_here"] (defScope sOrder) := ⟨rfl, rfl, rfl, by decide +kernel, rfl, by decide +kernel, by decide +kernel⟩
abbrev txs (fs : List Fld) : List V := fs.map fun f => V.str f.tx
def spFields : Sp := fun vs H Q _ => ∃ (b nl : Addr) (m n : Nat) (ns : List Str), vs = [.ref b, .ref nl, .int (m : Int)] ∧ 1 ≤ m ∧ m ≤ 3 ∧ BoxAt H b n ∧ n ≤ 80000 ∧ H nl = some (.lst (ns.map V.str)) ∧ 1 ≤ ns.length ∧ ns.length ≤ 100 ∧ (∀ y ∈ ns, NameZ y) ∧ nl ≠ b ∧
  ∀ (p : Addr) (H' : Hp) (fs : List Fld), H p = none → H' p = some (.tup (txs fs)) → 1 ≤ fs.length → fs.length ≤ m → (∀ f ∈ fs, f.Ok) → BoxAt H' b (n + 7) → But b H H' → Q (.ref p) H'
def spAnswer : Sp := fun vs H Q _ => ∃ (t d : Addr) (fs : List Fld) (zs : List Str) (kvs : List (Key × V)), vs = [.ref t, .ref d] ∧ H t = some (.tup (txs fs)) ∧ fs.length ≤ 3 ∧ (∀ f ∈ fs, f.Ok) ∧ H d = some (.dK kvs) ∧ ValN zs kvs ∧
  ∀ (p : Addr) (H' : Hp), Same H H' → H p = none → H' p = some (.tup (fs.map fun f => V.int (f.ans kvs))) → Q (.ref p) H'
def spOrder (C : Addr) : Sp := fun vs H Q _ => ∃ (t : Addr) (fs : List Fld), vs = [.ref t] ∧ H t = some (.tup (txs fs)) ∧ 1 ≤ fs.length ∧ fs.length ≤ 3 ∧ (∀ f ∈ fs, f.Ok) ∧
  ∀ (a t2 : Addr) (H' : Hp), H a = none → H t2 = none → ByAt C H' a t2 fs → Same H H' → Q (.ref a) H'
theorem sign_of {j : Nat} {y : Str} (hy : NameZ y) (hj : j < 2) : ∃ f : Fld, f.Ok ∧ ∃ z : Str, ([V.str "", V.str "-"] : List V)[j]? = some (V.str z) ∧ z ++ y = f.tx ∧ z.length ≤ 1 := by
  match j, hj with
  | 0, _ => exact ⟨⟨false, y, ("" : Str) ++ y⟩, ⟨hy, by rw [cs_app]; rfl⟩, "", rfl, rfl, by decide⟩
  | 1, _ => exact ⟨⟨true, y, ("-" : Str) ++ y⟩, ⟨hy, by
      show cs (("-" : Str) ++ y) = _
      rw [cs_app]
      have e : cs ("-" : Str) = [45] := by decide +kernel
      rw [e]
      rfl⟩, "-", rfl, rfl, by decide⟩
section
variable {P : Program} {w : World} {K : PySem.W.Frag} {mg : Str → Option Value} {base : Heap}
theorem ok_fields {f fT : Addr} {fd fdT : FuncData} (F : Fun K "_law_fields" "_law_fields" sFields f fd) (T : Fun K "_law_take" "_law_take" sTake fT fdT) (bT : Binds K fdT ["_law_box_here", "_law_many"] []) (gT : mg "_law_take" = some (.ref fT))
    (mr : mg "range" = none) (ml : mg "len" = none) (mT : mg "tuple" = none) : FnOk P w K mg base CX0 2 f fd ["_law_box_here", "_law_names_here", "_law_most"] spFields := by
  have GT : FnOk P w K mg base CX0 1 fT fdT ["_law_box_here", "_law_many"] spTake := ok_take T
  refine F.ok scFields (fun vs H Q E h => ?_) (fun cdv A outer s H vs Q E hr h => ?_)
  · obtain ⟨b, nl, m, n, ns, rfl, _⟩ := h
    rfl
  · obtain ⟨b, nl, m, n, ns, rfl, m1, m3, B, hn, hnl, l1, l100, hz, nnb, q⟩ := h
    refine ⟨_, pss_cons (ps_set (i := 3) scFields.nd rfl (.inl rfl) (pe_lst pa_nil))
      (pss_cons (ps_for PassesOwn.never rfl (pi_range1 rfl mr (pa_cons (pe_op op_add pe_int (pe_call GT hr rfl gT T.kp bT .nil pass0 (pa_cons (pv 0) (pa_cons (pv 2) pa_nil)))) pa_nil)) (pg_name (i := 4) scFields.nd rfl (.inl rfl))
        (pss_one (ps_expr (pe_bm PySem.F.plainAttrs_list PySem.F.slot_list_append PySem.F.type_list_append mt_append (pv 3) (pa_cons
          (pe_op op_add_str (pe_ix ix_list (pe_lst (pa_cons pe_str (pa_cons pe_str pa_nil))) (pe_call GT hr rfl gT T.kp bT .nil pass0 (pa_cons (pv 0) (pa_cons pe_int pa_nil))) (fun _ _ => rfl))
            (pe_ix ix_list (pv 1) (pe_call GT hr rfl gT T.kp bT .nil pass0 (pa_cons (pv 0) (pa_cons (pe_callB call_len_seq (by rfl) ml PySem.boot_len (pa_cons (pv 1) pa_nil)) pa_nil))) (fun _ _ => rfl))) pa_nil)))))
      (pss_one (ps_ret (pe_callTy call_tuple_of (by rfl) mT (by decide +kernel) (pa_cons (pv 3) pa_nil))))), ?_⟩
    refine ⟨(by show 0 ≤ sizeLine; exact Nat.zero_le _), fun l hl => ?_⟩
    have nlb := box_ne B hl
    have nnl : nl ≠ l := ne_of_none hnl hl
    refine ⟨_, rfl, _, rfl, b, m, n, rfl, box_new B hl, by omega, by omega, (Int.lt_of_le_of_lt (show (m : Int) ≤ 3 by omega) (by decide)), fun r H1 r0 r1 B1 k1 => ?_⟩
    obtain ⟨j, rfl, hj⟩ := draw_at (n := m) r0 r1 rfl
    have el := k1 _ _ nlb upd_same
    have en := k1 _ _ nnb ((upd_ne nnl).trans hnl)
    refine ⟨_, _, rfl, rfl, 1 + (j : Int), rfl, by omega, by omega, ?_⟩
    have e1 : (1 + (j : Int) : Int).toNat = 1 + j := by omega
    rw [e1]
    refine for_range (lo := 0) (n := 1 + j) (fun i σ H2 => ∃ (fs : List Fld) (x4 : Option V), σ = [some (.ref b), some (.ref nl), some (.int (m : Int)), some (.ref l), x4] ∧ H2 l = some (.lst (txs fs)) ∧ fs.length = i ∧ (∀ f ∈ fs, f.Ok) ∧ H2 nl = some (.lst (ns.map V.str)) ∧ BoxAt H2 b (n + 1 + 2 * i) ∧ But b H H2) ?_ ?_ ?_
    · exact ⟨[], none, rfl, el, rfl, (fun f h => nomatch h), en, B1, (But.new hl).trans k1⟩
    · rintro i σ H2 hi ⟨fs, x4, rfl, el2, len2, ok2, en2, B2, k2⟩
      refine ⟨_, rfl, .inl ⟨rfl, _, .of el2⟩, (by show 2 ≤ sizeLine; exact small_size (by decide)), fun p hp => ?_⟩
      have npb := box_ne B2 hp
      have npl : l ≠ p := ne_of_none el2 hp
      have npn : nl ≠ p := ne_of_none en2 hp
      refine ⟨_, rfl, b, 2, n + 1 + 2 * i, rfl, box_new B2 hp, by omega, by decide, by decide, fun r2 H3 c0 c1 B3 k3 => ?_⟩
      obtain ⟨g, rfl, hg⟩ := draw_at (n := 2) c0 c1 rfl
      have ep3 := k3 _ _ npb upd_same
      have el3 := k3 _ _ nlb ((upd_ne npl).trans el2)
      have en3 := k3 _ _ nnb ((upd_ne npn).trans en2)
      have kk3 : But b H H3 := (k2.trans (But.new hp)).trans k3
      obtain ⟨z, ez⟩ : ∃ z : Str, ([V.str "", V.str "-"] : List V)[g]? = some (V.str z) := by
        match g, hg with
        | 0, _ => exact ⟨_, rfl⟩
        | 1, _ => exact ⟨_, rfl⟩
      refine ⟨p, _, _, .str z, rfl, rfl, .of ep3, atI_nat ez, _, rfl, _, rfl, _, rfl, nl, _, rfl, .inl (.of en3), b, _, n + 1 + 2 * i + 1, rfl, B3, by omega, ?_, ?_, fun r3 H4 d0 d1 B4 k4 => ?_⟩
      · rw [List.length_map]
        omega
      · rw [List.length_map]
        omega
      obtain ⟨h, rfl, hh⟩ := draw_at (n := ns.length) d0 d1 (by rw [List.length_map])
      have en4 := k4 _ _ nnb en3
      have el4 := k4 _ _ nlb el3
      obtain ⟨fl, okf, z2, ez2, etx, hz1⟩ := sign_of (hz _ (List.getElem_mem hh)) hg
      obtain rfl : z = z2 := by
        rw [ez] at ez2
        exact V.str.inj (Option.some.inj ez2)
      have h8 := (hz _ (List.getElem_mem hh)).2.2
      refine ⟨nl, _, _, .str ns[h], rfl, rfl, .of en4, atI_nat (by rw [List.getElem?_map, List.getElem?_eq_getElem hh] <;> rfl), _, _, rfl, rfl, small_size (by omega), ?_⟩
      rw [etx]
      refine ⟨l, _, _, rfl, rfl, el4, ?_, fs ++ [fl], _, rfl, ?_, ?_, ?_, (upd_ne nnl).trans en4, ?_, but_upd (kk3.trans k4) hl⟩
      · rw [List.length_map]
        exact small1000 (by omega)
      · rw [upd_same]
        show _ = some (HO.lst (List.map (fun f : Fld => V.str f.tx) (fs ++ [fl])))
        rw [List.map_append]
        rfl
      · rw [List.length_append, len2]
        rfl
      · intro f2 hf2
        rcases List.mem_append.mp hf2 with hf2 | hf2
        · exact ok2 f2 hf2
        · rw [List.mem_singleton.mp hf2]
          exact okf
      · exact (box_upd B4 nlb).mono (by omega)
    · rintro σ H2 ⟨fs, x4, rfl, el2, len2, ok2, en2, B2, k2⟩
      refine ⟨_, rfl, l, _, rfl, .inl ⟨.of el2, fun p hp => ?_⟩⟩
      have npb := box_ne B2 hp
      have fp := free_of k2 npb hp
      exact q p _ fs fp upd_same (by omega) (by omega) ok2 ((box_new B2 hp).mono (by omega)) (but_upd k2 fp)
theorem ok_answer {f : Addr} {fd : FuncData} (F : Fun K "_law_answer" "_law_answer" sAnswer f fd) (mT : mg "tuple" = none) : FnOk P w K mg base CX0 1 f fd ["_law_fields_here", "_law_worth"] spAnswer := by
  refine F.ok scAnswer (fun vs H Q E h => ?_) (fun cdv A outer s H vs Q E hr h => ?_)
  · obtain ⟨t, d, fs, zs, kvs, rfl, _⟩ := h
    rfl
  · obtain ⟨t, d, fs, zs, kvs, rfl, ht, l3, hz, hd, hv, q⟩ := h
    have hu := hu_of hr
    refine ⟨_, pss_cons (ps_set (i := 2) scAnswer.nd rfl (.inl rfl) (pe_lst pa_nil))
      (pss_cons (ps_for PassesOwn.never rfl (pi_tup (pv 0)) (pg_name (i := 3) scAnswer.nd rfl (.inl rfl))
        (pss_cons (ps_set (i := 4) scAnswer.nd rfl (.inl rfl) (pe_dget2 hu (pv 1) (pe_m1 PySem.F.slot_str_lstrip PySem.F.type_str_lstrip mt_lstripChars (pv 3) pe_str) (pe_un un_neg pe_int) ⟨rfl, rfl, rfl, rfl⟩))
        (pss_one (ps_expr (pe_bm PySem.F.plainAttrs_list PySem.F.slot_list_append PySem.F.type_list_append mt_append (pv 2) (pa_cons
          (pe_ifExp (pt_cmpR op_eq (pe_ix ix_str (pv 3) pe_int (fun _ _ => rfl)) pe_str (nomark _)) (pe_op op_sub pe_int (pv 4)) (pv 4)) pa_nil))))))
      (pss_one (ps_ret (pe_callTy call_tuple_of (by rfl) mT (by decide +kernel) (pa_cons (pv 2) pa_nil))))), ?_⟩
    refine ⟨(by show 0 ≤ sizeLine; exact Nat.zero_le _), fun l hl => ?_⟩
    have ntl : t ≠ l := ne_of_none ht hl
    refine ⟨_, rfl, t, rfl, ⟨_, .of ((upd_ne ntl).trans ht)⟩, ?_⟩
    refine for_tup (xs := txs fs) (fun i σ H2 => ∃ x3 x4 : Option V, σ = [some (.ref t), some (.ref d), some (.ref l), x3, x4] ∧ H2 l = some (.lst (((fs.take i).map fun f => f.ans kvs).map V.int)) ∧ Same H H2) ?_ ?_ ?_ ?_
    · exact ⟨none, none, rfl, upd_same, Same.new hl⟩
    · rintro i σ H2 _ ⟨x3, x4, rfl, _, s2⟩
      exact .of (s2 _ _ ht)
    · rintro i x σ H2 hx ⟨x3, x4, rfl, el, s2⟩
      rw [List.getElem?_map] at hx
      obtain ⟨y, hy, rfl⟩ := Option.map_eq_some_iff.mp hx
      have okf := hz y (List.mem_of_getElem? hy)
      have h9 := okf.len
      have ed := s2 _ _ hd
      refine ⟨_, rfl, d, rfl, .inl ⟨_, .inl ed⟩, _, rfl, ⟨_, rfl⟩, y.tx, _, rfl, rfl, small_size (by omega), ?_⟩
      rw [okf.strip]
      obtain ⟨n1, n2, n3⟩ := valN_get hv y.nm
      refine ⟨_, rfl, _, DGet.k (k := Sum.inr y.nm) ed, ?_⟩
      rw [show (-(1000 : Int)) = -1000 from rfl] at *
      rw [n1]
      obtain ⟨c, e1, e2⟩ := okf.first
      refine ⟨_, rfl, .inl ⟨rfl, _, .of el⟩, _, rfl, y.tx, _, c, rfl, rfl, small_size (by omega), e1, rfl, _, rfl, ?_⟩
      rw [e2]
      have fin : (∃ x3 x4 : Option V, [some (V.ref t), some (.ref d), some (.ref l), some (.str y.tx), some (.int (numK kvs y.nm))] = [some (.ref t), some (.ref d), some (.ref l), x3, x4] ∧
          (upd H2 l (.lst ((((fs.take i).map fun f => f.ans kvs).map V.int) ++ [.int (y.ans kvs)]))) l = some (.lst (((fs.take (i + 1)).map fun f => f.ans kvs).map V.int)) ∧ Same H (upd H2 l (.lst ((((fs.take i).map fun f => f.ans kvs).map V.int) ++ [.int (y.ans kvs)])))) := by
        refine ⟨_, _, rfl, ?_, fun c o e => (upd_ne (ne_of_none e hl)).trans (s2 _ _ e)⟩
        rw [upd_same, List.take_add_one, hy]
        simp
      have sz : (((fs.take i).map fun f => f.ans kvs).map V.int).length < sizeLine := by
        rw [List.length_map, List.length_map, List.length_take]
        exact small1000 (by omega)
      cases e : y.neg with
      | true =>
        have ea : y.ans kvs = 0 - numK kvs y.nm := by
          unfold Fld.ans
          rw [e, if_pos rfl]
          omega
        rw [ea] at fin
        exact iteT ⟨_, rfl, _, _, rfl, rfl, l, _, _, rfl, rfl, el, sz, fin⟩
      | false =>
        have ea : y.ans kvs = numK kvs y.nm := by
          unfold Fld.ans
          rw [e, if_neg Bool.false_ne_true]
        rw [ea] at fin
        exact iteF ⟨_, rfl, l, _, _, rfl, rfl, el, sz, fin⟩
    · rintro σ H2 ⟨x3, x4, rfl, el, s2⟩
      rw [List.length_map, List.take_length] at el
      refine ⟨_, rfl, l, _, rfl, .inl ⟨.of el, fun p hp => ?_⟩⟩
      refine q p _ (s2.trans (Same.new hp)) (s2.free hp) ?_
      rw [upd_same, List.map_map]
      rfl
/-- an order is made -/
theorem by_made {C : Addr} {H1 : Hp} {Q : VK} {E : XK} {fs : List Fld} (l1 : 1 ≤ fs.length) (l3 : fs.length ≤ 3) (hz : ∀ f ∈ fs, f.Ok) (q : ∀ (a t : Addr) (H' : Hp), H1 a = none → H1 t = none → ByAt C H' a t fs → Same H1 H' → Q (.ref a) H') :
    ∀ x dx, H1 x = Option.none → H1 dx = Option.none → dx ≠ x → spByR C (V.ref x :: txs fs) (upd (upd H1 dx (.own x)) x (.ins C dx [])) (fun v H2 => v = .non ∧ Q (.ref x) H2) E := by
  intro x dx hx hdx hne
  refine ⟨[V.ref x], txs fs, rfl, rfl, by rw [List.length_map]; exact small_size (by omega), fun p hp => ?_⟩
  have npx : p ≠ x := fun z => by
    rw [z, upd_same] at hp
    cases hp
  rw [upd_ne npx] at hp
  have npd : p ≠ dx := fun z => by
    rw [z, upd_same] at hp
    cases hp
  rw [upd_ne npd] at hp
  refine ⟨x, dx, p, fs, rfl, (upd_ne npx.symm).trans upd_same, upd_same, l1, l3, hz, fun H' s' => ⟨rfl, ?_⟩⟩
  refine q x p _ hx hp ⟨dx, upd_same, (upd_ne npx).trans (s' p _ upd_same)⟩ fun c o e => ?_
  have n1 := ne_of_none e hx
  rw [upd_ne n1]
  refine s' c o ?_
  rw [upd_ne (ne_of_none e hp), upd_ne n1, upd_ne (ne_of_none e hdx)]
  exact e
theorem ok_order {f C fI : Addr} {fd : FuncData} (F : Fun K "_law_order" "_law_order" sOrder f fd) (M : Mk K C fI) (G : FnR P w K mg base CX0 3 fI (spByR C)) (gC : mg "By" = some (.ref C)) (ml : mg "len" = none) :
    FnOk P w K mg base CX0 5 f fd ["_law_fields_here"] (spOrder C) := by
  refine F.ok scOrder (fun vs H Q E h => ?_) (fun cdv A outer s H vs Q E hr h => ?_)
  · obtain ⟨t, fs, rfl, _⟩ := h
    rfl
  · obtain ⟨t, fs, rfl, ht, l1, l3, hz, q⟩ := h
    refine ⟨_, pss_cons (ps_if (pt_cmpR op_eq (pe_callB call_len_seq (by rfl) ml PySem.boot_len (pa_cons (pv 0) pa_nil)) pe_int (nomark _)) (pss_one ps_never) pss_nil)
      (pss_cons (ps_if (pt_cmpR op_eq (pe_callB call_len_seq (by rfl) ml PySem.boot_len (pa_cons (pv 0) pa_nil)) pe_int (nomark _)) (pss_one (ps_ret (pe_makeR M G hr rfl gC pass0 (pa_cons (pe_ix ix_tup (pv 0) pe_int (fun _ _ => rfl)) pa_nil)))) pss_nil)
      (pss_cons (ps_if (pt_cmpR op_eq (pe_callB call_len_seq (by rfl) ml PySem.boot_len (pa_cons (pv 0) pa_nil)) pe_int (nomark _)) (pss_one (ps_ret (pe_makeR M G hr rfl gC pass0 (pa_cons (pe_ix ix_tup (pv 0) pe_int (fun _ _ => rfl)) (pa_cons (pe_ix ix_tup (pv 0) pe_int (fun _ _ => rfl)) pa_nil))))) pss_nil)
      (pss_cons (ps_if (pt_cmpR op_eq (pe_callB call_len_seq (by rfl) ml PySem.boot_len (pa_cons (pv 0) pa_nil)) pe_int (nomark _)) (pss_one (ps_ret (pe_makeR M G hr rfl gC pass0 (pa_cons (pe_ix ix_tup (pv 0) pe_int (fun _ _ => rfl)) (pa_cons (pe_ix ix_tup (pv 0) pe_int (fun _ _ => rfl)) (pa_cons (pe_ix ix_tup (pv 0) pe_int (fun _ _ => rfl)) pa_nil)))))) pss_nil)
      (pss_cons ps_never (pss_one ps_never))))), ?_⟩
    have mk := by_made (C := C) (H1 := H) (Q := Q) (E := E0) l1 l3 hz q
    have at_ : ∀ {i : Nat} {v : V}, (txs fs)[i]? = some v → atI (txs fs) (i : Int) = some v := fun e => atI_nat e
    match fs, l1, l3, ht, mk with
    | [f1], _, _, ht, mk =>
      refine ⟨_, rfl, t, _, rfl, .inr (.of ht), rfl, _, rfl, iteF ?_⟩
      refine ⟨_, rfl, t, _, rfl, .inr (.of ht), rfl, _, rfl, iteT ?_⟩
      exact ⟨_, rfl, t, _, ((0 : Nat) : Int), _, rfl, rfl, .of ht, atI_nat (j := 0) rfl, mk⟩
    | [f1, f2], _, _, ht, mk =>
      refine ⟨_, rfl, t, _, rfl, .inr (.of ht), rfl, _, rfl, iteF ?_⟩
      refine ⟨_, rfl, t, _, rfl, .inr (.of ht), rfl, _, rfl, iteF ?_⟩
      refine ⟨_, rfl, t, _, rfl, .inr (.of ht), rfl, _, rfl, iteT ?_⟩
      exact ⟨_, rfl, t, _, ((0 : Nat) : Int), _, rfl, rfl, .of ht, atI_nat (j := 0) rfl, _, rfl, t, _, ((1 : Nat) : Int), _, rfl, rfl, .of ht, atI_nat (j := 1) rfl, mk⟩
    | [f1, f2, f3], _, _, ht, mk =>
      refine ⟨_, rfl, t, _, rfl, .inr (.of ht), rfl, _, rfl, iteF ?_⟩
      refine ⟨_, rfl, t, _, rfl, .inr (.of ht), rfl, _, rfl, iteF ?_⟩
      refine ⟨_, rfl, t, _, rfl, .inr (.of ht), rfl, _, rfl, iteF ?_⟩
      refine ⟨_, rfl, t, _, rfl, .inr (.of ht), rfl, _, rfl, iteT ?_⟩
      exact ⟨_, rfl, t, _, ((0 : Nat) : Int), _, rfl, rfl, .of ht, atI_nat (j := 0) rfl, _, rfl, t, _, ((1 : Nat) : Int), _, rfl, rfl, .of ht, atI_nat (j := 1) rfl, _, rfl, t, _, ((2 : Nat) : Int), _, rfl, rfl, .of ht, atI_nat (j := 2) rfl, mk⟩
end
end G
set_option Elab.async false
set_option linter.all false
set_option maxRecDepth 100000
set_option maxHeartbeats 2000000
/-! SK1: sorted(xs, key=f) of a list or a tuple over the heap; the call of a lambda whose body is d[a]. -/
namespace SkL
open PySem PySem.Spec PyProof.Rows L2 LamX PySem.W
section
variable {prog : Program} {w : World} {A : Around} {E : Value → Shared → Prop} {s : Shared} {β : Type} {vs : List Value} {bs : List β} {R : Value → β → Prop}
/-- the items of a list or a tuple, taken into a new list: so much the heap grows -/
theorem collect_sized {Q : List Value → Shared → Prop} {it : Addr} {T : String} {o : Obj} {items : Array Value} {n : Nat} (hT : T = "list" ∨ T = "tuple") (ho : s.heap.get? it = some o) (hc : o.cls = .type T) (hd : o.data = .seq items n) (hsz : items.size ≤ sizeLine)
    (hQ : ∀ h', h'.objs.size = s.heap.objs.size + 1 → (∀ b u, s.heap.get? b = some u → h'.get? b = some u) → Q items.toList { s with heap := h' }) : wpAny (model prog w) A (collect (.ref it)) Q E s := by
  let g : Heap := s.heap.push { cls := .type "list", data := .seq ([] : List Value).toArray }
  let g2 : Heap := g.update s.heap.objs.size (Obj.mapSeq (· ++ items))
  have new : g.get? s.heap.objs.size = some { cls := .type "list", data := .seq #[] 0 } := Heap.get?_push_size _ rfl
  have put := Heap.get?_update_self (Obj.mapSeq (· ++ items)) new rfl
  have size2 : g2.objs.size = s.heap.objs.size + 1 := by
    show (g.update _ _).objs.size = _
    rw [Heap.size_update, Heap.size_push]
  have keep2 : ∀ b u, s.heap.get? b = some u → g2.get? b = some u := fun b u e => (Heap.get?_update_other _ _ (Nat.ne_of_gt (Heap.lt_size e))).trans (Heap.get?_push_of_some _ e)
  have last : wpAny (model prog w) A (load s.heap.objs.size >>= fun o => match o.data with
      | .seq xs _ => pure xs.toList
      | _ => unsupported "internal:collect") Q E { s with heap := g2 } := by
    refine wpAny_bind (wpAny_load put (wpAny_pure ?_))
    rw [show ((#[] : Array Value) ++ items).toList = items.toList from by simp]
    exact hQ g2 size2 keep2
  unfold collect
  refine wpAny_bind (wpAny_runValue (codeAny_builtin PySem.F.entry_proto_collect ?_))
  rw [Around.under_plainId PySem.F.plain_proto_collect _]
  show wpAny _ A.in1 (newList [] >>= fun l => again (.builtin "list.__iadd__" ⟨[l, .ref it], []⟩)) _ _ s
  refine wpAny_bind (wpAny_newObj_type (wpAny_pure ⟨plainId_quiet PySem.F.plain_list_iadd _, codeAny_builtin PySem.F.entry_list_iadd ?_⟩))
  rw [Around.under_plainId PySem.F.plain_list_iadd _]
  show wpAny _ A.in1 (Builtin.List.listExtendWith (.ref s.heap.objs.size) (.ref it) (.ref s.heap.objs.size)) _ _ { s with heap := g }
  refine wpAny_mono (wpAny_extend_seq (hsz := hsz) (A := A) (R := fun r s' => r = .ok (.ret (.ref s.heap.objs.size)) ∧ s' = { s with heap := g2 }) (s := { s with heap := g }) _ it _ 0 hT new (Heap.get?_push_of_some _ ho) hc hd ⟨rfl, rfl⟩) (fun fin s' h => ?_) fun e s' h => absurd h.1 (by simp)
  cases fin with
  | done f =>
    obtain ⟨e, rfl⟩ := h
    cases e
    exact last
  | again c' =>
    refine ⟨h.1, codeAny_mono h.2 fun r s'' hr => ?_⟩
    obtain ⟨rfl, rfl⟩ := hr
    exact last
/-- sorted(xs, key=f), xs a list or a tuple -/
theorem sorted_key_seq {l : Addr} {o : Obj} {n : Nat} {T : String} {f : Value} {kw : List (Str × Value)} {Q : Value → Shared → Prop} (k : β → PyData) (hT : T = "list" ∨ T = "tuple") (ho : s.heap.get? l = some o) (hc : o.cls = .type T) (hd : o.data = .seq vs.toArray n)
    (e : EachIs R vs bs) (hal : AllAlike (bs.map k)) (hk : Sortable (bs.map k)) (hL : bs.length ≤ sizeLine)
    (hu : ∀ x, x ∈ bs → A.units + 2 + (k x).depth < cLine) (ha1 : argsOk "sorted" ⟨[.ref l], kw⟩) (ha2 : ∀ x, argsOk "list.sort" ⟨[.ref x], kw⟩) (ht : ∀ x, Builtin.«list.sort» ⟨[.ref x], kw⟩ = ksk_tree x f false)
    (turn : ∀ (v : Value) (x : β), R v x → x ∈ bs → ∀ (h : Heap) (tk : Nat), (∀ b o, s.heap.get? b = some o → h.get? b = some o) →
      wpAny (model prog w) A.in1.in1 (call f [v]) (KeyPure (k x) { s with heap := h, toks := tk }) (fun _ _ => False) { s with heap := h, toks := tk })
    (h : ∀ p out c h' tk, s.heap.objs.size ≤ p → (∀ b o, s.heap.get? b = some o → h'.get? b = some o) → h'.get? p = some (seqObj "list" (List.toArray out) c) → out.length = bs.length → EachIs R out (bs.mergeSort (dataLe false k)) →
      Q (.ref p) { s with heap := h', toks := tk }) :
    wpAny (model prog w) A (call (.builtin "sorted") [.ref l] kw) Q E s := by
  have hlen : vs.length ≤ sizeLine := by rw [e.length]; exact hL
  refine call_function_entry_kw kind_sorted plain_sorted entry_sorted ha1 ?_
  unfold Builtin.«sorted»
  refine wpAny_bind (m := checkCount "sorted" 1 1 _) (wpAny_pure ?_)
  refine wpAny_bind (collect_sized hT ho hc hd (by rw [List.size_toArray]; exact hlen) fun h1 z1 k1 => ?_)
  refine wpAny_bind (wpAny_newList ?_ hlen)
  have k2 : ∀ b u, s.heap.get? b = some u → (h1.push (seqObj "list" vs.toArray 0)).get? b = some u := fun b u q => Heap.get?_push_of_some _ (k1 b u q)
  have at1 : (h1.push (seqObj "list" vs.toArray 0)).get? h1.objs.size = some (seqObj "list" vs.toArray 0) := Heap.get?_push_size _ rfl
  have le1 : s.heap.objs.size ≤ h1.objs.size := by omega
  refine wpAny_bind (wpAny_holding (wpAny_call_entry_kw slot_list_sort ⟨_, at1, rfl⟩ entry_list_sort ?body (ha2 _)))
  case body =>
    show wpAny (model prog w) A.in1.in1 (Builtin.«list.sort» ⟨[.ref h1.objs.size], kw⟩) _ _ { s with heap := h1.push (seqObj "list" vs.toArray 0) }
    rw [ht]
    have up : ∀ {g : Heap}, KeepsBut h1.objs.size (h1.push (seqObj "list" vs.toArray 0)) g → ∀ b u, s.heap.get? b = some u → g.get? b = some u := fun {g} kp b u q =>
      kp b u (Nat.ne_of_lt (Nat.lt_of_lt_of_le (Heap.lt_size q) le1)) (k2 b u q)
    refine keyH_tree (b := false) (kz := bs.map k) (s := { s with heap := h1.push (seqObj "list" vs.toArray 0) }) at1 (by rw [List.length_map]; exact e.length.symm) hlen hal hk (bound_map (A := A.in1.in1) hu)
      (keyH_turns (s := { s with heap := h1.push (seqObj "list" vs.toArray 0) }) e fun v x hR hx g tk kp => turn v x hR hx g tk (up kp)) fun h' tk out c kp hD ko => ?_
    exact ⟨_, rfl, wpAny_pure ⟨_, rfl, h _ out c h' tk le1 (up kp) hD ((ko.length (by rw [List.length_map]; exact e.length.symm)).trans e.length) (keyedOut_each k ko e)⟩⟩
end
section
variable {P : Program} {w : World} {A : Around} {s : Shared} {f c' cc : Addr} {pm ctv v dv : Value} {params : Arguments} {scope : Scope} {cl : List (Str × Addr)} {q d a : Str} {p1 p2 p3 : Pos} {Q : Value → Shared → Prop}
/-- a lambda's call, its body d[a], d captured -/
theorem sub_call (hd : A.depth < recursionLimit) (lim : s.heap.NoLimit) (hf : s.heap.get? f = some (kla_obj "<lambda>" q params (.Subscript (.Name d p1) (.Name a p2) p3) scope cl pm c' ctv)) (hrec : s.heap.CodeRec (.ref c') q)
    (hk : scope.kind = .function) (co : scope.isCoroutine = false) (gen : scope.isGenerator = false) (nocell : ∀ y ∈ scope.names, y.2 ≠ .cell) (la : scope.names.lookup a = some .local) (ld : scope.names.lookup d = some .free)
    (hb : bindArgs (kla_fn "<lambda>" q params (.Subscript (.Name d p1) (.Name a p2) p3) scope cl pm (.ref c') ctv) ⟨[v], []⟩ = pure [(a, v)])
    (hc : cl.lookup d = some cc) (hcell : s.heap.IsCell cc (some dv)) (h1 : (a == ("__debug__" : Str)) = false) (h2 : (d == ("__debug__" : Str)) = false) (h3 : (d == ("__classdict__" : Str)) = false)
    (h : ∀ h₁ tk, (∀ b o, s.heap.get? b = some o → h₁.get? b = some o) → wpAny (model P w) (A.deeper (envX q scope s.heap.objs.size f (.ref c') cl)) (subscriptTail (.Name d p1) (.Name a p2) dv v) Q (fun _ _ => False) { s with heap := h₁, toks := tk }) :
    wpAny (model P w) A (call (.ref f) [v]) Q (fun _ _ => False) s := by
  refine wpAny_call ?_
  refine kla_callFunE hd hf rfl co gen rfl hrec ?_
  rw [hb]
  refine wpAny_pure (wpAny_newFunctionEnv nocell (fun y hy => ?_) (fun h₁ hns hsb => ⟨lim.fresh _ hsb, ?_⟩) hk)
  · rw [List.mem_singleton.mp hy]
    exact la
  show codeAny _ _ (.expr _ (envX q scope s.heap.objs.size f (.ref c') cl)) _ _
  have kp : ∀ b o, s.heap.get? b = some o → h₁.get? b = some o := fun b o e => hsb.extBut b o (Nat.ne_of_lt (Heap.lt_size e)) (Heap.get?_push_of_some _ e)
  obtain ⟨oc, ho, hdc⟩ := hcell
  refine kla_codeExpr (wpAny_mono (show wpAny _ _ _ Q (fun _ _ => False) _ from ?_) (fun v s' hq => hq) fun e s' (hq : False) => False.elim hq)
  refine Subscript_ (wpAny_Name (wpAny_loadName_free hk ld hc ⟨oc, kp _ _ ho, hdc⟩ (wpAny_Name (wpAny_loadName_local hk la hns (show List.lookup a [(a, v)].reverse = some v from by simp) ?_) h1) h3) h2)
  exact h _ _ kp
end
end SkL
set_option Elab.async false
set_option linter.all false
set_option maxRecDepth 100000
set_option maxHeartbeats 4000000
/-! SK2: sorted(xs, key=lambda a: d[a]), xs a list or a tuple of texts, d a captured dict of tuples of ints. -/
namespace SkL
open PySem PySem.Spec PyProof.Rows L2 LamX PySem.W
/-- a tuple of ints is read -/
theorem reads_ints {h : Heap} : ∀ {ns : List Int} {us : List Value}, Vals (ns.map V.int) us → ReadsAll h us (ns.map .int) []
  | [], _, .nil => .nil
  | n :: ns, _, .cons r rr => by
    obtain ⟨t, rfl⟩ := r
    exact ReadsAll.cons (.int n t) (reads_ints rr)
theorem reads_tup {P : Program} {w : World} {H : Hp} {h : Heap} {t : Addr} {ns : List Int} (ok : HOk P w H h) (e : H t = some (.tup (ns.map V.int))) : Reads h (.ref t) (.tuple (ns.map .int)) [] := by
  obtain ⟨_, us, rv, o, h1, h2, n, h3⟩ := (show ObjOk P w H h t (.tup (ns.map V.int)) from ok t _ e)
  exact .tuple h1 h2 h3 (by simpa using reads_ints rv)
section
variable {P : Program} {w : World} {A : Around} {s : Shared} {f c' cc dd t : Addr} {pm ctv v : Value} {params : Arguments} {scope : Scope} {cl : List (Str × Addr)} {q d a z : Str} {tz : Tok} {p1 p2 p3 : Pos} {H : Hp} {kvs : List (Key × V)} {ns : List Int}
/-- .. of a dict of tuples of ints: the key -/
theorem key_call (hd : A.depth < recursionLimit) (lim : s.heap.NoLimit) (hf : s.heap.get? f = some (kla_obj "<lambda>" q params (.Subscript (.Name d p1) (.Name a p2) p3) scope cl pm c' ctv)) (hrec : s.heap.CodeRec (.ref c') q)
    (hk : scope.kind = .function) (co : scope.isCoroutine = false) (gen : scope.isGenerator = false) (nocell : ∀ y ∈ scope.names, y.2 ≠ .cell) (la : scope.names.lookup a = some .local) (ld : scope.names.lookup d = some .free)
    (hb : bindArgs (kla_fn "<lambda>" q params (.Subscript (.Name d p1) (.Name a p2) p3) scope cl pm (.ref c') ctv) ⟨[.str z tz], []⟩ = pure [(a, .str z tz)])
    (hc : cl.lookup d = some cc) (hcell : s.heap.IsCell cc (some (.ref dd))) (h1 : (a == ("__debug__" : Str)) = false) (h2 : (d == ("__debug__" : Str)) = false) (h3 : (d == ("__classdict__" : Str)) = false) (hs : NoSl (.Name a p2))
    (ok : HOk P w H s.heap) (ed : Rd H dd (.dK kvs)) (ez : valV kvs (Sum.inr z : Key) = some (.ref t)) (et : H t = some (.tup (ns.map V.int))) :
    wpAny (model P w) A (call (.ref f) [.str z tz]) (KeyPure (.tuple (ns.map .int)) s) (fun _ _ => False) s := by
  refine wpAny_call ?_
  refine kla_callFunE hd hf rfl co gen rfl hrec ?_
  rw [hb]
  refine wpAny_pure (wpAny_newFunctionEnv nocell (fun y hy => ?_) (fun h₁ hns hsb => ⟨lim.fresh _ hsb, ?_⟩) hk)
  · rw [List.mem_singleton.mp hy]
    exact la
  show codeAny _ _ (.expr _ (envX q scope s.heap.objs.size f (.ref c') cl)) _ _
  have kp : ∀ b o, s.heap.get? b = some o → h₁.get? b = some o := fun b o e => hsb.extBut b o (Nat.ne_of_lt (Heap.lt_size e)) (Heap.get?_push_of_some _ e)
  obtain ⟨oc, ho, hdc⟩ := hcell
  have ok1 : HOk P w H h₁ := ok.kept kp
  obtain ⟨_, _, vs, rel, dct⟩ := dk_rd ok1 ed
  obtain ⟨w', hw, rw'⟩ := RelO.some_of (v := .ref t) (o := valueAt vs (Sum.inr z : Key)) (by rw [← ez]; exact rel.val _)
  obtain rfl : w' = Value.ref t := rw'
  refine kla_codeExpr (wpAny_mono (show wpAny _ _ _ (KeyPure (.tuple (ns.map .int)) s) (fun _ _ => False) _ from ?_) (fun v s' hq => hq) fun e s' (hq : False) => False.elim hq)
  refine subD_of PySem.F.slot_dict_getitem.lookup hs (wpAny_Name (wpAny_loadName_free hk ld hc ⟨oc, kp _ _ ho, hdc⟩ (wpAny_Name (wpAny_loadName_local hk la hns (show List.lookup a [(a, Value.str z tz)].reverse = some (.str z tz) from by simp) ⟨dct.typeIs, ?_⟩) h1) h3) h2)
  exact wpAny_getItem_of (kV_is (k := Sum.inr z) ⟨tz, rfl⟩) dct.mapOf hw ⟨h₁, _, rfl, kp, reads_tup ok1 et⟩
end
/-- a lambda of one parameter: it, captured names and globals -/
structure LamS1 (sc scope : Scope) (a d : Str) : Prop where
  kind : scope.kind = .function
  co : scope.isCoroutine = false
  gen : scope.isGenerator = false
  nocell : ∀ y ∈ scope.names, y.2 ≠ .cell
  la : scope.names.lookup a = some .local
  ld : scope.names.lookup d = some .free
  free : ∀ y ∈ scope.names, y.2 = .free → sc.names.lookup y.1 = some .cell ∨ sc.names.lookup y.1 = some .free
  own : sc.names.lookup d = some .cell ∨ sc.names.lookup d = some .free
/-- what the keys are -/
def intK (key : Str → List Int) (z : Str) : PyData := .tuple ((key z).map .int)
def sortedBy (key : Str → List Int) (zs : List Str) : List Str := zs.mergeSort (dataLe false (intK key))
theorem vals_strs : ∀ {zs : List Str} {us : List Value}, Vals (zs.map V.str) us → EachIs (fun v z => ∃ t, v = Value.str z t) us zs
  | [], _, .nil => .nil
  | _ :: _, _, .cons r rr => .cons r (vals_strs rr)
theorem strs_vals : ∀ {zs : List Str} {us : List Value}, EachIs (fun v z => ∃ t, v = Value.str z t) us zs → Vals (zs.map V.str) us
  | _, _, .nil => .nil
  | _, _, .cons r rr => .cons r (strs_vals rr)
/-- sorted(xs, key=lambda a: d[a]): d stands in the slot i -/
def tSortL (K : PySem.W.Frag) (T : List (Addr × Str)) (i : Nat) (t : TA) : TE := fun σ H Q => t σ H fun vs H1 => Tabs T H1 ∧ ∃ (l dd : Addr) (zs : List Str) (kvs : List (Key × V)) (key : Str → List Int), vs = [.ref l] ∧ (SqL K H1 l (zs.map V.str) ∨ SqT K H1 l (zs.map V.str)) ∧ σ[i]? = some (some (.ref dd)) ∧ H1 dd = some (.dK kvs) ∧
  zs.length ≤ 900 ∧ (∀ z ∈ zs, key z ≠ [] ∧ ∃ t, valV kvs (Sum.inr z : Key) = some (.ref t) ∧ H1 t = some (.tup ((key z).map V.int))) ∧
  ∀ p H2, ExtN H1 H2 → Tabs T H2 → H2 p = none → Q (.ref p) (upd H2 p (.lst ((sortedBy key zs).map V.str)))
section
variable {X : Cx} {T : List (Addr × Str)} {c P : Addr} {e : Expr} {t : TA} {params : Arguments} {scope : Scope} {a d : Str} {i : Nat} {p pos p1 p2 p3 lp kp : Pos}
theorem pe_sortLam (TB : TabB X.base X.mg c P) (hcode : X.env.code = .ref c) (hm : (P, X.env.qual ++ "<lambda>") ∈ T) (hu : ∀ p ∈ T, p.1 = P → p.2 = X.env.qual ++ "<lambda>") (L : LamS1 X.env.scope scope a d)
    (ha : PA X [e] t) (hg : Gl X "sorted") (hmg : X.mg "sorted" = none) (hr : X.A.units + 4 < cLine) (hdp : X.A.depth + 4 < recursionLimit) (hN : X.N[i]? = some d)
    (hdef : defaultsOf params X.env = ([], [])) (hbd : ∀ (q : Str) (body : Expr) (cl : List (Str × Addr)) (pm cdv ctv v : Value), bindArgs (kla_fn "<lambda>" q params body scope cl pm cdv ctv) ⟨[v], []⟩ = pure [(a, v)])
    (h1 : (a == ("__debug__" : Str)) = false) (h2 : (d == ("__debug__" : Str)) = false) (h3 : (d == ("__classdict__" : Str)) = false) (hs : NoSl (.Name a p2))
    (he1 : backTo pos (starEach [e] X.env) = (false, eval e X.env) :: backTo pos (starEach [] X.env) := by rfl) (hpl : (backTo pos (starEach [e] X.env)).any (·.1) = false := by rfl) :
    PE X (.Call (.Name "sorted" p) [e] [⟨some "key", .Lambda params (.Subscript (.Name d p1) (.Name a p2) p3) scope lp, kp⟩] pos) (tSortL X.K T i t) := by
  refine ⟨fun pins s σ H Q I h => ?_⟩
  refine wpAny_Call_Name_kw (ld_blt I hg hmg (u := .builtin "sorted") (by decide +kernel) ?_)
  refine PyProof.Rows.callWith_kw (thn (ha.run pos pins s σ H _ I h) fun us s1 ⟨vs, H1, I1, r1, q1⟩ => ?_) he1 hpl (by rfl) (by rfl)
  obtain ⟨hT, l, dd, zs, kvs, key, rfl, hseq, hdd, edd, l900, hkeys, q⟩ := q1
  obtain rfl := Vals.ref1 r1
  show wpAny _ _ (evalAll [do let v ← eval (.Lambda params (.Subscript (.Name d p1) (.Name a p2) p3) scope lp) X.env; standAt pos; pure v]) _ _ s1
  have hfree : ∀ y ∈ scope.names, y.2 = .free → ∃ c, X.env.cells.lookup y.1 = some c := fun y hy e => by
    rcases L.free y hy e with k | k
    · exact I1.ok.has _ (.inl k)
    · exact I1.ok.has _ (.inr k)
  refine wpAny_evalAll_cons (wpAny_bind (lam_make2 I1 TB hcode hm hu hT hdef hfree fun f c' pm ctv H2 s2 I2 hE hT2 hf hfn hfr hc' => wpAny_bind (wpAny_standAt (wpAny_pure (wpAny_evalAll_nil ?_)))))
  show wpAny _ _ (call (.builtin "sorted") [.ref l] [(Str.ofString "key", .ref f)]) _ _ s2
  have hf0 := I2.hok c' _ hc'
  obtain ⟨⟨oc, vs, t, hoc, hdc, hvc⟩, _, _⟩ := hf0
  -- the captured name
  obtain ⟨m, hn, hl⟩ := I2.loc
  have vis : Vis X.env.scope d := L.own.elim (fun k => .inr (.inl k)) fun k => .inr (.inr k)
  obtain ⟨w', rw', look⟩ := hl i d (.ref dd) hN hdd vis
  obtain rfl : w' = Value.ref dd := rw'
  obtain ⟨cc, hcc, hcell⟩ : ∃ cc, X.env.cells.lookup d = some cc ∧ s2.heap.IsCell cc (some (.ref dd)) := by
    rcases look with ⟨k', _⟩ | ⟨_, c3, e', z⟩
    · have k' : X.env.scope.names.lookup d = some .local := k'
      rcases L.own with k2 | k2 <;> rw [show X.env.scope.names.lookup d = _ from k2] at k' <;> cases k'
    · exact ⟨c3, e', z⟩
  obtain ⟨c2, hc2⟩ := mem_lookup (cloFrom_has (cells := X.env.cells) (acc := []) (PySem.mem_of_lookup L.ld))
  have ec2 : c2 = cc := by
    rcases cloFrom_mem (PySem.mem_of_lookup hc2) with hm | ⟨_, h2⟩
    · cases hm
    · rw [h2, hcc] <;> rfl
  rw [ec2] at hc2
  have ed2 : H2 dd = some (.dK kvs) := hE _ _ edd fun ps z => nomatch z
  -- what is sorted
  obtain ⟨its, T1, o, n, hT1, hlo, hlc, hld, rv⟩ : ∃ (its : List Value) (T1 : String) (o : Obj) (n : Nat), (T1 = "list" ∨ T1 = "tuple") ∧ s2.heap.get? l = some o ∧ o.cls = .type T1 ∧ o.data = .seq its.toArray n ∧ Vals (zs.map V.str) its := by
    rcases hseq with hs | hs
    · obtain ⟨its, rv, ⟨o, n, g1, g2, g3, g4⟩, _⟩ := I2.list (show SqL X.K H2 l (zs.map V.str) from match hs with
        | .inl (.inl h) => .inl (.inl (hE _ _ h fun ps z => nomatch z))
        | .inl (.inr ⟨o, h⟩) => .inl (.inr ⟨o, hE _ _ h fun ps z => nomatch z⟩)
        | .inr h => .inr h)
      exact ⟨its, _, o, n, .inl rfl, g1, g2, by assumption, rv⟩
    · obtain ⟨its, rv, ⟨o, g1, g2, n, g3⟩, _⟩ := I2.tuple (show SqT X.K H2 l (zs.map V.str) from match hs with
        | .inl (.inl h) => .inl (.inl (hE _ _ h fun ps z => nomatch z))
        | .inl (.inr ⟨o, h⟩) => .inl (.inr ⟨o, hE _ _ h fun ps z => nomatch z⟩)
        | .inr h => .inr h)
      exact ⟨its, _, o, n, .inr rfl, g1, g2, g3, rv⟩
  have dep : ∀ z, (intK key z).depth = 1 := fun z => by
    show (PyData.tuple ((key z).map .int)).depth = 1
    simp [PyData.depth, depth_ints]
  refine sorted_key_seq (k := intK key) hT1 hlo hlc hld (vals_strs rv) (AllAlike.of fun _ _ => by simp [intK, alike, alike_ints]) (.inl fun dt hdt => ?_) (by rw [sizeLine_eq]; omega) (fun z _ => by rw [dep]; omega) (ksk_s1 _ _) (fun _ => ksk_l1 _ _) (fun _ => ksk_t1 _ _)
    (fun v z hR hz h tk kp => ?_) fun p out c h' tk hsz kp hD hlen eo => ?_
  · obtain ⟨z, hz, rfl⟩ := List.mem_map.mp hdt
    obtain ⟨ne, _⟩ := hkeys z hz
    unfold intK
    cases e : key z with
    | nil => exact absurd e ne
    | cons n ns => exact ⟨_, _, rfl⟩
  · obtain ⟨tz, rfl⟩ := hR
    obtain ⟨_, t, e1, e2⟩ := hkeys z hz
    refine key_call (s := { s2 with heap := h, toks := tk }) (H := H2) (by show X.A.depth < _; omega) (I2.nolimit.keeps kp) (kp _ _ hf) ⟨c', oc, vs, _, rfl, kp _ _ hoc, hdc, hvc⟩ L.kind L.co L.gen L.nocell L.la L.ld (hbd _ _ _ _ _ _ _) hc2 ?_ h1 h2 h3 hs (I2.hok.kept kp) (.inl ed2) e1 (hE _ _ e2 fun ps z => nomatch z)
    obtain ⟨ob, g1, g2⟩ := hcell
    exact ⟨ob, kp _ _ g1, g2⟩
  · have rv2 := strs_vals eo
    refine ⟨.ref p, upd H2 p (.lst ((sortedBy key zs).map V.str)), I2.laid (t' := tk) kp hsz ⟨?_, out, c, rv2, hD⟩, rfl, q p H2 hE hT2 (I2.hok.fresh hsz)⟩
    rw [sizeLine_eq, List.length_map]
    unfold sortedBy
    rw [List.length_mergeSort]
    omega
end
end SkL
set_option Elab.async false
set_option linter.all false
set_option maxRecDepth 100000
set_option maxHeartbeats 2000000
/-! SM: putting each item ahead of the first one that must come behind it is the stable sort; <= of tuples of ints. -/
namespace SkL
open PySem PySem.Spec PyProof.Rows L2 LamX PySem.W
section
variable {α : Type} {le : α → α → Bool}
/-- acc is l in order, equal ones as they stood -/
def Stb (le : α → α → Bool) (l acc : List α) : Prop := ∃ L : List (α × Nat), L.map (·.1) = acc ∧ L.Perm l.zipIdx ∧ L.Pairwise fun a b => List.zipIdxLE le a b = true
theorem Stb.nil : Stb le [] [] := ⟨[], rfl, .refl _, .nil⟩
theorem zle_of {a b : α × Nat} (h : le a.1 b.1 = true) (i : a.2 ≤ b.2) : List.zipIdxLE le a b = true := by
  unfold List.zipIdxLE
  rw [if_pos h]
  split
  · exact decide_eq_true i
  · rfl
theorem zle_of2 {a b : α × Nat} (h : le a.1 b.1 = true) (n : le b.1 a.1 = false) : List.zipIdxLE le a b = true := by
  unfold List.zipIdxLE
  rw [if_pos h, if_neg (by rw [n]; exact Bool.false_ne_true)]
theorem zle_le {a b : α × Nat} (h : List.zipIdxLE le a b = true) : le a.1 b.1 = true := by
  unfold List.zipIdxLE at h
  by_cases z : le a.1 b.1 = true
  · exact z
  · rw [if_neg z] at h
    cases h
theorem Stb.len {l acc : List α} (h : Stb le l acc) : acc.length = l.length := by
  obtain ⟨L, e, pm, _⟩ := h
  rw [← e, List.length_map, pm.length_eq, List.length_zipIdx]
theorem Stb.put {l acc : List α} {z : α} {p : Nat} (T : TotalLe le) (h : Stb le l acc) (hp : p ≤ acc.length) (h1 : ∀ j x, j < p → acc[j]? = some x → le x z = true) (h2 : p = acc.length ∨ ∃ y, acc[p]? = some y ∧ le y z = false) :
    Stb le (l ++ [z]) (acc.take p ++ z :: acc.drop p) := by
  obtain ⟨L, e, pm, pw⟩ := h
  have lL : L.length = acc.length := by rw [← e, List.length_map]
  have idx : ∀ q ∈ L, q.2 < l.length := fun q hq => by
    have := List.mem_zipIdx (pm.mem_iff.mp hq)
    simpa using this.2.1
  refine ⟨L.take p ++ (z, l.length) :: L.drop p, ?_, ?_, ?_⟩
  · rw [List.map_append, List.map_cons, List.map_take, List.map_drop, e]
  · rw [List.zipIdx_append]
    have e9 : [z].zipIdx (0 + l.length) = [(z, l.length)] := by simp
    rw [e9]
    refine List.perm_middle.trans ?_
    rw [List.take_append_drop]
    exact (pm.cons _).trans (List.perm_append_singleton _ _).symm
  · have pws := pw
    rw [← List.take_append_drop p L, List.pairwise_append] at pws
    obtain ⟨q1, q2, q3⟩ := pws
    have before : ∀ x ∈ L.take p, List.zipIdxLE le x (z, l.length) = true := fun x hx => by
      obtain ⟨j, hj⟩ := List.mem_iff_getElem?.mp hx
      rw [List.getElem?_take] at hj
      split at hj
      · rename_i lt
        refine zle_of (h1 j x.1 lt ?_) (Nat.le_of_lt (idx x (List.mem_of_mem_take hx)))
        rw [← e, List.getElem?_map, hj]
        rfl
      · cases hj
    have behind : ∀ y ∈ L.drop p, List.zipIdxLE le (z, l.length) y = true := fun y hy => by
      rcases h2 with h2 | ⟨y0, hy0, n0⟩
      · rw [List.drop_of_length_le (by omega)] at hy
        cases hy
      · rw [← e, List.getElem?_map] at hy0
        obtain ⟨q0, hq0, rfl⟩ := Option.map_eq_some_iff.mp hy0
        have ed : L.drop p = q0 :: L.drop (p + 1) := by
          obtain ⟨lt, eq⟩ := List.getElem?_eq_some_iff.mp hq0
          rw [← eq]
          exact List.drop_eq_getElem_cons lt
        have zq : le z q0.1 = true := (T.total z q0.1).resolve_right (by rw [n0]; exact Bool.false_ne_true)
        have qy : le q0.1 y.1 = true := by
          rw [ed] at hy q2
          rcases List.mem_cons.mp hy with rfl | hy
          · exact (T.total _ _).elim id id
          · exact zle_le (List.rel_of_pairwise_cons q2 hy)
        refine zle_of2 (T.trans _ _ _ zq qy) ?_
        show le y.1 z = false
        cases c : le y.1 z with
        | false => rfl
        | true =>
          have := T.trans _ _ _ qy c
          rw [n0] at this
          cases this
    refine List.pairwise_append.mpr ⟨q1, List.pairwise_cons.mpr ⟨behind, q2⟩, fun a ha b hb => ?_⟩
    rcases List.mem_cons.mp hb with rfl | hb
    · exact before a ha
    · exact q3 a ha b hb
theorem Stb.eq {l acc : List α} (T : TotalLe le) (h : Stb le l acc) : acc = l.mergeSort le := by
  obtain ⟨L, e, pm, pw⟩ := h
  have tr := List.zipIdxLE_trans (le := le) T.trans
  have to := List.zipIdxLE_total (le := le) fun a b => by
    rcases T.total a b with h | h <;> simp [h]
  have eL : L = l.zipIdx.mergeSort (List.zipIdxLE le) := by
    refine List.Perm.eq_of_pairwise (le := fun a b => List.zipIdxLE le a b = true) (fun a b ha hb hab hba => ?_) pw (List.pairwise_mergeSort tr to _) (pm.trans (List.mergeSort_perm _ _).symm)
    have ia := List.mem_zipIdx (pm.mem_iff.mp ha)
    have ib := List.mem_zipIdx ((List.mergeSort_perm _ _).mem_iff.mp hb)
    have l1 := zle_le hab
    have l2 := zle_le hba
    unfold List.zipIdxLE at hab hba
    rw [if_pos l1, if_pos l2] at hab
    rw [if_pos l2, if_pos l1] at hba
    have e2 : a.2 = b.2 := Nat.le_antisymm (of_decide_eq_true hab) (of_decide_eq_true hba)
    refine Prod.ext ?_ e2
    rw [ia.2.2, ib.2.2]
    simp only [e2]
  rw [← e, eL]
  exact List.mergeSort_zipIdx
end
/-- the order of tuples of ints -/
def leI (ns ms : List Int) : Bool := !dataLt (.tuple (ms.map .int)) (.tuple (ns.map .int))
theorem leI_total (key : Str → List Int) : TotalLe fun a b => leI (key a) (key b) := sortLe_total (listOrd itemOrd) false fun z => keyToks (intK key z)
theorem sortedBy_of {key : Str → List Int} {zs acc : List Str} (h : Stb (fun a b => leI (key a) (key b)) zs acc) : acc = sortedBy key zs := h.eq (leI_total key)
def rLeI (K : PySem.W.Frag) : R2 := fun x y H Q => ∃ (a b : Addr) (ns ms : List Int), x = .ref a ∧ y = .ref b ∧ H a = some (.tup (ns.map V.int)) ∧ H b = some (.tup (ms.map V.int)) ∧ Q (.bl (leI ns ms)) H
theorem op_leI {X : Cx} (hu : X.A.units + 4 < cLine) : OpR X (compareOp .LtE) (rLeI X.K) := by
  intro pins s σ H x y v u Q I rx ry h
  obtain ⟨a, b, ns, ms, rfl, rfl, ha, hb, q⟩ := h
  cases rx
  cases ry
  have d1 : ∀ xs : List Int, (PyData.tuple (xs.map .int)).depth = 1 := fun xs => by simp [PyData.depth, depth_ints]
  have r := rcLe_alike (.tuple (ns.map .int)) (.tuple (ms.map .int)) X.A s _ _ _ _ (reads_tup I.hok ha) (reads_tup I.hok hb) (by simp [alike, alike_ints]) (fun z => nomatch z) (by rw [d1, d1]; show X.A.units + 1 < _; omega)
  exact r X.prog X.w _ _ ⟨.bl _, H, I, rfl, q⟩
end SkL
set_option Elab.async false
set_option linter.all false
set_option maxRecDepth 100000
set_option maxHeartbeats 2000000
/-! LX: the fields without repeated ones; what they tell apart, the whole order tells apart. -/
namespace G
open PySem PySem.Spec PyProof.Rows L2 NdefX StX PySem.W
/-- tuples of ints, one ahead of the other -/
def ltI (ns ms : List Int) : Bool := dataLt (.tuple (ns.map .int)) (.tuple (ms.map .int))
theorem ltI_nil : ltI [] [] = false := by decide +kernel
theorem ltI_cons (a b : Int) (ns ms : List Int) : ltI (a :: ns) (b :: ms) = if a = b then ltI ns ms else decide (a < b) := by
  have e : ∀ (a : Int) (ns : List Int), keyToks (.tuple ((a :: ns).map .int)) = .inl 1 :: .inl a :: keyToks (.tuple (ns.map .int)) := fun a ns => by
    simp [keyToks, keyToksAll]
  unfold ltI dataLt
  rw [e, e]
  have h1 := lex_self (O := itemOrd) (.inl 1) (.inl a :: keyToks (.tuple (ns.map .int))) (.inl b :: keyToks (.tuple (ms.map .int)))
  refine h1.trans ?_
  by_cases h : a = b
  · subst h
    rw [if_pos rfl]
    exact lex_self (O := itemOrd) _ _ _
  · rw [if_neg h]
    refine (lex_diff (O := itemOrd) (fun z => h (Sum.inl.inj z))).trans ?_
    rfl
/-- the fields of no name in seen, and none twice -/
def plF : List Str → List Fld → List Fld
  | _, [] => []
  | seen, f :: fs => if f.nm ∈ seen then plF seen fs else f :: plF (seen ++ [f.nm]) fs
abbrev ansL (fs : List Fld) (kvs : List (Key × V)) : List Int := fs.map fun f => f.ans kvs
theorem ans_eq {f : Fld} {x y : List (Key × V)} (h : numK x f.nm = numK y f.nm) : f.ans x = f.ans y := by
  unfold Fld.ans
  rw [h]
theorem num_eq {f : Fld} {x y : List (Key × V)} (h : f.ans x = f.ans y) : numK x f.nm = numK y f.nm := by
  unfold Fld.ans at h
  split at h
  · omega
  · exact h
theorem lt_plain (x y : List (Key × V)) : ∀ (fs : List Fld) (seen : List Str), (∀ z ∈ seen, numK x z = numK y z) → ltI (ansL fs x) (ansL fs y) = ltI (ansL (plF seen fs) x) (ansL (plF seen fs) y)
  | [], _, _ => rfl
  | f :: fs, seen, hs => by
    show ltI (f.ans x :: ansL fs x) (f.ans y :: ansL fs y) = _
    unfold plF
    rw [ltI_cons]
    by_cases h : f.nm ∈ seen
    · rw [if_pos h, if_pos (ans_eq (hs _ h))]
      exact lt_plain x y fs seen hs
    · rw [if_neg h]
      show _ = ltI (f.ans x :: ansL (plF (seen ++ [f.nm]) fs) x) (f.ans y :: ansL (plF (seen ++ [f.nm]) fs) y)
      rw [ltI_cons]
      by_cases e : f.ans x = f.ans y
      · rw [if_pos e, if_pos e]
        refine lt_plain x y fs _ fun z hz => ?_
        rcases List.mem_append.mp hz with hz | hz
        · exact hs z hz
        · rw [List.mem_singleton.mp hz]
          exact num_eq e
      · rw [if_neg e, if_neg e]
theorem pl_snoc (f : Fld) : ∀ (fs : List Fld) (seen : List Str), plF seen (fs ++ [f]) = plF seen fs ++ if f.nm ∈ seen ++ fs.map (·.nm) then [] else [f]
  | [], seen => by
    show plF seen [f] = [] ++ _
    rw [List.map_nil, List.append_nil]
    unfold plF
    split <;> rfl
  | g :: fs, seen => by
    show plF seen (g :: (fs ++ [f])) = plF seen (g :: fs) ++ _
    unfold plF
    by_cases h : g.nm ∈ seen
    · rw [if_pos h, if_pos h, pl_snoc f fs seen]
      congr 1
      have e : (f.nm ∈ seen ++ fs.map (·.nm)) = (f.nm ∈ seen ++ (g :: fs).map (·.nm)) := by
        rw [List.map_cons]
        simp only [List.mem_append, List.mem_cons, eq_iff_iff]
        constructor
        · rintro (k | k)
          · exact .inl k
          · exact .inr (.inr k)
        · rintro (k | k | k)
          · exact .inl k
          · exact .inl (k ▸ h)
          · exact .inr k
      simp only [e]
    · rw [if_neg h, if_neg h, pl_snoc f fs]
      rw [List.cons_append, List.map_cons, List.append_assoc]
      rfl
theorem pl_names (z : Str) : ∀ (fs : List Fld) (seen : List Str), z ∈ seen ++ (plF seen fs).map (·.nm) ↔ z ∈ seen ++ fs.map (·.nm)
  | [], _ => Iff.rfl
  | g :: fs, seen => by
    unfold plF
    by_cases h : g.nm ∈ seen
    · rw [if_pos h, pl_names z fs seen, List.map_cons]
      simp only [List.mem_append, List.mem_cons]
      constructor
      · rintro (k | k)
        · exact .inl k
        · exact .inr (.inr k)
      · rintro (k | k | k)
        · exact .inl k
        · exact .inl (k ▸ h)
        · exact .inr k
    · rw [if_neg h, List.map_cons, List.map_cons]
      have := pl_names z fs (seen ++ [g.nm])
      rw [List.append_assoc, List.append_assoc] at this
      exact this
/-- the plain order's fields -/
def plain (fs : List Fld) : List Fld := plF [] fs
theorem plain_lt (x y : List (Key × V)) (fs : List Fld) : ltI (ansL fs x) (ansL fs y) = ltI (ansL (plain fs) x) (ansL (plain fs) y) := lt_plain x y fs [] fun _ h => nomatch h
theorem plain_snoc (f : Fld) (fs : List Fld) : plain (fs ++ [f]) = plain fs ++ if f.nm ∈ fs.map (·.nm) then [] else [f] := pl_snoc f fs []
theorem plain_names {z : Str} {fs : List Fld} : z ∈ (plain fs).map (·.nm) ↔ z ∈ fs.map (·.nm) := pl_names z fs []
theorem pl_sub {f : Fld} : ∀ {fs : List Fld} {seen : List Str}, f ∈ plF seen fs → f ∈ fs
  | [], _, h => h
  | g :: fs, seen, h => by
    unfold plF at h
    split at h
    · exact List.mem_cons_of_mem _ (pl_sub h)
    · rcases List.mem_cons.mp h with rfl | h
      · exact List.mem_cons_self
      · exact List.mem_cons_of_mem _ (pl_sub h)
theorem pl_len : ∀ (fs : List Fld) (seen : List Str), (plF seen fs).length ≤ fs.length
  | [], _ => Nat.le_refl _
  | g :: fs, seen => by
    unfold plF
    split
    · exact Nat.le_succ_of_le (pl_len fs seen)
    · exact Nat.succ_le_succ (pl_len fs _)
theorem plain_pos {fs : List Fld} (h : 1 ≤ fs.length) : 1 ≤ (plain fs).length := by
  cases fs with
  | nil => cases h
  | cons f fs =>
    show 1 ≤ (plF [] (f :: fs)).length
    unfold plF
    rw [if_neg (fun z => nomatch z)]
    exact Nat.succ_le_succ (Nat.zero_le _)
/-- .. is plain itself -/
theorem pl_again : ∀ (fs : List Fld) (seen : List Str), (∀ f ∈ fs, f.nm ∉ seen) → (fs.map (·.nm)).Nodup → plF seen fs = fs
  | [], _, _, _ => rfl
  | g :: fs, seen, h, nd => by
    unfold plF
    rw [if_neg (h g List.mem_cons_self)]
    rw [List.map_cons, List.nodup_cons] at nd
    congr 1
    refine pl_again fs _ (fun f hf z => ?_) nd.2
    rcases List.mem_append.mp z with z | z
    · exact h f (List.mem_cons_of_mem _ hf) z
    · exact nd.1 (List.mem_map.mpr ⟨f, hf, List.mem_singleton.mp z⟩)
theorem pl_nodup : ∀ (fs : List Fld) (seen : List Str), ((plF seen fs).map (·.nm)).Nodup ∧ ∀ f ∈ plF seen fs, f.nm ∉ seen
  | [], _ => ⟨.nil, fun _ h => nomatch h⟩
  | g :: fs, seen => by
    unfold plF
    by_cases h : g.nm ∈ seen
    · rw [if_pos h]
      exact pl_nodup fs seen
    · rw [if_neg h]
      obtain ⟨i1, i2⟩ := pl_nodup fs (seen ++ [g.nm])
      refine ⟨?_, fun f hf z => ?_⟩
      · rw [List.map_cons, List.nodup_cons]
        refine ⟨fun z => ?_, i1⟩
        obtain ⟨f, hf, e⟩ := List.mem_map.mp z
        exact i2 f hf (List.mem_append_right _ (List.mem_singleton.mpr e))
      · rcases List.mem_cons.mp hf with rfl | hf
        · exact h z
        · exact i2 f hf (List.mem_append_left _ z)
theorem plain_plain (fs : List Fld) : plain (plain fs) = plain fs := pl_again _ [] (fun _ _ z => nomatch z) (pl_nodup fs []).1
end G
set_option Elab.async false
set_option linter.all false
set_option maxRecDepth 100000
set_option maxHeartbeats 2000000
/-! MX: orders as fine as others; two values that part two orders. -/
namespace G
open PySem PySem.Spec PyProof.Rows L2 NdefX StX PySem.W
/-! ### a field with the other sign -/
def Fld.opp (f : Fld) : Fld := ⟨!f.neg, f.nm, if f.neg then f.nm else ("-" : Str) ++ f.nm⟩
theorem cs_minus : cs ("-" : Str) = [45] := by decide +kernel
theorem opp_ok {f : Fld} (h : f.Ok) : f.opp.Ok := by
  refine ⟨h.1, ?_⟩
  show cs (if f.neg then f.nm else ("-" : Str) ++ f.nm) = (if !f.neg then [45] else []) ++ cs f.nm
  cases f.neg with
  | true => rfl
  | false =>
    show cs (("-" : Str) ++ f.nm) = [45] ++ cs f.nm
    rw [cs_app, cs_minus]
theorem cut_rest (z : Str) : cs (cutS z (some 1) none) = (cs z).drop 1 := by
  have h1 : HT.sIx z.length 0 (some 1) = min 1 z.length := HT.sIx_nat z.length 0 1
  show ((cs z).drop (HT.sIx z.length 0 (some 1))).take (HT.sIx z.length z.length none - HT.sIx z.length 0 (some 1)) = _
  rw [HT.sIx_none, h1, ← cs_len]
  cases h : cs z with
  | nil => rfl
  | cons c l =>
    have e : min 1 (c :: l).length = 1 := Nat.min_eq_left (by simp)
    rw [e]
    show ((c :: l).drop 1).take ((c :: l).length - 1) = _
    rw [List.take_of_length_le (by simp)]
theorem cut_neg {f : Fld} (h : f.Ok) (n : f.neg = true) : cutS f.tx (some 1) none = f.opp.tx := by
  apply cs_inj
  rw [cut_rest, (opp_ok h).2, h.2]
  show _ = (if !f.neg then [45] else []) ++ cs f.nm
  rw [n]
  rfl
theorem opp_pos {f : Fld} (h : f.Ok) (n : f.neg = false) : ("-" : Str) ++ f.tx = f.opp.tx := by
  apply cs_inj
  rw [cs_app, (opp_ok h).2, h.2, cs_minus]
  show _ = (if !f.neg then [45] else []) ++ cs f.nm
  rw [n]
  rfl
/-! ### fields with the same text -/
theorem tx_of {f : Fld} (h : f.Ok) : f.tx = if f.neg then ("-" : Str) ++ f.nm else f.nm := by
  apply cs_inj
  rw [h.2]
  cases f.neg with
  | true =>
    show [45] ++ cs f.nm = cs (("-" : Str) ++ f.nm)
    rw [cs_app, cs_minus]
  | false => rfl
theorem fld_eq {f g : Fld} (hf : f.Ok) (hg : g.Ok) (e : f.tx = g.tx) : f = g := by
  obtain ⟨c, l, e1, c1, c2⟩ := name_cons hf.1
  obtain ⟨d, m, e2, d1, d2⟩ := name_cons hg.1
  have h1 := hf.2
  have h2 := hg.2
  rw [e] at h1
  have h3 := h1.symm.trans h2
  obtain ⟨n, y, z⟩ := f
  obtain ⟨n', y', z'⟩ := g
  dsimp only at e e1 e2 h3
  subst e
  have go : n = n' ∧ cs y = cs y' := by
    cases n <;> cases n' <;> simp only [if_true, if_false, Bool.false_eq_true, List.nil_append] at h3
    · exact ⟨rfl, h3⟩
    · rw [e1] at h3
      injection h3 with h4
      omega
    · rw [e2] at h3
      injection h3 with h4
      omega
    · injection h3 with _ h4
      exact ⟨rfl, h4⟩
  rw [go.1, cs_inj go.2]
theorem flds_eq : ∀ {fs gs : List Fld}, (∀ f ∈ fs, f.Ok) → (∀ g ∈ gs, g.Ok) → fs.map (·.tx) = gs.map (·.tx) → fs = gs
  | [], [], _, _, _ => rfl
  | [], _ :: _, _, _, e => by cases e
  | _ :: _, [], _, _, e => by cases e
  | f :: fs, g :: gs, hf, hg, e => by
    injection e with e1 e2
    rw [fld_eq (hf f List.mem_cons_self) (hg g List.mem_cons_self) e1, flds_eq (fun x hx => hf x (List.mem_cons_of_mem _ hx)) (fun x hx => hg x (List.mem_cons_of_mem _ hx)) e2]
/-! ### as fine as another -/
/-- the plain fields A begin with B -/
def fineB (A B : List Fld) : Bool := decide ((A.take B.length).map (·.tx) = B.map (·.tx))
theorem lt_more (x y : List (Key × V)) (C : List Fld) : ∀ B : List Fld, ltI (ansL B x) (ansL B y) = true → ltI (ansL (B ++ C) x) (ansL (B ++ C) y) = true
  | [], h => by
    rw [show ltI (ansL [] x) (ansL [] y) = false from ltI_nil] at h
    cases h
  | f :: B, h => by
    show ltI (f.ans x :: ansL (B ++ C) x) (f.ans y :: ansL (B ++ C) y) = true
    have h : ltI (f.ans x :: ansL B x) (f.ans y :: ansL B y) = true := h
    rw [ltI_cons] at h ⊢
    split at h
    · rename_i e
      rw [if_pos e]
      exact lt_more x y C B h
    · rename_i e
      rw [if_neg e]
      exact h
theorem fine_lt {A B : List Fld} (hA : ∀ f ∈ A, f.Ok) (hB : ∀ f ∈ B, f.Ok) (h : fineB A B = true) (x y : List (Key × V)) (l : ltI (ansL B x) (ansL B y) = true) : ltI (ansL A x) (ansL A y) = true := by
  have e := flds_eq (fun f hf => hA f (List.mem_of_mem_take hf)) hB (of_decide_eq_true h)
  have e2 := List.take_append_drop B.length A
  rw [e] at e2
  rw [← e2]
  exact lt_more x y _ B l
theorem lt_pre {x y : List (Key × V)} {C D : List Fld} : ∀ pre : List Fld, (∀ f ∈ pre, f.ans x = f.ans y) → ltI (ansL (pre ++ C) x) (ansL (pre ++ C) y) = ltI (ansL C x) (ansL C y)
  | [], _ => rfl
  | f :: pre, h => by
    show ltI (f.ans x :: ansL (pre ++ C) x) (f.ans y :: ansL (pre ++ C) y) = _
    rw [ltI_cons, if_pos (h f List.mem_cons_self)]
    exact lt_pre (D := D) pre fun g hg => h g (List.mem_cons_of_mem _ hg)
/-! ### the first place where they part -/
/-- B doesn't begin as A does, up to the place c -/
def sameUp (A B : List Fld) (c : Nat) : Bool := decide ((A.take (c + 1)).map (·.tx) = (B.take (c + 1)).map (·.tx))
theorem part_at {A B : List Fld} (b1 : 1 ≤ B.length) (h : fineB A B = false) : ∃ i, i < B.length ∧ sameUp A B i = false ∧ ∀ m, m < i → sameUp A B m = true := by
  have last : sameUp A B (B.length - 1) = false := by
    have e : B.length - 1 + 1 = B.length := by omega
    have h2 := of_decide_eq_false h
    refine decide_eq_false fun z => h2 ?_
    rw [e, List.take_length] at z
    exact z
  have go : ∀ n, (∃ i, i ≤ n ∧ sameUp A B i = false ∧ ∀ m, m < i → sameUp A B m = true) ∨ ∀ m, m ≤ n → sameUp A B m = true := by
    intro n
    induction n with
    | zero =>
      cases e : sameUp A B 0 with
      | false => exact .inl ⟨0, Nat.le_refl _, e, fun m hm => absurd hm (Nat.not_lt_zero _)⟩
      | true => exact .inr fun m hm => by rw [Nat.le_zero.mp hm]; exact e
    | succ n ih =>
      rcases ih with ⟨i, h1, h2⟩ | ih
      · exact .inl ⟨i, Nat.le_succ_of_le h1, h2⟩
      · cases e : sameUp A B (n + 1) with
        | false => exact .inl ⟨n + 1, Nat.le_refl _, e, fun m hm => ih m (Nat.le_of_lt_succ hm)⟩
        | true =>
          refine .inr fun m hm => ?_
          rcases Nat.lt_or_ge m (n + 1) with z | z
          · exact ih m (Nat.le_of_lt_succ z)
          · rw [Nat.le_antisymm hm z]
            exact e
  rcases go (B.length - 1) with ⟨i, h1, h2, h3⟩ | h1
  · exact ⟨i, by omega, h2, h3⟩
  · rw [h1 _ (Nat.le_refl _)] at last
    cases last
structure PartsAt (A B : List Fld) (i : Nat) : Prop where
  lt : i < B.length
  pre : A.take i = B.take i
  le : i ≤ A.length
  un : ∀ a b, A[i]? = some a → B[i]? = some b → a ≠ b
theorem part_is {A B : List Fld} (hA : ∀ f ∈ A, f.Ok) (hB : ∀ f ∈ B, f.Ok) {i : Nat} (lt : i < B.length) (h1 : sameUp A B i = false) (h2 : ∀ m, m < i → sameUp A B m = true) : PartsAt A B i := by
  have pre : A.take i = B.take i := by
    cases i with
    | zero => rfl
    | succ i => exact flds_eq (fun f hf => hA f (List.mem_of_mem_take hf)) (fun f hf => hB f (List.mem_of_mem_take hf)) (of_decide_eq_true (h2 i (Nat.lt_succ_self _)))
  have le : i ≤ A.length := by
    have := congrArg List.length pre
    rw [List.length_take, List.length_take] at this
    omega
  refine ⟨lt, pre, le, fun a b ea eb e => ?_⟩
  refine of_decide_eq_false h1 ?_
  rw [take_snoc' ea, take_snoc' eb, pre, e]
where
  take_snoc' {l : List Fld} {i : Nat} {x : Fld} (h : l[i]? = some x) : l.take (i + 1) = l.take i ++ [x] := by
    obtain ⟨lt, rfl⟩ := List.getElem?_eq_some_iff.mp h
    rw [List.take_succ, List.getElem?_eq_getElem lt]
    rfl
/-! ### the two values -/
/-- the fields that both values are about, ascending -/
def ascOf (A B : List Fld) (i : Nat) : List Fld := (B[i]?).toList ++ (A[i]?).toList.map Fld.opp
/-- the number of the first of the two values -/
def lesN (f : Fld) : Int := if f.neg then 1 else 0
def lesK (l : List Fld) : List (Key × V) := l.foldl (fun kvs f => putK kvs (Sum.inr f.nm) (.int (lesN f))) []
def greK (l : List Fld) : List (Key × V) := l.foldl (fun kvs f => putK kvs (Sum.inr f.nm) (.int (1 - lesN f))) []
/-- each name has one sign -/
def OneSign (l : List Fld) : Prop := ∀ f ∈ l, ∀ g ∈ l, f.nm = g.nm → lesN f = lesN g
section
variable (g : Fld → Int)
abbrev putF (kvs : List (Key × V)) (f : Fld) : List (Key × V) := putK kvs (Sum.inr f.nm) (.int (g f))
theorem fold_in {z : Str} {n : Int} : ∀ (l : List Fld) (acc : List (Key × V)), (∀ f ∈ l, f.nm = z → g f = n) → ((∃ f ∈ l, f.nm = z) ∨ valV acc (Sum.inr z : Key) = some (.int n)) → valV (l.foldl (putF g) acc) (Sum.inr z : Key) = some (.int n)
  | [], acc, _, h => by
    rcases h with ⟨f, hf, _⟩ | h
    · cases hf
    · exact h
  | f :: l, acc, hs, h => by
    rw [List.foldl_cons]
    refine fold_in l _ (fun x hx => hs x (List.mem_cons_of_mem _ hx)) ?_
    by_cases e : f.nm = z
    · right
      rw [valV_put, if_pos (by rw [e]), hs f List.mem_cons_self e]
    · rcases h with ⟨x, hx, ex⟩ | h
      · rcases List.mem_cons.mp hx with rfl | hx
        · exact (e ex).elim
        · exact .inl ⟨x, hx, ex⟩
      · right
        rw [valV_put, if_neg (fun q => e (Sum.inr.inj q).symm)]
        exact h
theorem fold_out {z : Str} : ∀ (l : List Fld) (acc : List (Key × V)), (∀ f ∈ l, f.nm ≠ z) → valV (l.foldl (putF g) acc) (Sum.inr z : Key) = valV acc (Sum.inr z : Key)
  | [], _, _ => rfl
  | f :: l, acc, h => by
    rw [List.foldl_cons, fold_out l _ fun x hx => h x (List.mem_cons_of_mem _ hx), valV_put, if_neg (fun q => h f List.mem_cons_self (Sum.inr.inj q).symm)]
theorem fold_val (h9 : ∀ f, -999 ≤ g f ∧ g f ≤ 999) : ∀ (l : List Fld) (acc : List (Key × V)) (zs : List Str), ValN zs acc → (∀ f ∈ l, f.nm ∈ zs) → ValN zs (l.foldl (putF g) acc)
  | [], _, _, h, _ => h
  | f :: l, acc, zs, h, hz => fold_val h9 l _ zs (h.put (hz f List.mem_cons_self) (h9 f).1 (h9 f).2) fun x hx => hz x (List.mem_cons_of_mem _ hx)
theorem fold_len : ∀ (l : List Fld) (acc : List (Key × V)), (l.foldl (putF g) acc).length ≤ acc.length + l.length
  | [], _ => Nat.le_refl _
  | f :: l, acc => by
    have h1 := fold_len l (putF g acc f)
    have h2 := length_putK acc (Sum.inr f.nm : Key) (.int (g f))
    rw [List.foldl_cons, List.length_cons]
    show (List.foldl (putF g) (putK acc (Sum.inr f.nm) (.int (g f))) l).length ≤ _
    have h1 : (List.foldl (putF g) (putK acc (Sum.inr f.nm) (.int (g f))) l).length ≤ (putK acc (Sum.inr f.nm : Key) (.int (g f))).length + l.length := h1
    omega
theorem fold_pos : ∀ (l : List Fld) (acc : List (Key × V)), 1 ≤ acc.length ∨ 1 ≤ l.length → 1 ≤ (l.foldl (putF g) acc).length
  | [], _, h => by
    rcases h with h | h
    · exact h
    · cases h
  | f :: l, acc, _ => fold_pos l _ (.inl (putK_pos _ _ _))
end
theorem num_of {kvs : List (Key × V)} {z : Str} {n : Int} (h : valV kvs (Sum.inr z : Key) = some (.int n)) : numK kvs z = n := by
  unfold numK
  rw [h]
section
variable {l : List Fld} {f : Fld}
theorem num_les (o : OneSign l) (h : f ∈ l) : numK (lesK l) f.nm = lesN f := num_of (fold_in lesN l [] (fun x hx e => o x hx f h e) (.inl ⟨f, h, rfl⟩))
theorem num_gre (o : OneSign l) (h : f ∈ l) : numK (greK l) f.nm = 1 - lesN f := num_of (fold_in (fun f => 1 - lesN f) l [] (fun x hx e => by rw [o x hx f h e]) (.inl ⟨f, h, rfl⟩))
theorem les_lt (o : OneSign l) (h : f ∈ l) : f.ans (lesK l) < f.ans (greK l) := by
  have e1 := num_les o h
  have e2 := num_gre o h
  unfold Fld.ans
  rw [e1, e2]
  unfold lesN
  cases f.neg <;> decide
theorem les_out (h : ∀ x ∈ l, x.nm ≠ f.nm) : f.ans (lesK l) = f.ans (greK l) := by
  have e1 : valV (lesK l) (Sum.inr f.nm : Key) = none := fold_out lesN l [] h
  have e2 : valV (greK l) (Sum.inr f.nm : Key) = none := fold_out (fun f => 1 - lesN f) l [] h
  unfold Fld.ans numK
  rw [e1, e2]
theorem opp_ans (kvs : List (Key × V)) : f.opp.ans kvs = -(f.ans kvs) := by
  unfold Fld.ans
  show (if (!f.neg) = true then -(numK kvs f.nm) else numK kvs f.nm) = _
  cases f.neg with
  | true => exact (Int.neg_neg _).symm
  | false => rfl
end
theorem nm_neg {f g : Fld} (hf : f.Ok) (hg : g.Ok) (e : f.nm = g.nm) (h : f ≠ g) : f.neg = !g.neg := by
  have t1 := tx_of hf
  have t2 := tx_of hg
  by_cases k : f.neg = g.neg
  · exfalso
    refine h (fld_eq hf hg ?_)
    rw [t1, t2, k, e]
  · revert k
    cases f.neg <;> cases g.neg <;> simp
section
variable {A B : List Fld} {i : Nat} {a b : Fld}
theorem asc_sign (hA : ∀ f ∈ A, f.Ok) (hB : ∀ f ∈ B, f.Ok) (p : PartsAt A B i) : OneSign (ascOf A B i) := by
  have key : ∀ a b, A[i]? = some a → B[i]? = some b → b.nm = a.opp.nm → lesN b = lesN a.opp := fun a b ea eb e => by
    have k := nm_neg (hB b (List.mem_of_getElem? eb)) (hA a (List.mem_of_getElem? ea)) e (Ne.symm (p.un a b ea eb))
    show (if b.neg then (1 : Int) else 0) = if (!a.neg) = true then 1 else 0
    rw [k]
  intro f hf g hg e
  unfold ascOf at hf hg
  rcases List.mem_append.mp hf with hf | hf <;> rcases List.mem_append.mp hg with hg | hg
  · rw [Option.mem_toList] at hf hg
    rw [hf] at hg
    rw [Option.some.inj hg]
  · rw [Option.mem_toList] at hf
    obtain ⟨a, ha, rfl⟩ := List.mem_map.mp hg
    rw [Option.mem_toList] at ha
    exact key a f ha hf e
  · rw [Option.mem_toList] at hg
    obtain ⟨a, ha, rfl⟩ := List.mem_map.mp hf
    rw [Option.mem_toList] at ha
    exact (key a g ha hg e.symm).symm
  · obtain ⟨a, ha, rfl⟩ := List.mem_map.mp hf
    obtain ⟨b, hb, rfl⟩ := List.mem_map.mp hg
    rw [Option.mem_toList] at ha hb
    rw [ha] at hb
    rw [Option.some.inj hb]
theorem split_at {l : List Fld} {i : Nat} {x : Fld} (h : l[i]? = some x) : l = l.take i ++ x :: l.drop (i + 1) := by
  obtain ⟨lt, rfl⟩ := List.getElem?_eq_some_iff.mp h
  rw [List.getElem_cons_drop, List.take_append_drop]
theorem ahead_ne {l : List Fld} (nd : (l.map (·.nm)).Nodup) {i : Nat} {x f : Fld} (h : l[i]? = some x) (hf : f ∈ l.take i) : x.nm ≠ f.nm := fun e => by
  rw [split_at h, List.map_append, List.map_cons, List.nodup_append] at nd
  exact nd.2.2 _ (List.mem_map.mpr ⟨f, hf, rfl⟩) _ List.mem_cons_self e.symm
theorem parts_lt (hA : ∀ f ∈ A, f.Ok) (hB : ∀ f ∈ B, f.Ok) (nA : (A.map (·.nm)).Nodup) (nB : (B.map (·.nm)).Nodup) (p : PartsAt A B i) :
    ltI (ansL B (lesK (ascOf A B i))) (ansL B (greK (ascOf A B i))) = true ∧ ltI (ansL A (lesK (ascOf A B i))) (ansL A (greK (ascOf A B i))) = false := by
  have o := asc_sign hA hB p
  obtain ⟨b, eb⟩ : ∃ b, B[i]? = some b := ⟨B[i]'p.lt, List.getElem?_eq_getElem p.lt⟩
  have pre : ∀ f ∈ B.take i, f.ans (lesK (ascOf A B i)) = f.ans (greK (ascOf A B i)) := fun f hf => les_out fun x hx => by
    unfold ascOf at hx
    rcases List.mem_append.mp hx with hx | hx
    · rw [Option.mem_toList] at hx
      exact ahead_ne nB hx hf
    · obtain ⟨a, ha, rfl⟩ := List.mem_map.mp hx
      rw [Option.mem_toList] at ha
      have k : a.nm ≠ f.nm := ahead_ne nA ha (p.pre ▸ hf)
      exact k
  have hb : b ∈ ascOf A B i := List.mem_append_left _ (by rw [Option.mem_toList]; exact eb)
  have hl := fun f (hf : f ∈ ascOf A B i) => les_lt o hf
  have ho : ∀ a, A[i]? = some a → a.opp ∈ ascOf A B i := fun a ea => List.mem_append_right _ (List.mem_map.mpr ⟨a, by rw [Option.mem_toList]; exact ea, rfl⟩)
  generalize lesK (ascOf A B i) = X at pre hl ⊢
  generalize greK (ascOf A B i) = Y at pre hl ⊢
  constructor
  · have l := hl b hb
    have this := lt_pre (D := []) (C := b :: B.drop (i + 1)) (x := X) (y := Y) _ pre
    rw [← split_at eb] at this
    rw [this]
    show ltI (b.ans _ :: ansL _ _) (b.ans _ :: ansL _ _) = true
    rw [ltI_cons, if_neg (by omega)]
    exact decide_eq_true l
  · cases ea : A[i]? with
    | none =>
      have e : A = A.take i := (List.take_of_length_le (List.getElem?_eq_none_iff.mp ea)).symm
      have e2 : A = B.take i ++ [] := by rw [List.append_nil, ← p.pre]; exact e
      have this := lt_pre (D := []) (C := []) (x := X) (y := Y) _ pre
      rw [← e2] at this
      rw [this]
      exact ltI_nil
    | some a =>
      have l := hl a.opp (ho a ea)
      rw [opp_ans, opp_ans] at l
      have this := lt_pre (D := []) (C := a :: A.drop (i + 1)) (x := X) (y := Y) _ pre
      rw [← p.pre, ← split_at ea] at this
      rw [this]
      show ltI (a.ans _ :: ansL _ _) (a.ans _ :: ansL _ _) = false
      rw [ltI_cons, if_neg (by omega)]
      exact decide_eq_false (by omega)
end
theorem asc_len (A B : List Fld) (i : Nat) : (ascOf A B i).length ≤ 2 := by
  unfold ascOf
  rw [List.length_append, List.length_map]
  have h1 : (B[i]?).toList.length ≤ 1 := by cases B[i]? <;> simp
  have h2 : (A[i]?).toList.length ≤ 1 := by cases A[i]? <;> simp
  omega
end G
set_option Elab.async false
set_option linter.all false
set_option maxRecDepth 100000
set_option maxHeartbeats 2000000
/-! DV: dicts whose keys are tuples: setdefault, list of the values. -/
namespace DvT
open PySem PySem.Spec PyProof.Rows L2
section
variable {prog : Program} {w : World} {A : Around} {E : Value → Shared → Prop} {s : Shared} {d : Addr} {es : Array DictEntry} {ep : Nat}
theorem vals_meet (hd : (d == sysModules) = false) :
    MeetsIn prog w (Builtin.«dict.values» ⟨[.ref d], []⟩) (fun _ R s => DT.Raw s.heap d es ep ∧ R (.ok (.ret (.ref s.heap.objs.size))) { s with heap := s.heap.push { cls := .type "dict_values", data := .fields #[.ref d] } }) :=
  .of_wp fun A R s ⟨z, q⟩ => by
    refine wpAny_bind ?_
    unfold Builtin.Dict.noArgs
    refine wpAny_bind (wpAny_notOrdered_dict z.typeIs ?_)
    show wpAny _ _ (pure d) _ _ s
    refine wpAny_pure (show wpAny _ _ (Builtin.Dict.showsAll d >>= _) _ _ s from ?_)
    unfold Builtin.Dict.showsAll
    rw [if_neg (by rw [hd]; exact Bool.false_ne_true)]
    exact wpAny_bind (wpAny_pure (wpAny_bind (wpAny_newObj_type (wpAny_pure ⟨_, rfl, q⟩))))
theorem vals_iter {v : Addr} {Q : Value → Shared → Prop} (hv : s.heap.IsValuesView v d) (z : DT.Raw s.heap d es ep)
    (q : Q (.ref s.heap.objs.size) { s with heap := s.heap.push { cls := .type "dict_valueiterator", data := .fields #[.ref d, .int 0 0, .int es.size 0, .int ep 0] } }) : wpAny (model prog w) A (pyIter (.ref v)) Q E s := by
  obtain ⟨ov, o1, o2, o3⟩ := id hv
  obtain ⟨od, z1, z2, z3⟩ := id z
  refine wpAny_pyIter_slot hv.typeIs PySem.F.slot_dict_values_iter (wpAny_call_entry PySem.F.slot_dict_values_iter hv.typeIs PySem.F.entry_dict_values_iter ?_ (PySem.F.args_dict_values_iter_1 _))
  unfold Builtin.«dict_values.__iter__»
  refine wpAny_bind (wpAny_pure (wpAny_bind ?_))
  unfold Builtin.Dict_items.dictOf
  refine wpAny_bind (wpAny_field o1 o3 (x := .ref d) rfl (wpAny_pure (wpAny_bind ?_)))
  unfold Builtin.Dict_items.newIterator
  refine wpAny_bind (wpAny_dictEntries z1 z3 (wpAny_bind (wpAny_dictEpoch z1 z3 ?_)))
  have own : Builtin.Dict_items.ownsTuple "dict_valueiterator" = false := by decide
  simp only [own, Bool.false_eq_true, if_false]
  refine wpAny_newObj_type (wpAny_pure ⟨_, rfl, "dict_valueiterator", _, ⟨_, Heap.get?_push_size _ rfl, rfl⟩, PySem.F.slot_dict_valueiterator_next.lookup, ?_⟩)
  simpa [rawInt] using q
theorem vals_next {it : Addr} {i : Nat} {en : DictEntry} {Q : Option Value → Shared → Prop} (hit : s.heap.IsValIter it d i es.size ep) (z : DT.Raw s.heap d es ep) (hx : es[i]? = some en)
    (q : ∀ h', h'.IsValIter it d (i + 1) es.size ep → Heap.SameBut it s.heap h' → Q (some en.val) { s with heap := h' }) : wpAny (model prog w) A (pyNext (.ref it)) Q E s := by
  obtain ⟨oi, i1, i2, i3⟩ := id hit
  obtain ⟨od, z1, z2, z3⟩ := id z
  unfold pyNext
  refine wpAny_bind (wpAny_attempt (wpAny_callSpecial?_slot (name := Str.ofString "__next__") hit.typeIs PySem.F.slot_dict_valueiterator_next (wpAny_call_entry PySem.F.slot_dict_valueiterator_next hit.typeIs PySem.F.entry_dict_valueiterator_next ?_ (PySem.F.args_dict_valueiterator_next_1 _))))
  refine wpAny_bind (wpAny_pure (wpAny_bind (wpAny_bind ?_)))
  first | refine wpAny_bind (wpAny_typeNameOfWhole_valiter hit.typeIs (wpAny_pure (wpAny_bind (wpAny_fieldsOf i1 i3 ?_)))) | refine wpAny_bind (wpAny_typeNameOf_valiter hit.typeIs (wpAny_pure (wpAny_bind (wpAny_fieldsOf i1 i3 ?_))))
  have own : Builtin.Dict_items.ownsTuple "dict_valueiterator" = false := by decide
  simp only [own, Bool.false_eq_true, if_false]
  show wpAny _ _ (if (Value.ref d == Value.none) = true then _ else _) _ _ s
  rw [if_neg (show ¬ ((Value.ref d == Value.none) = true) from Bool.false_ne_true)]
  refine wpAny_bind (wpAny_pure (wpAny_bind (wpAny_dictEntries z1 z3 ?_)))
  rw [if_neg (by simp)]
  refine wpAny_bind (wpAny_pure (wpAny_bind (wpAny_dictEpoch z1 z3 ?_)))
  rw [if_neg (by simp)]
  obtain ⟨lt, een⟩ := Array.getElem?_eq_some_iff.mp hx
  refine wpAny_pure ?_
  simp only [show ¬ ((i : Int) < 0) from by omega, if_false, Int.toNat_natCast, Array.getElem?_eq_getElem lt]
  refine wpAny_bind ?_
  first | refine wpAny_bind (wpAny_typeNameOfWhole_valiter hit.typeIs (wpAny_pure (wpAny_bind (wpAny_isOneOf_valiter hit.typeIs ?_)))) | refine wpAny_bind (wpAny_typeNameOf_valiter hit.typeIs (wpAny_pure (wpAny_bind (wpAny_isOneOf_valiter hit.typeIs ?_))))
  show wpAny _ _ (setField (.ref it) 1 (rawInt ((i : Int) + 1)) >>= _) _ _ s
  refine wpAny_bind (wpAny_setField i1 i3 (by simp) ?_)
  have hit' : (s.heap.update it (Obj.mapFields (·.setIfInBounds 1 (rawInt ((i : Int) + 1))))).IsValIter it d (i + 1) es.size ep :=
    ⟨_, Heap.get?_update_self _ i1 (Obj.isFreed_of_fields (Obj.data_mapFields i3 _)), (Obj.cls_mapFields ..).trans i2, by rw [Obj.data_mapFields i3]; simp [rawInt]⟩
  refine wpAny_bind (wpAny_holding (wpAny_bind (wpAny_isOneOf_valiter (s := { s with heap := s.heap.update it (Obj.mapFields (·.setIfInBounds 1 (rawInt ((i : Int) + 1)))) }) hit'.typeIs ?_)))
  refine wpAny_bind (wpAny_isOneOf_valiter (s := { s with heap := s.heap.update it (Obj.mapFields (·.setIfInBounds 1 (rawInt ((i : Int) + 1)))) }) hit'.typeIs ?_)
  show wpAny _ _ (pure es[i].val) _ _ _
  exact wpAny_pure (wpAny_pure ⟨_, rfl, wpAny_pure (by rw [een]; exact q _ hit' (Heap.SameBut.update ..))⟩)
theorem vals_end {it : Addr} {i : Nat} {Q : Option Value → Shared → Prop} (hh : A.handled = none) (hit : s.heap.IsValIter it d i es.size ep) (z : DT.Raw s.heap d es ep) (hx : es.size ≤ i)
    (q : ∀ h', Heap.ExtBut it s.heap h' → Q none { s with heap := h' }) : wpAny (model prog w) A (pyNext (.ref it)) Q E s := by
  obtain ⟨oi, i1, i2, i3⟩ := id hit
  obtain ⟨od, z1, z2, z3⟩ := id z
  unfold pyNext
  refine wpAny_bind (wpAny_attempt (wpAny_callSpecial?_slot (name := Str.ofString "__next__") hit.typeIs PySem.F.slot_dict_valueiterator_next (wpAny_call_entry PySem.F.slot_dict_valueiterator_next hit.typeIs PySem.F.entry_dict_valueiterator_next ?_ (PySem.F.args_dict_valueiterator_next_1 _))))
  refine wpAny_bind (wpAny_pure (wpAny_bind (wpAny_bind ?_)))
  first | refine wpAny_bind (wpAny_typeNameOfWhole_valiter hit.typeIs (wpAny_pure (wpAny_bind (wpAny_fieldsOf i1 i3 ?_)))) | refine wpAny_bind (wpAny_typeNameOf_valiter hit.typeIs (wpAny_pure (wpAny_bind (wpAny_fieldsOf i1 i3 ?_))))
  have own : Builtin.Dict_items.ownsTuple "dict_valueiterator" = false := by decide
  simp only [own, Bool.false_eq_true, if_false]
  show wpAny _ _ (if (Value.ref d == Value.none) = true then _ else _) _ _ s
  rw [if_neg (show ¬ ((Value.ref d == Value.none) = true) from Bool.false_ne_true)]
  refine wpAny_bind (wpAny_pure (wpAny_bind (wpAny_dictEntries z1 z3 ?_)))
  rw [if_neg (by simp)]
  refine wpAny_bind (wpAny_pure (wpAny_bind (wpAny_dictEpoch z1 z3 ?_)))
  rw [if_neg (by simp)]
  refine wpAny_pure ?_
  simp only [show ¬ ((i : Int) < 0) from by omega, if_false, Int.toNat_natCast, Array.getElem?_eq_none hx]
  refine wpAny_bind ?_
  first | refine wpAny_bind (wpAny_typeNameOfWhole_valiter hit.typeIs (wpAny_pure ?_)) | refine wpAny_bind (wpAny_typeNameOf_valiter hit.typeIs (wpAny_pure ?_))
  show wpAny _ _ (setField (.ref it) 0 .none >>= _) _ _ s
  refine wpAny_bind (wpAny_setField i1 i3 (by simp) ?_)
  show wpAny _ _ (newExc (.type "StopIteration") [] >>= _) _ _ _
  refine wpAny_bind ?_
  simp only [newExc, newTuple]
  refine wpAny_bind (wpAny_newObj_type ?_ (by size_fits))
  refine wpAny_bind (m := firstArgMember _ _) (wpAny_of_eq (a := Value.none) (by first | rfl | (simp only [firstArgMember]; rfl)) (wpAny_newObj_type ?_ (by size_fits)))
  simp only [raiseNew]
  refine wpAny_bind (wpAny_handled ?_)
  rw [show A.in1.handled = none from hh]
  refine wpAny_bind (wpAny_pure (wpAny_throw ?_))
  refine wpAny_bind (wpAny_isInstance (T := "StopIteration") (b := true) ⟨_, Heap.get?_push_size _ rfl, rfl⟩ isSubtype_stop ?_)
  exact wpAny_pure (q _ (((Heap.SameBut.update ..).extBut.push _).push _))
theorem vals_walk (hh : A.handled = none) (I : Addr) (hne : d ≠ I) : Walks prog w A I [I, d] [I] es.size (fun i v => ∃ en : DictEntry, es[i]? = some en ∧ v = en.val) (fun i h => h.IsValIter I d i es.size ep ∧ DT.Raw h d es ep) where
  sub := fun b hb => by simp at hb; simp [hb]
  frame := fun _ _ _ st hk => ⟨st.1.at fun o e => hk I (by simp) o e, st.2.at' fun o e => hk d (by simp) o e⟩
  item := fun i s Q E hi st hQ => by
    have hx : es[i]? = some es[i] := Array.getElem?_eq_getElem hi
    refine vals_next st.1 st.2 hx fun h' hit' sb => ?_
    exact hQ _ h' s.toks ⟨_, hx, rfl⟩ ⟨hit', st.2.at' fun o e => (sb.2 d hne).trans e⟩ fun b ob hb e => (sb.2 b (fun z => hb (by simp [z]))).trans e
  done := fun s Q E st hQ => vals_end hh st.1 st.2 (Nat.le_refl _) fun h' he' => hQ h' s.toks fun b ob hb e => he' b ob (fun z => hb (by simp [z])) e
  self := fun _ _ _ _ st hQ => wpAny_pyIter_valiter st.1 hQ
theorem vals_src {r : Addr} : PySem.W.KdlSrc prog w "dict_values" r d es.size (fun i v => ∃ en : DictEntry, es[i]? = some en ∧ v = en.val) (fun h => h.IsValuesView r d ∧ DT.Raw h d es ep) where
  type := fun _ hm => hm.1.typeIs
  there := fun _ hm => ⟨let ⟨_, ho, _⟩ := hm.1; Heap.lt_size ho, hm.2.lt⟩
  keep := fun _ _ hm hk => ⟨let ⟨o, ho, x⟩ := hm.1; ⟨o, hk r (.inl rfl) o ho, x⟩, hm.2.at' fun o e => hk d (.inr rfl) o e⟩
  notList := by decide
  notTuple := by decide
  hint := fun _ _ _ _ hm hq => PySem.W.kdl_hint_values hm.1.typeIs hq
  iter := fun _ _ hh hm => ⟨_, _, (fun _ _ hq => vals_iter hm.1 hm.2 hq), vals_walk hh _ (Nat.ne_of_lt hm.2.lt), ⟨⟨_, Heap.get?_push_size _ rfl, rfl, rfl⟩, hm.2.push _⟩⟩
end
/-- list(e.values()), the keys tuples -/
def rValsT : V → Hp → VK → Prop := fun x H Q => ∃ (d : Addr) (kvs : List (List Key × V)), x = .ref d ∧ H d = some (.dT kvs) ∧ ∀ p, H p = none → Q (.ref p) (upd H p (.lst (kvs.map (·.2))))
def tValsT (te : TE) : TE := fun σ H Q => te σ H fun x H1 => rValsT x H1 Q
section
variable {X : Cx} {e : Expr} {te : TE} {p apos cpos pos : Pos}
theorem kt_vals {H : Hp} {kvs : List (List Key × V)} {xs : List (List Key × Addr × Value)} (r : KT H kvs xs) : Vals (kvs.map (·.2)) (xs.map fun x => x.2.2) := by
  unfold KT at r
  induction r with
  | nil => exact .nil
  | cons h t ih => exact .cons h.2.2 ih
theorem pe_valsT (hc : X.calm = true) (he : PE X e te) (hg : Gl X "list") (hm : X.mg "list" = none) (hv : bootBuiltins "list" = some (.type "list")) (hbase : attributeBase e "values" X.env (eval e X.env) = eval e X.env := by rfl) (hline : (apos.endLine == cpos.line) = true := by rfl)
    (hs : starEach [.Call (.Attribute e "values" apos) [] [] cpos] X.env = (false, eval (.Call (.Attribute e "values" apos) [] [] cpos) X.env) :: starEach [] X.env := by rfl) :
    PE X (.Call (.Name "list" p) [.Call (.Attribute e "values" apos) [] [] cpos] [] pos) (tValsT te) := by
  refine ⟨fun pins s σ H Q I hq => ?_⟩
  refine wpAny_Call_Name_kw (ld_blt I hg hm hv (PyProof.Rows.callWith_type1 ?_ hs rfl))
  rw [hs]
  show wpAny _ _ (spliced ((false, eval (.Call (.Attribute e "values" apos) [] [] cpos) X.env) :: backTo pos (starEach [] X.env))) _ _ s
  refine Calls.spliced_cons (wpAny_Call_method (T := "dict") (id := "dict.values") hbase rfl hline PySem.F.plainAttrs_dict PySem.F.slot_dict_values PySem.F.type_dict_values (thn (he.run pins s σ H _ I hq) fun u s1 ⟨x, H1, I1, rx, d, kvs, ex, hd, q⟩ => ?_))
  subst ex
  obtain rfl : u = Value.ref d := rx
  obtain ⟨z, hs0, ks, pr, o, es, ep, ho, hx, hdt, hent, hnd⟩ := (show ObjOk X.prog X.w H1 s1.heap d (.dT kvs) from I1.hok d _ hd)
  have hraw : DT.Raw s1.heap d es ep := ⟨o, ho, hx, hdt⟩
  have l1 : es.size = ks.length := size_of_entries hent
  have l2 : kvs.length = ks.length := Paired.length pr
  refine ⟨hraw.typeIs, fun b e => ?_, ?_⟩
  · cases e
    exact ⟨o, ho, hx.2.1⟩
  show wpAny _ _ (callWith cpos (.builtin "dict.values") [.ref d] [] []) _ X.xe s1
  refine method_meetsIn PySem.F.slot_dict_values PySem.F.entry_dict_values rfl (PySem.evalArgs_none ⟨rfl, hraw.typeIs, PySem.F.args_dict_values_1 _, _, vals_meet (es := es) (ep := ep) hs0, hraw, ?_⟩)
  refine Calls.spliced_nil ?_
  have I2 : Inv X pins σ H1 { s1 with heap := s1.heap.push { cls := .type "dict_values", data := .fields #[.ref d] } } := I1.kept (t' := s1.toks) fun b ob q => Heap.get?_push_of_some _ q
  refine PySem.W.kdl_call (vals_src (d := d) (es := es) (ep := ep)) (I1.ok.hd hc) ⟨⟨_, Heap.get?_push_size _ rfl, rfl, rfl⟩, hraw.push _⟩ (by omega) fun h' tk acc c' kp ge ia => ?_
  have ea : acc.toList = ks.map fun x => x.2.2 := by
    have hl : acc.toList.length = ks.length := by rw [Array.length_toList, ia.1]; exact l1
    apply List.ext_getElem?
    intro j
    rw [List.getElem?_map]
    cases hj : acc.toList[j]? with
    | none =>
      rw [List.getElem?_eq_none (by have := List.getElem?_eq_none_iff.mp hj; omega)]
      all_goals rfl
    | some v =>
      obtain ⟨en, hen, hv⟩ := ia.2 j v (by rw [← Array.getElem?_toList]; exact hj)
      have qe := entry_at hent j
      rw [hen] at qe
      cases hb : ks[j]? with
      | none =>
        rw [hb] at qe
        exact nomatch (show some en = none from qe)
      | some b =>
        rw [hb] at qe
        have e2 : en = entryOfKey (tupleKind (mixKind X.prog X.w)) b := Option.some.inj qe
        rw [hv, e2]
        all_goals rfl
  have rv : Vals (kvs.map (·.2)) acc.toList := by
    rw [ea]
    exact kt_vals pr
  refine ⟨.ref _, _, I2.laid (t' := tk) (o := .lst (kvs.map (·.2))) kp (Nat.le_refl _) ?_, rfl, q _ (I2.hok.fresh (Nat.le_refl _))⟩
  exact ⟨by rw [List.length_map]; omega, acc.toList, c', rv, by rw [Array.toArray_toList]; exact ge⟩
end
/-- d.setdefault(y, z), y a tuple -/
def tSetdT (td ty tx : TE) : TE := fun σ H Q => td σ H fun x H1 => ∃ a, x = .ref a ∧ IsD H1 a ∧ ty σ H1 fun y H2 => tx σ H2 fun z H3 => ∃ (kvs : List (List Key × V)) (k : List Key) (b : Addr), H3 a = some (.dT kvs) ∧ y = .ref b ∧ H3 b = some (.tup (k.map kV)) ∧ kvs.length < sizeLine ∧
  (∀ v, valV kvs k = some v → Q v H3) ∧ (valV kvs k = none → Q z (upd H3 a (.dT (putK kvs k z))))
section
variable {X : Cx} {pins : List (Addr × Obj)} {σ : L2.St} {H : Hp} {s : Shared} {a b : Addr} {u r : Value} {d : V} {k : List Key} {A : Around} {E : Value → Shared → Prop}
theorem setd_t {kvs : List (List Key × V)} {Q : Value → Shared → Prop} (hu : A.units + 1 < cLine) (I : Inv X pins σ H s) (e : H a = some (.dT kvs)) (eb : H b = some (.tup (k.map kV))) (rd : RelV d r) (hl : kvs.length < sizeLine)
    (h1 : ∀ v, valV kvs k = some v → ∀ (w' : Value) (s' : Shared), Inv X pins σ H s' → RelV v w' → Q w' s') (h2 : valV kvs k = none → ∀ (w' : Value) (s' : Shared), Inv X pins σ (upd H a (.dT (putK kvs k d))) s' → RelV d w' → Q w' s') :
    wpAny (model X.prog X.w) A (call (.builtin "dict.setdefault") [.ref a, .ref b, r]) Q E s := by
  obtain ⟨z, hd, xs, rel, dd⟩ := dt_of I.hok e
  have hz : xs.length ≤ sizeLine := by rw [← Paired.length rel]; exact z
  refine call_setdefault_heap (hsz := hz) (tupleKind_room_in1 hu) (key_of I.hok eb) hd dd (fun p hp => ?_) fun hn h' dd' hs => ?_
  · have rr := rel.val k
    rw [hp] at rr
    cases ev : valV kvs k with
    | none =>
      rw [ev] at rr
      exact (show False from rr).elim
    | some v0 =>
      rw [ev] at rr
      exact h1 v0 ev _ _ (I.tok _) rr
  · have rr := rel.val k
    rw [hn] at rr
    cases ev : valV kvs k with
    | some v0 =>
      rw [ev] at rr
      exact (show False from rr).elim
    | none =>
      have hl2 : (putK kvs k d).length ≤ sizeLine := by
        have := length_putK kvs k d
        omega
      obtain ⟨q, es, ep, hq, g2, g3, g4, _, g5⟩ := dd'
      refine h2 ev _ _ (d_write (t' := s.toks + (tupleKind (mixKind X.prog X.w)).draws k) I (by rw [e]; exact True.intro) hs ⟨q, hq⟩ ⟨hl2, hd, _, (rel.put k eb rd).keeps fun c ys ec => ?_, q, es, ep, hq, g2, g3, g4, g5⟩) rd
      rw [upd_ne (ne_of ec e (fun y => nomatch y))]
      exact ec
end
section
variable {X : Cx} {o e f : Expr} {td ty tx : TE} {apos cpos : Pos}
theorem pe_setdT (hu : X.A.units + 2 < cLine) (ho : PE X o td) (he : PE X e ty) (hf : PE X f tx) (m : M2 X o "setdefault" apos e f cpos) : PE X (.Call (.Attribute o "setdefault" apos) [e, f] [] cpos) (tSetdT td ty tx) := by
  refine ⟨fun pins s σ H Q I h => ?_⟩
  refine wpAny_Call_method m.base m.few m.line PySem.F.plainAttrs_dict PySem.F.slot_dict_setdefault PySem.F.type_dict_setdefault (thn (ho.run pins s σ H _ I h) fun u s1 ⟨x, H1, I1, rx, a, ex, d, q1⟩ => ?_)
  subst ex
  obtain rfl : u = Value.ref a := rx
  obtain ⟨t1, t2, _⟩ := isD_at I1 d
  refine ⟨t1, t2, ?_⟩
  rw [m.trees]
  refine Calls.callWith_builtin rfl (Calls.evalArgs_plain (Calls.spliced_cons (thn (he.run pins s1 σ H1 _ I1 q1) fun iv s2 ⟨y, H2, I2, ry, q2⟩ =>
    Calls.spliced_cons (thn (hf.run pins s2 σ H2 _ I2 q2) fun fv s3 ⟨z, H3, I3, rz, kvs, k, b, ea, ey, eb, hl, q3, q4⟩ => Calls.spliced_nil ?_))))
  subst ey
  obtain rfl : iv = Value.ref b := ry
  exact setd_t (by exact Nat.lt_of_succ_lt hu) I3 ea eb rz hl (fun v hv w' s4 I4 rw' => ⟨v, _, I4, rw', q3 v hv⟩) fun hn w' s4 I4 rw' => ⟨z, _, I4, rw', q4 hn⟩
end
end DvT
set_option Elab.async false
set_option linter.all false
set_option maxRecDepth 100000
set_option maxHeartbeats 2000000
/-! DW: list(d.values()), the keys ints and texts. -/
namespace DvT
open PySem PySem.Spec PyProof.Rows L2
/-- list(e.values()), the keys ints and texts -/
def rValsK : V → Hp → VK → Prop := fun x H Q => ∃ (d : Addr) (kvs : List (Key × V)), x = .ref d ∧ H d = some (.dK kvs) ∧ ∀ p, H p = none → Q (.ref p) (upd H p (.lst (kvs.map (·.2))))
def tValsK (te : TE) : TE := fun σ H Q => te σ H fun x H1 => rValsK x H1 Q
theorem pairs_vals {K : Type} [DecidableEq K] {P : Program} {w : World} {knd : KeyKind P w K} {es : List DictEntry} {vs : List (K × Value)} (r : Pairs knd es vs) : es.map (·.val) = vs.map (·.2) := by
  induction r with
  | nil => rfl
  | cons _ e _ ih => rw [List.map_cons, List.map_cons, e, ih]
theorem kv_vals {κ : Type} {kvs : List (κ × V)} {vs : List (κ × Value)} (r : KV kvs vs) : Vals (kvs.map (·.2)) (vs.map (·.2)) := by
  unfold KV at r
  induction r with
  | nil => exact .nil
  | cons h t ih => exact .cons h.2 ih
section
variable {X : Cx} {e : Expr} {te : TE} {p apos cpos pos : Pos}
theorem pe_valsK (hc : X.calm = true) (he : PE X e te) (hg : Gl X "list") (hm : X.mg "list" = none) (hv : bootBuiltins "list" = some (.type "list")) (hbase : attributeBase e "values" X.env (eval e X.env) = eval e X.env := by rfl) (hline : (apos.endLine == cpos.line) = true := by rfl)
    (hs : starEach [.Call (.Attribute e "values" apos) [] [] cpos] X.env = (false, eval (.Call (.Attribute e "values" apos) [] [] cpos) X.env) :: starEach [] X.env := by rfl) :
    PE X (.Call (.Name "list" p) [.Call (.Attribute e "values" apos) [] [] cpos] [] pos) (tValsK te) := by
  refine ⟨fun pins s σ H Q I hq => ?_⟩
  refine wpAny_Call_Name_kw (ld_blt I hg hm hv (PyProof.Rows.callWith_type1 ?_ hs rfl))
  rw [hs]
  show wpAny _ _ (spliced ((false, eval (.Call (.Attribute e "values" apos) [] [] cpos) X.env) :: backTo pos (starEach [] X.env))) _ _ s
  refine Calls.spliced_cons (wpAny_Call_method (T := "dict") (id := "dict.values") hbase rfl hline PySem.F.plainAttrs_dict PySem.F.slot_dict_values PySem.F.type_dict_values (thn (he.run pins s σ H _ I hq) fun u s1 ⟨x, H1, I1, rx, d, kvs, ex, hd, q⟩ => ?_))
  subst ex
  obtain rfl : u = Value.ref d := rx
  obtain ⟨z, hs0, vs, rel, o, es, ep, ho, hx, hdt, hko, hpr, hnd⟩ := dk_of I1.hok hd
  have hraw : DT.Raw s1.heap d es ep := ⟨o, ho, hx, hdt⟩
  have l1 : es.size = vs.length := by rw [← Array.length_toList]; exact hpr.length
  have l2 : kvs.length = vs.length := rel.length
  refine ⟨hraw.typeIs, fun b e => ?_, ?_⟩
  · cases e
    exact ⟨o, ho, hx.2.1⟩
  show wpAny _ _ (callWith cpos (.builtin "dict.values") [.ref d] [] []) _ X.xe s1
  refine method_meetsIn PySem.F.slot_dict_values PySem.F.entry_dict_values rfl (PySem.evalArgs_none ⟨rfl, hraw.typeIs, PySem.F.args_dict_values_1 _, _, vals_meet (es := es) (ep := ep) hs0, hraw, ?_⟩)
  refine Calls.spliced_nil ?_
  have I2 : Inv X pins σ H1 { s1 with heap := s1.heap.push { cls := .type "dict_values", data := .fields #[.ref d] } } := I1.kept (t' := s1.toks) fun b ob q => Heap.get?_push_of_some _ q
  refine PySem.W.kdl_call (vals_src (d := d) (es := es) (ep := ep)) (I1.ok.hd hc) ⟨⟨_, Heap.get?_push_size _ rfl, rfl, rfl⟩, hraw.push _⟩ (by omega) fun h' tk acc c' kp ge ia => ?_
  have ea : acc.toList = vs.map (·.2) := by
    rw [← pairs_vals hpr]
    apply List.ext_getElem?
    intro j
    rw [List.getElem?_map]
    cases hj : acc.toList[j]? with
    | none =>
      have := List.getElem?_eq_none_iff.mp hj
      rw [Array.length_toList, ia.1] at this
      rw [List.getElem?_eq_none (by rw [Array.length_toList]; exact this)]
      all_goals rfl
    | some v =>
      obtain ⟨en, hen, hv⟩ := ia.2 j v (by rw [← Array.getElem?_toList]; exact hj)
      rw [Array.getElem?_toList, hen, hv]
      all_goals rfl
  have rv : Vals (kvs.map (·.2)) acc.toList := by
    rw [ea]
    exact kv_vals rel
  refine ⟨.ref _, _, I2.laid (t' := tk) (o := .lst (kvs.map (·.2))) kp (Nat.le_refl _) ?_, rfl, q _ (I2.hok.fresh (Nat.le_refl _))⟩
  exact ⟨by rw [List.length_map]; omega, acc.toList, c', rv, by rw [Array.toArray_toList]; exact ge⟩
end
end DvT
set_option Elab.async false
set_option linter.all false
set_option maxRecDepth 100000
set_option maxHeartbeats 4000000
/-! EN: enumerate of a tuple. -/
namespace EnT
open PySem PySem.Spec PyProof.Rows L2
open AutoSeq1 (wpAny_loadPart')
theorem meets_newT (l : Addr) (items : Array Value) (n : Nat) (dct : Option Addr) (sl : Array (Option Value)) :
    Meets (Builtin.«enumerate.__new__» ⟨[.type "enumerate", .ref l], []⟩) (fun _ R s => s.heap.get? l = some { cls := .type "tuple", dict := dct, data := .seq items n, slots := sl } ∧
      R (.ok (.ret (.ref (s.heap.push { cls := .type "tuple_iterator", data := .fields #[.ref l, .int 0 0] }).objs.size)))
        { s with heap := (s.heap.push { cls := .type "tuple_iterator", data := .fields #[.ref l, .int 0 0] }).push { cls := .type "enumerate", data := .fields #[.none, .bool false, .ref s.heap.objs.size, rawInt 0, .none, .none] } }) :=
  .of_wp fun prog w A R s h => by
    obtain ⟨hp, g, d, tk, os⟩ := s
    obtain ⟨hl, h⟩ := h
    have hsub := sub_enumerate
    have hL : Heap.IsTuple (Shared.heap ⟨hp, g, d, tk, os⟩) l items := ⟨_, hl, rfl, n, rfl⟩
    wp_walk using wpAny_loadPart' hl
    refine wpAny_stack_any fun st => wpAny_pure ?_
    split
    · rename_i c _ _ _ _ _
      cases (c == Value.type "enumerate")
      · wp_walk using wpAny_loadPart' hl, wpAny_pyIter_tuple hL
        exact ⟨_, rfl, h⟩
      · wp_walk using wpAny_loadPart' hl, wpAny_pyIter_tuple hL
        exact ⟨_, rfl, h⟩
    · wp_walk using wpAny_loadPart' hl, wpAny_pyIter_tuple hL
      exact ⟨_, rfl, h⟩
section
variable {prog : Program} {w : World} {A : Around} {E : Value → Shared → Prop} {s : Shared}
theorem call_enumT {l : Addr} {items : Array Value} {Q : Value → Shared → Prop} (hL : s.heap.IsTuple l items)
    (h : ∀ h', IsEnum h' (s.heap.objs.size + 1) s.heap.objs.size 0 .none → h'.IsTupleIter s.heap.objs.size l 0 → (∀ b o, s.heap.get? b = some o → h'.get? b = some o) → Q (.ref (s.heap.objs.size + 1)) { s with heap := h' }) :
    wpAny (model prog w) A (call (.type "enumerate") [.ref l]) Q E s := by
  obtain ⟨⟨c, dct, dt, sl⟩, hl, hc, n, hd⟩ := hL
  replace hc : c = .type "tuple" := hc
  replace hd : dt = .seq items n := hd
  subst hc hd
  refine callType_new F.called_enumerate (by decide) (F.typeCall_enumerate_1 _) (F.newCall_enumerate_1 _) (fun obj => F.args_object_init_2 obj _) F.entry_enumerate_new (meets_newT l items n dct sl) ⟨hl, ?_⟩
  have at2 := Heap.get?_push_size (s.heap.push { cls := .type "tuple_iterator", data := .fields #[.ref l, .int 0 0] }) (o := { cls := .type "enumerate", data := .fields #[.none, .bool false, .ref s.heap.objs.size, rawInt 0, .none, .none] }) rfl
  have hz : (s.heap.push { cls := .type "tuple_iterator", data := .fields #[.ref l, .int 0 0] }).objs.size = s.heap.objs.size + 1 := Heap.size_push ..
  show _ ∧ _
  rw [hz] at at2 ⊢
  exact ⟨⟨_, at2, rfl⟩, h _ at2 ⟨_, Heap.get?_push_of_some _ (Heap.get?_push_size _ rfl), rfl, rfl⟩ fun b o x => Heap.get?_push_of_some _ (Heap.get?_push_of_some _ x)⟩
end
/-- the tuple at a, each item in a new pair -/
def Ite (K : PySem.W.Frag) (a : Addr) : It :=
  ⟨fun i H => ∃ (xs : List V) (x : V), SqT K H a xs ∧ xs[i]? = some x, fun i H v H' => ∃ T x, v = .ref T ∧ H T = none ∧ H' = upd H T (.tup [.int (i : Nat), x]) ∧ ∀ xs, SqT K H a xs → xs[i]? = some x, fun i H => ∃ xs : List V, SqT K H a xs ∧ xs.length = i⟩
theorem turn_enumT {P : Program} {w : World} {K : PySem.W.Frag} {elts : List Expr} {kk : Nat} {tpos : Pos} (a e it : Addr) (hai : a ≠ it) (hei : e ≠ it) (hea : e ≠ a) :
    Turn P w K (.Tuple elts kk tpos) (Ite K a) [e, it] e (fun i h => (∃ old, IsEnum h e it ((i : Nat) : Int) old) ∧ h.IsTupleIter it a i) where
  mem := by simp
  obj := fun i h st b hb => by
    obtain ⟨⟨old, he⟩, ⟨o, ho, hc, hd⟩⟩ := st
    have e' : b = e ∨ b = it := by simpa using hb
    rcases e' with z | z
    · rw [z]
      exact ⟨_, he, fun v q => nomatch q⟩
    · rw [z]
      exact ⟨o, ho, fun v q => by rw [hd] at q; cases q⟩
  keep := fun i h h' st k => let ⟨⟨old, he⟩, ⟨o, ho, hc, hd⟩⟩ := st; ⟨⟨old, k e (by simp) _ he⟩, ⟨o, k it (by simp) _ ho, hc, hd⟩⟩
  item := by
    intro X hP hw hK hc i pins s σ H E I hf st hg
    subst hP hw hK
    obtain ⟨⟨old, he⟩, hit⟩ := st
    obtain ⟨xs, x, hq, hx⟩ := hg
    obtain ⟨its, rv, p, hz⟩ := I.tuple hq
    obtain ⟨u, hu, ru⟩ := rv.get hx
    have hel : e < s.heap.objs.size := Heap.lt_size he
    have hil : it < s.heap.objs.size := by
      obtain ⟨_, q, _⟩ := hit
      exact Heap.lt_size q
    have D := Draws.tuple (prog := X.prog) (w := X.w) (A := X.A.in1) (I.ok.hd hc) it a hai its.toArray
    refine wpAny_pyNext_enum_itemD D he ⟨hit, p⟩ (by rw [List.size_toArray]; exact (List.getElem?_eq_some_iff.mp hu).1) hei (by simp [hei, hea]) fun y h' tk hP ho st' hT hsz hk => ?_
    obtain rfl : u = y := by
      have e1 : its.toArray[i]? = some y := hP
      rw [List.getElem?_toArray, hu] at e1
      exact Option.some.inj e1
    refine ⟨_, rfl, wpAny_letOwnedTupleGo_enum (s := { s with heap := h', toks := tk + 1 }) ho fun h'' he' sb => ?_⟩
    have hT2 : h''.get? s.heap.objs.size = some { cls := .type "tuple", data := .seq #[.int i tk, u] } := (sb.2 _ (Nat.ne_of_gt hel)).trans hT
    have new : ObjOk X.prog X.w (upd H s.heap.objs.size (.tup [.int (i : Nat), x])) h'' s.heap.objs.size (.tup [.int (i : Nat), x]) :=
      ⟨by show 2 ≤ sizeLine; decide, [.int i tk, u], .cons ⟨_, rfl⟩ (.cons ru .nil), ⟨_, hT2, rfl, _, rfl⟩⟩
    have I1 : Inv X pins σ (upd H s.heap.objs.size (.tup [.int (i : Nat), x])) { s with heap := h'', toks := tk + 1 } :=
      I.turnedNew (ch := [e, it]) (fun b ob hb q => (sb.2 b (fun z => hb (by simp [z]))).trans (hk b ob (fun z => hb (by simp [z])) (fun z => hb (by simp [z])) q)) hf (Nat.le_refl _) new
    refine ⟨.ref s.heap.objs.size, _, I1, rfl, ⟨_, x, rfl, I.hok.fresh (Nat.le_refl _), rfl, fun ys hy => by rw [I.tuple_inj hy hq]; exact hx⟩, ⟨⟨u, ?_⟩, ?_⟩, fun b hb => ?_⟩
    · have e1 : ((i + 1 : Nat) : Int) = (i : Int) + 1 := by omega
      rw [e1]
      exact he'
    · obtain ⟨o, h1, h2⟩ := st'.1
      exact ⟨o, (sb.2 it (Ne.symm hei)).trans h1, h2⟩
    · have hb' : b < s.heap.objs.size := by
        have e' : b = e ∨ b = it := by simpa using hb
        rcases e' with z | z
        · rw [z]
          exact hel
        · rw [z]
          exact hil
      rw [upd_ne (Nat.ne_of_lt hb')]
      exact (hf b hb).1
  done := by
    intro X hP hw hK hc i pins s σ H E I hf st hg
    subst hP hw hK
    obtain ⟨⟨old, he⟩, hit⟩ := st
    obtain ⟨xs, hq, hx⟩ := hg
    obtain ⟨its, rv, p, hz⟩ := I.tuple hq
    obtain ⟨f0, f1, f2, f3, f4, f5⟩ := hf it (by simp)
    have hl : its.toArray.size = i := by rw [List.size_toArray, ← rv.length, hx]
    have D := Draws.tuple (prog := X.prog) (w := X.w) (A := X.A.in1) (I.ok.hd hc) it a hai its.toArray
    rw [hl] at D
    exact wpAny_pyNext_enum_endD D he ⟨hit, p⟩ fun h' eb => ⟨rfl, I.turned (t' := s.toks) (fun b o hb q => eb b o hb q) f0 f1 f3 f4 f5⟩
  self := fun A i s Q E st h => let ⟨⟨_, he⟩, _⟩ := st; wpAny_pyIter_enum he h
def iEnumT (K : PySem.W.Frag) (ta : TA) : TI := fun σ H R => ta σ H fun vs H1 => ∃ a xs, vs = [.ref a] ∧ SqT K H1 a xs ∧ R (Ite K a) H1
theorem pi_enumT {X : Cx} {e : Expr} {ta : TA} {p pos tpos : Pos} {elts : List Expr} {kk : Nat} (hg : Gl X "enumerate") (hm : X.mg "enumerate" = none) (ha : PA X [e] ta) (hs : starEach [e] X.env = [(false, eval e X.env)] := by rfl) :
    PI X (.Tuple elts kk tpos) (.Call (.Name "enumerate" p) [e] [] pos) (iEnumT X.K ta) := by
  refine ⟨fun pins s σ H R I h => ?_⟩
  refine Call_ (ld_blt I hg hm boot_enumerate (PyProof.Rows.callWith_type1 (thn (ha.run pos pins s σ H _ I h) fun us s1 ⟨vs, H1, I1, r1, a, xs, ex, hq, q⟩ => ?_) hs rfl))
  subst ex
  obtain rfl := Vals.ref1 r1
  obtain ⟨its, rv, pt, hz⟩ := I1.tuple hq
  have hal : a < s1.heap.objs.size := by
    obtain ⟨_, k, _⟩ := pt
    exact Heap.lt_size k
  refine call_enumT pt fun h' he hit hk => wpAny_pyIter_enum he ?_
  have I2 : Inv X pins σ H1 { s1 with heap := h' } := I1.kept (t' := s1.toks) hk
  refine ⟨s1.heap.objs.size + 1, [s1.heap.objs.size + 1, s1.heap.objs.size], _, _, H1, rfl, I2, turn_enumT a (s1.heap.objs.size + 1) s1.heap.objs.size (Nat.ne_of_lt hal) (Nat.succ_ne_self _) (Nat.ne_of_gt (Nat.lt_succ_of_lt hal)), ⟨⟨.none, he⟩, hit⟩, fun b hb => ?_, q⟩
  have hle : s1.heap.objs.size ≤ b := by
    have e' : b = s1.heap.objs.size + 1 ∨ b = s1.heap.objs.size := by simpa using hb
    rcases e' with z | z
    · rw [z]
      exact Nat.le_add_right _ _
    · rw [z]
      exact Nat.le_refl _
  exact I1.fpOk hle (I1.hok.fresh hle)
theorem walk_enumT {K : PySem.W.Frag} {a : Addr} {xs : List V} : Walk (Ite K a) xs.length (fun H => SqT K H a xs) (YPair (fun i => some (.int (i : Nat))) (fun i => xs[i]?)) := by
  refine ⟨fun i _ hi q => ⟨xs, xs[i], q, by simp [hi]⟩, fun _ q => ⟨xs, q, rfl⟩, fun i H v H' _ q y => ?_⟩
  obtain ⟨T, x, h1, h2, h3, h4⟩ := y
  exact ⟨T, .int (i : Nat), x, h1, h2, h3, rfl, h4 xs q⟩
end EnT
set_option Elab.async false
set_option linter.all false
set_option maxRecDepth 100000
set_option maxHeartbeats 4000000
/-! TP: telling_fields, By.plain, == of two orders with the same fields. -/
namespace G
open PySem PySem.Spec PyProof.Rows L2 NdefX StX DvT
abbrev sTell : Stmt := topS 30
abbrev nTell : List Str := ["fields", "found", "field"]
theorem scTell : FnScope nTell ["fields"] (defScope sTell) := ⟨rfl, rfl, rfl, by decide +kernel, rfl, by decide +kernel, by decide +kernel⟩
theorem scByE : FnScope ["self", "other"] ["self", "other"] (defScope (sBy 7)) := ⟨rfl, rfl, rfl, by decide +kernel, rfl, by decide +kernel, by decide +kernel⟩
def spTell : Sp := fun vs H Q _ => ∃ (t : Addr) (fs : List Fld), vs = [.ref t] ∧ H t = some (.tup (txs fs)) ∧ fs.length ≤ 3 ∧ (∀ f ∈ fs, f.Ok) ∧
  ∀ (p : Addr) (H' : Hp), Same H H' → H p = none → H' p = some (.lst (txs (plain fs))) → Q (.ref p) H'
def spByP (C : Addr) : Sp := fun vs H Q _ => ∃ (a t : Addr) (fs : List Fld), vs = [.ref a] ∧ ByAt C H a t fs ∧ 1 ≤ fs.length ∧ fs.length ≤ 3 ∧ (∀ f ∈ fs, f.Ok) ∧
  ∀ (a2 t2 : Addr) (H' : Hp), H a2 = none → H t2 = none → ByAt C H' a2 t2 (plain fs) → Same H H' → Q (.ref a2) H'
def spByE (C : Addr) : Sp := fun vs H Q _ => ∃ (a t a2 t2 : Addr) (fs : List Fld), vs = [.ref a, .ref a2] ∧ ByAt C H a t fs ∧ ByAt C H a2 t2 fs ∧ (∀ f ∈ fs, f.Ok) ∧ Q (.bl true) H
/-- what the dict holds -/
def tellK (l : List Fld) : List (Key × V) := l.map fun f => (Sum.inr f.nm, V.str f.tx)
theorem tell_val (z : Str) : ∀ l : List Fld, (valV (tellK l) (Sum.inr z) = none ∧ z ∉ l.map (·.nm)) ∨ (∃ v, valV (tellK l) (Sum.inr z) = some v) ∧ z ∈ l.map (·.nm)
  | [] => .inl ⟨rfl, fun h => nomatch h⟩
  | f :: l => by
    by_cases h : f.nm = z
    · right
      refine ⟨⟨V.str f.tx, ?_⟩, ?_⟩
      · unfold valV tellK
        simp [h]
      · rw [List.map_cons, h]
        exact List.mem_cons_self
    · have e : valV (tellK (f :: l)) (Sum.inr z) = valV (tellK l) (Sum.inr z) := by
        unfold valV tellK
        simp [h]
      rw [e, List.map_cons]
      rcases tell_val z l with ⟨h1, h2⟩ | ⟨h1, h2⟩
      · exact .inl ⟨h1, fun k => (List.mem_cons.mp k).elim (fun k => h k.symm) h2⟩
      · exact .inr ⟨h1, List.mem_cons_of_mem _ h2⟩
theorem take_snoc {α : Type} {l : List α} {i : Nat} {x : α} (h : l[i]? = some x) : l.take (i + 1) = l.take i ++ [x] := by
  obtain ⟨lt, rfl⟩ := List.getElem?_eq_some_iff.mp h
  rw [List.take_succ, List.getElem?_eq_getElem lt]
  rfl
theorem eqv_flds : ∀ fs : List Fld, PyData.eqvAll (fs.map fun f => PyData.str f.tx) (fs.map fun f => PyData.str f.tx) = true
  | [] => by simp [PyData.eqvAll]
  | f :: fs => by simp [PyData.eqvAll, PyData.eqv, eqv_flds fs]
theorem eqv_tup (fs : List Fld) : PyData.eqv (.tuple (fs.map fun f => PyData.str f.tx)) (.tuple (fs.map fun f => PyData.str f.tx)) = true := by
  simp [PyData.eqv, eqv_flds fs]
section
variable {P : Program} {w : World} {K : PySem.W.Frag} {mg : Str → Option Value} {base : Heap}
theorem ok_tell {f : Addr} {fd : FuncData} (F : Fun K "telling_fields" "telling_fields" sTell f fd) (mL : mg "list" = none) : FnOk P w K mg base CX0 1 f fd ["fields"] spTell := by
  refine F.ok scTell (fun vs H Q E h => ?_) (fun cdv A outer s H vs Q E hr h => ?_)
  · obtain ⟨t, fs, rfl, _⟩ := h
    rfl
  · obtain ⟨t, fs, rfl, ht, l3, hz, q⟩ := h
    refine ⟨_, pss_cons (ps_set (i := 1) scTell.nd rfl (.inl rfl) pe_dnewK)
      (pss_cons (ps_for PassesOwn.never rfl (pi_tup (pv 0)) (pg_name (i := 2) scTell.nd rfl (.inl rfl))
        (pss_one (ps_expr (pe_dsetd (pv 1) (pe_m1 PySem.F.slot_str_removeprefix PySem.F.type_str_removeprefix mt_removeprefix (pv 2) pe_str) (pv 2) ⟨rfl, rfl, rfl, rfl⟩))))
      (pss_one (ps_ret (pe_valsK rfl (pv 1) (by rfl) mL (by decide +kernel))))), ?_⟩
    intro d hd
    have ntd : t ≠ d := ne_of_none ht hd
    have s0 : Same H (upd H d (.dK [])) := Same.new hd
    refine ⟨_, rfl, t, rfl, ⟨_, .of (s0 _ _ ht)⟩, ?_⟩
    refine for_tup (xs := txs fs) (fun i σ H2 => ∃ x2 : Option V, σ = [some (.ref t), some (.ref d), x2] ∧ Same H H2 ∧ H2 d = some (.dK (tellK (plain (fs.take i))))) ?_ ?_ ?_ ?_
    · exact ⟨none, rfl, s0, upd_same⟩
    · rintro i σ H2 _ ⟨x2, rfl, s2, _⟩
      exact .of (s2 _ _ ht)
    · rintro i x σ H2 hx ⟨x2, rfl, s2, e2⟩
      rw [List.getElem?_map] at hx
      obtain ⟨y, hy, rfl⟩ := Option.map_eq_some_iff.mp hx
      have okY := hz y (List.mem_of_getElem? hy)
      have h9 := okY.len
      have hpl : (tellK (plain (fs.take i))).length ≤ 3 := by
        unfold tellK plain
        rw [List.length_map]
        have := pl_len (fs.take i) []
        rw [List.length_take] at this
        omega
      have es := plain_snoc y (fs.take i)
      rw [← take_snoc hy] at es
      refine ⟨_, rfl, d, rfl, .inl ⟨_, .inl e2⟩, _, rfl, ⟨_, rfl⟩, y.tx, _, rfl, rfl, small_size (by omega), ?_⟩
      rw [okY.bare]
      refine ⟨_, rfl, _, Sum.inr y.nm, e2, rfl, small1000 (by omega), fun v hv => ?_, fun hn => ?_⟩
      · have hin : y.nm ∈ (fs.take i).map (·.nm) := by
          rcases tell_val y.nm (plain (fs.take i)) with ⟨h1, _⟩ | ⟨_, h2⟩
          · rw [h1] at hv
            cases hv
          · exact plain_names.mp h2
        rw [if_pos hin, List.append_nil] at es
        refine ⟨_, rfl, s2, ?_⟩
        rw [es]
        exact e2
      · have hin : y.nm ∉ (fs.take i).map (·.nm) := by
          rcases tell_val y.nm (plain (fs.take i)) with ⟨_, h2⟩ | ⟨⟨v, h1⟩, _⟩
          · exact fun z => h2 (plain_names.mpr z)
          · rw [h1] at hn
            cases hn
        rw [if_neg hin] at es
        refine ⟨_, rfl, fun c o e => (upd_ne (ne_of_none e hd)).trans (s2 _ _ e), ?_⟩
        rw [upd_same, putK_new _ hn, es]
        unfold tellK
        rw [List.map_append]
        rfl
    · rintro σ H2 ⟨x2, rfl, s2, e2⟩
      rw [List.length_map, List.take_length] at e2
      refine ⟨_, rfl, d, _, rfl, e2, fun p np => q p _ (s2.trans (Same.new np)) (s2.free np) ?_⟩
      rw [upd_same]
      unfold tellK
      rw [List.map_map]
      rfl
/-- C(*y) -/
def tMakeS (K : PySem.W.Frag) (C : Addr) (sp : Sp) (te : TE) : TE := fun σ H Q => te σ H fun y H1 => ∃ a xs, y = V.ref a ∧ (SqT K H1 a xs ∨ SqL K H1 a xs) ∧ ∀ x dx, H1 x = none → H1 dx = none → dx ≠ x → sp (V.ref x :: xs) (upd (upd H1 dx (.own x)) x (.ins C dx [])) (fun v H2 => v = .non ∧ Q (.ref x) H2) E0
theorem pe_makeS {k : Nat} {f C : Addr} {x : Str} {e : Expr} {p pos sp_ : Pos} {Y : Cx} {sp : Sp} {te : TE} (M : Mk Y.K C f) (F : FnR Y.prog Y.w Y.K Y.mg Y.base CX0 k f sp) (hr : Room (k + 1) Y.A) (hg : Gl Y x) (hm : Y.mg x = some (.ref C)) (he : PE Y e te) (hd : (x == ("__debug__" : Str)) = false := by decide) (hst : starEach [.Starred e sp_] Y.env = [(true, eval e Y.env)] := by rfl) :
    PE Y (.Call (.Name x p) [.Starred e sp_] [] pos) (tMakeS Y.K C sp te) := by
  refine ⟨fun pins s σ H Q I h => wpAny_Call_Name_kw (ld_glob I hg hm (PySem.W.callWith_S (h₀ := Y.base) I.ok.mod.kin M.kp (thn (he.run pins s σ H _ I h) fun v s1 ⟨y, H1, I1, ry, a, xs, ey, hxs, q⟩ => ?_) hst) hd)⟩
  subst ey
  obtain rfl : v = Value.ref a := ry
  exact star_any I1 hxs fun us s2 I2 rv => ⟨I2.kIn, run_makeR M F hr pass0 I2 rv q⟩
end
end G
set_option Elab.async false
set_option linter.all false
set_option maxRecDepth 100000
set_option maxHeartbeats 2000000
/-! Q1: == and != by an own __eq__ with both answers, the right side of any kind. -/
namespace G
open PySem PySem.Spec PyProof.Rows L2
open Builtin in
theorem entry_ne {prog : Program} {w : World} {A : Around} {E : Value → Shared → Prop} {s : Shared} {K : PySem.W.Frag} {x C f : Addr} {ox : Obj} {od : Option Obj} {b : Value} {Q : Fin → Shared → Prop}
    (X : K.In s.heap) (I : PySem.W.InstAt s.heap x ox C od) (hu : A.units < cLine) (hs : PySem.W.findIn K (.ref C) "__eq__" = some (some (.ref f))) (hf : PySem.W.isFn K (.ref f) = true)
    (hcall : wpAny (model prog w) A (call (.ref f) [.ref x, b]) (fun v s' => ∃ k, v = .bool k ∧ Q (.done (.ret (.bool (!k)))) s') E s) :
    wpAny (model prog w) A (Builtin.«object.__ne__» ⟨[.ref x, b], []⟩) Q E s := by
  unfold Builtin.«object.__ne__»
  repeat (first
    | with_reducible refine wpAny_cRoomFor hu ?_
    | (refine wpAny_bind (m := callSpecialIfBound? (.ref x) (Str.ofString "__eq__") [b])
        (PySem.W.ifBound_K X I hs hf (wpAny_mono hcall (fun r s' hr => by
          obtain ⟨k, rfl, hq⟩ := hr
          repeat (first | exact hq | exact wpAny_pure hq | exact wpAny_truthy_bool hq | (refine wpAny_bind (m := truthy (.bool _)) (wpAny_truthy_bool ?_)) | wp_step)) fun _ _ e => e)))
    | wp_step)
/-- what == and != ask of the class at C -/
structure EqO (K : PySem.W.Frag) (C f : Addr) : Prop where
  eq : PySem.W.findIn K (.ref C) "__eq__" = some (some (.ref f))
  fn : PySem.W.isFn K (.ref f) = true
  ne : PySem.W.findIn K (.ref C) "__ne__" = some (some (.builtin "object.__ne__"))
  ob : PySem.W.mroIn K C (.type "object") = some true
theorem ne_K {prog : Program} {w : World} {A : Around} {E : Value → Shared → Prop} {s : Shared} {K : PySem.W.Frag} {x C L f : Addr} {h₀ : Heap} {m : Str → Option Value} {ox : Obj} {od : Option Obj} {b tb : Value} {Q : Value → Shared → Prop} (hu : A.units + 1 < cLine) (hFr : Fr h₀ L s.heap m) (X₀ : K.In h₀)
    (I : PySem.W.InstAt s.heap x ox C od) (hb : PySem.W.Looks (model prog w) s.heap (typeOf b) tb) (hn : PySem.W.notFirst K C tb = true) (e : EqO K C f)
    (h : wpAny (model prog w) A.in1 (call (.ref f) [.ref x, b]) (fun v s' => ∃ k, v = .bool k ∧ Q (.bool (!k)) s') E s) : wpAny (model prog w) A (richCompare .NotEq (.ref x) b) Q E s := by
  have X := X₀.keeps hFr.keep
  have sp : PySem.W.Looks (model prog w) s.heap (specialOf (.ref x) "__ne__") (some (.builtin "object.__ne__")) := I.type.andThen (PySem.W.looks_findIn X e.ne)
  have iv : PySem.W.Looks (model prog w) s.heap (isInstance (.ref x) (.type "object")) true := I.type.andThen (PySem.W.looks_mroIn X e.ob)
  have one : wpAny (model prog w) A (tryCompare (.ref x) "__ne__" b) (fun r s' => ∃ v, r = some v ∧ Q v s') E s := by
    unfold tryCompare
    refine wpAny_bind (NtL.csib sp (F.cmp_object.ne.bind _) (wpAny_call (codeAny_call_builtin F.cmp_object.ne.plain F.cmpEntry_ne
      (PySem.W.check_slot F.cmpKind_ne F.cmpSplit_ne iv (F.cmpArgs_ne _ _) (entry_ne (A := A.in1) X I hu e.eq e.fn (wpAny_mono h (fun v s' hv => ?_) fun _ _ z => z))))))
    obtain ⟨k, rfl, hq⟩ := hv
    first | exact ⟨k, rfl, wpAny_pure ⟨_, rfl, hq⟩⟩ | exact ⟨k, rfl, _, rfl, hq⟩
  unfold richCompare
  simp only [oneThing_ref]
  refine wpAny_holding (wpAny_bind (wpAny_cRoomFor (Nat.lt_of_succ_lt hu) ?_))
  rw [cmpInfo_NotEq]
  dsimp only
  refine wpAny_bind (I.type.here (wpAny_bind (hb.here ?_)))
  split
  · rename_i q
    have e : PySem.W.subIn K tb (.ref C) = some false := by
      rcases Bool.or_eq_true_iff.mp hn with e | e
      · rw [beq_iff_eq.mp e] at q; simp at q
      · exact beq_iff_eq.mp e
    refine wpAny_bind ((PySem.W.looks_subIn X e).here ?_)
    simp only [Bool.false_eq_true, if_false]
    refine wpAny_bind (wpAny_mono one (fun r s' z => ?_) fun _ _ e => e)
    obtain ⟨v, rfl, hq⟩ := z
    exact wpAny_pure hq
  · refine wpAny_bind (wpAny_pure ?_)
    simp only [Bool.false_eq_true, if_false]
    refine wpAny_bind (wpAny_mono one (fun r s' z => ?_) fun _ _ e => e)
    obtain ⟨v, rfl, hq⟩ := z
    exact wpAny_pure hq
/-- the kinds of things on the right -/
inductive Oth (H : Hp) : V → Value → Prop where
  | non : Oth H .non (.type "NoneType")
  | int (i : Int) : Oth H (.int i) (.type "int")
  | str (z : Str) : Oth H (.str z) (.type "str")
  | lst {a : Addr} {xs : List V} (e : H a = some (.lst xs)) : Oth H (.ref a) (.type "list")
  | tup {a : Addr} {xs : List V} (e : H a = some (.tup xs)) : Oth H (.ref a) (.type "tuple")
  | ins {a C dx : Addr} {fs : List (Str × V)} (e : H a = some (.ins C dx fs)) : Oth H (.ref a) (.ref C)
  | dic {a : Addr} {ks : List (Key × V)} (e : H a = some (.dK ks)) : Oth H (.ref a) (.type "dict")
theorem insX_at {X : Cx} {pins : List (Addr × Obj)} {σ : L2.St} {H : Hp} {s : Shared} {a C dx : Addr} {fs : List (Str × V)} (I : Inv X pins σ H s) (h : H a = some (.ins C dx fs)) : ∃ ox od, PySem.W.InstAt s.heap a ox C od := by
  obtain ⟨mA, O, _⟩ := ins_get I.hok h
  obtain ⟨od, J, _⟩ := O.look
  exact ⟨_, _, J⟩
theorem oth_looks {X : Cx} {pins : List (Addr × Obj)} {σ : L2.St} {H : Hp} {s : Shared} {x : V} {u t : Value} (I : Inv X pins σ H s) (rx : RelV x u) (o : Oth H x t) (M : Model) : PySem.W.Looks M s.heap (typeOf u) t := by
  cases o with
  | non => cases (show u = Value.none from rx); exact .of_pure rfl
  | int i => obtain ⟨t, q⟩ := (show ∃ t, u = Value.int i t from rx); cases q; exact .of_pure rfl
  | str y => obtain ⟨t, q⟩ := (show ∃ t, u = Value.str y t from rx); cases q; exact .of_pure rfl
  | @lst a xs ea =>
    cases (show u = Value.ref a from rx)
    obtain ⟨_, _, n, _, h1⟩ := (show ObjOk X.prog X.w H s.heap a (.lst xs) from I.hok a _ ea)
    exact (PySem.W.Looks.ld h1).andThen .now
  | @tup a xs ea =>
    cases (show u = Value.ref a from rx)
    obtain ⟨_, _, _, o, h1, h2, _⟩ := (show ObjOk X.prog X.w H s.heap a (.tup xs) from I.hok a _ ea)
    rw [← h2]
    exact (PySem.W.Looks.ld h1).andThen .now
  | @ins a C dx fs ea =>
    cases (show u = Value.ref a from rx)
    obtain ⟨ox, od, J⟩ := insX_at I ea
    exact J.type
  | @dic a ks ea =>
    cases (show u = Value.ref a from rx)
    obtain ⟨_, _, _, _, o, _, _, h1, h2, _⟩ := (show ObjOk X.prog X.w H s.heap a (.dK ks) from I.hok a _ ea)
    rw [← h2.1]
    exact (PySem.W.Looks.ld h1).andThen .now
section
variable {X : Cx} {C g : Addr} {fd : FuncData} {ps : List Str} {n : Nat} {sp : Sp} {E : XK}
def rEqB (K : PySem.W.Frag) (C : Addr) (sp : Sp) (E : XK) (pos : Bool) : R2 := fun x y H Q => ∃ a dx fs t, x = .ref a ∧ H a = some (.ins C dx fs) ∧ Oth H y t ∧ PySem.W.notFirst K C t = true ∧ sp [x, y] H (fun v H' => ∃ k : Bool, v = .bl k ∧ Q (.bl (cond pos k (!k))) H') E
theorem op_eqB (e : EqO X.K C g) (hb : Binds X.K fd ps []) (F : FnOk X.prog X.w X.K X.mg X.base CX0 n g fd ps sp) (hr : Room n X.A) (hx : Passes CX0 X E) : OpR X (compareOp .Eq) (rEqB X.K C sp E true) := by
  intro pins s σ H x y v u Q I rx ry h
  obtain ⟨a, dx, fs, t, rfl, ha, ho, hn, q⟩ := h
  cases (show v = Value.ref a from rx)
  obtain ⟨ox, od, J⟩ := insX_at I ha
  obtain ⟨m, hF⟩ := I.fr
  refine PySem.W.cmp_K (op := .Eq) hr.units0 hF I.ok.mod.kin J (oth_looks I ry ho _) hn e.eq e.fn ?_
  refine wpAny_mono (run_fn (us := [.ref a, u]) (vs := [.ref a, y]) F hr hb .nil hx I (.cons rfl (.cons ry .nil)) q) (fun w s' z => ?_) fun _ _ x => x
  obtain ⟨z', H', I', rz, k, rfl, qz⟩ := z
  exact SlX.cmpback rz ⟨.bl k, H', I', rz, qz⟩
theorem op_neB (e : EqO X.K C g) (hb : Binds X.K fd ps []) (F : FnOk X.prog X.w X.K X.mg X.base CX0 n g fd ps sp) (hr : Room (n + 1) X.A) : OpR X (compareOp .NotEq) (rEqB X.K C sp E false) := by
  intro pins s σ H x y v u Q I rx ry h
  obtain ⟨a, dx, fs, t, rfl, ha, ho, hn, q⟩ := h
  cases (show v = Value.ref a from rx)
  obtain ⟨ox, od, J⟩ := insX_at I ha
  obtain ⟨m, hF⟩ := I.fr
  refine ne_K (by have := hr.units; omega) hF I.ok.mod.kin J (oth_looks I ry ho _) hn e ?_
  have hl : ([Value.ref a, u] ++ []).length = ps.length := by
    have := F.len _ _ _ _ q
    exact this
  refine wpAny_call (codeAny_mono (F.run X.A.in1 X.stack s H ⟨[.ref a, u], []⟩ ([.ref a, u] ++ []) [.ref a, y] _ E hr.in1 I.env0.in1 (hb s [.ref a, u] I.kIn hl) (.cons rfl (.cons ry .nil)) q) fun r s' hq => ?_)
  cases r with
  | error e => exact False.elim hq
  | ok fl =>
    cases fl with
    | ret u =>
      obtain ⟨v, H', I2, rv, k, rfl, q⟩ := I.after hq
      obtain rfl : u = Value.bool k := rv
      exact ⟨k, rfl, .bl (!k), H', I2, rfl, q⟩
    | next => exact False.elim hq
    | brk => exact False.elim hq
    | cont => exact False.elim hq
end
end G
set_option Elab.async false
set_option linter.all false
set_option maxRecDepth 100000
set_option maxHeartbeats 2000000
/-! R1: methods, calls and operators of an instance whose class is not known ahead; super().__init__(*xs). -/
namespace G
open PySem PySem.Spec PyProof.Rows L2 NdefX StX

/-- the class at C keeps the promise sp for its method m -/
structure PolyM (P : Program) (w : World) (K : PySem.W.Frag) (mg : Str → Option Value) (base : Heap) (k : Nat) (C : Addr) (m : Str) (sp : Sp) : Prop where
  cl : Cls K C
  ex : ∃ (f : Addr) (fd : FuncData) (ps : List Str), Meth K C m f ∧ Binds K fd ps [] ∧ FnOk P w K mg base CX0 k f fd ps sp
/-- .. for the calls of its instances -/
structure PolyC (P : Program) (w : World) (K : PySem.W.Frag) (mg : Str → Option Value) (base : Heap) (k : Nat) (C : Addr) (sp : Sp) : Prop where
  ex : ∃ (f : Addr) (fd : FuncData) (ps : List Str), CallO K C f ∧ Binds K fd ps [] ∧ FnOk P w K mg base CX0 k f fd ps sp

/-- o.m(e, ..), o an instance of some class that keeps sp -/
def tMethV (X : Cx) (k : Nat) (m : Str) (E : XK) (ta : TE) (t : TA) : TE := fun σ H Q => ta σ H fun x H1 => ∃ (a C dx : Addr) (fs : List (Str × V)) (sp : Sp), x = .ref a ∧ H1 a = some (.ins C dx fs) ∧ PolyM X.prog X.w X.K X.mg X.base k C m sp ∧ fs.lookup m = none ∧ t σ H1 fun vs H2 => sp (.ref a :: vs) H2 Q E
/-- o(e, ..) -/
def tCallV (X : Cx) (k : Nat) (E : XK) (ta : TE) (t : TA) : TE := fun σ H Q => ta σ H fun x H1 => ∃ (a C : Addr) (sp : Sp), x = .ref a ∧ PolyC X.prog X.w X.K X.mg X.base k C sp ∧ t σ H1 fun vs H2 => InsC X H2 a C ∧ sp (.ref a :: vs) H2 Q E
section
variable {X : Cx} {k : Nat} {E : XK} {m : Str} {pos apos : Pos} {e o fe : Expr} {es : List Expr} {ta : TE} {t : TA}
theorem pe_methV {pl : Sem Bool} (he : PE X o ta) (hr : Room k X.A) (hx : Passes CX0 X E) (ha : PA X (e :: es) t)
    (hst : starEach (e :: es) X.env = (false, eval e X.env) :: starEach es X.env := by rfl) (hpl : (backTo pos (starEach es X.env)).any (·.1) = false := by rfl)
    (ht : eval (.Call (.Attribute o m apos) (e :: es) [] pos) X.env = (eval o X.env >>= fun ov => standAt apos.atName >>= fun _ => holding [ov] (getMethod ov m pl) >>= fun q => callWith pos q.1 q.2 (backTo pos (starEach (e :: es) X.env)) (backToKw pos (keywordEach [] X.env))) := by rfl) :
    PE X (.Call (.Attribute o m apos) (e :: es) [] pos) (tMethV X k m E ta t) := by
  refine ⟨fun pins s σ H Q I h => ?_⟩
  refine PySem.W.methodCall_KW (pl := pl) (thn (he.run pins s σ H _ I h) fun u s1 ⟨x, H1, I1, rx, a, C, dx, fs, sp, ex, ea, pm, l, q⟩ => ?_) ht
  subst ex
  obtain rfl : u = Value.ref a := rx
  obtain ⟨f, fd, ps, hm, hb, F⟩ := pm.ex
  refine getmeth_ok I1 ea pm.cl hm l ?_
  refine PySem.W.callWith_K (h₀ := X.base) (first := [.ref a]) I.ok.mod.kin hm.kp (thn (ha.run pos pins s1 σ H1 _ I1 q) fun us s2 ⟨vs, H2, I2, r, q2⟩ => ⟨I2.kIn, ?_⟩) hst hpl
  exact run_fn (us := .ref a :: us) (vs := .ref a :: vs) F hr hb .nil hx I2 (.cons rfl r) (by rw [List.append_nil]; exact q2)
theorem pe_methV0 {pl : Sem Bool} (he : PE X o ta) (hr : Room k X.A) (hx : Passes CX0 X E)
    (ht : eval (.Call (.Attribute o m apos) [] [] pos) X.env = (eval o X.env >>= fun ov => standAt apos.atName >>= fun _ => holding [ov] (getMethod ov m pl) >>= fun q => callWith pos q.1 q.2 (backTo pos (starEach [] X.env)) (backToKw pos (keywordEach [] X.env))) := by rfl) :
    PE X (.Call (.Attribute o m apos) [] [] pos) (tMethV X k m E ta tNil) := by
  refine ⟨fun pins s σ H Q I h => ?_⟩
  refine PySem.W.methodCall_KW (pl := pl) (thn (he.run pins s σ H _ I h) fun u s1 ⟨x, H1, I1, rx, a, C, dx, fs, sp, ex, ea, pm, l, q⟩ => ?_) ht
  subst ex
  obtain rfl : u = Value.ref a := rx
  obtain ⟨f, fd, ps, hm, hb, F⟩ := pm.ex
  refine getmeth_ok I1 ea pm.cl hm l ?_
  exact PySem.W.callWith_K0 (first := [.ref a]) I1.kIn hm.kp (run_fn (us := [.ref a]) (vs := [.ref a]) F hr hb .nil hx I1 (.cons rfl .nil) q)
theorem pe_callV (hf : PE X fe ta) (hr : Room k X.A) (hx : Passes CX0 X E) (ha : PA X (e :: es) t)
    (ht : eval (.Call fe (e :: es) [] pos) X.env = (eval fe X.env >>= fun g => callWith pos g [] (backTo pos (starEach (e :: es) X.env)) (backToKw pos (keywordEach [] X.env))) := by rfl)
    (he : starEach (e :: es) X.env = (false, eval e X.env) :: starEach es X.env := by rfl) (hpl : (backTo pos (starEach es X.env)).any (·.1) = false := by rfl) : PE X (.Call fe (e :: es) [] pos) (tCallV X k E ta t) := by
  refine ⟨fun pins s σ H Q I h => ?_⟩
  refine Call_ (thn (hf.run pins s σ H _ I h) fun u s1 ⟨y, H1, I1, ry, a, C, sp, ey, pc, q⟩ => ?_) ht
  subst ey
  obtain rfl : u = Value.ref a := ry
  obtain ⟨f, fd, ps, c, hb, F⟩ := pc.ex
  refine callO_with (thn (ha.run pos pins s1 σ H1 _ I1 q) fun us s2 ⟨vs, H2, I2, r, hi, q2⟩ => ?_) he hpl
  obtain ⟨ox, od, J, hd⟩ := insC_at I2 hi
  exact ⟨⟨C, ox, od, J, hd⟩, run_callO c (F.raw hb .nil) hr hx I2 hi r (by simpa using q2)⟩
end

/-! ### a sign between two instances of own classes -/
/-- the class at C has the sign's method (and no reflected one) -/
structure OpO (K : PySem.W.Frag) (C : Addr) (op : Operator) (f : Addr) : Prop where
  first : PySem.W.selfFirst K C = true
  at_ : PySem.W.findIn K (.ref C) (PySem.dunder op.info.2) = some (some (.ref f))
  fn : PySem.W.isFn K (.ref f) = true
  ref_ : PySem.W.findIn K (.ref C) (dunderR op.info.2) = some none
theorem bin_own {prog : Program} {w : World} {A : Around} {E : Value → Shared → Prop} {s : Shared} {K : PySem.W.Frag} {x y C C2 f g : Addr} {ox oy : Obj} {od od2 : Option Obj} {op : Operator} {Q : Value → Shared → Prop} (X : K.In s.heap)
    (I : PySem.W.InstAt s.heap x ox C od) (J : PySem.W.InstAt s.heap y oy C2 od2) (o1 : OpO K C op f) (o2 : OpO K C2 op g) (hs : C = C2 ∨ PySem.W.subIn K (.ref C2) (.ref C) = some false)
    (h : wpAny (model prog w) A (call (.ref f) [.ref x, .ref y]) (PySem.W.CmpBack Q) E s) : wpAny (model prog w) A (binaryOp op (.ref x) (.ref y)) Q E s := by
  obtain ⟨cd1, rest1, hc1, hm1⟩ := PySem.W.ksp_first o1.first
  obtain ⟨cd2, rest2, hc2, hm2⟩ := PySem.W.ksp_first o2.first
  have a1 := o1.at_
  have a2 := o2.at_
  have r1 := o1.ref_
  have r2 := o2.ref_
  rcases hi : op.info with ⟨sym, nm⟩
  rw [hi] at a1 a2 r1 r2
  dsimp only at a1 a2 r1 r2
  have one := PySem.W.ksp_try X I a1 o1.fn h
  obtain ⟨hh, gs, d, tt, os⟩ := s
  have L1 : PySem.W.Looks (model prog w) hh (typeOf (.ref x)) (.ref C) := I.type
  have L2 : PySem.W.Looks (model prog w) hh (typeOf (.ref y)) (.ref C2) := J.type
  have L3 : PySem.W.Looks (model prog w) hh (fillsNumberSlot (.ref C) nm) true := PySem.W.fills_K X hc1 hm1 a1
  have L4 : PySem.W.Looks (model prog w) hh (fillsNumberSlot (.ref C2) nm) true := PySem.W.fills_K X hc2 hm2 a2
  have L6 : PySem.W.Looks (model prog w) hh (numberSlotInPython (.ref C) nm) true := PySem.W.ksp_inPy X a1 r1 (.inl rfl)
  have L7 : PySem.W.Looks (model prog w) hh (numberSlotInPython (.ref C2) nm) true := PySem.W.ksp_inPy X a2 r2 (.inl rfl)
  simp only [binaryOp, hi]
  refine wpAny_holding (wpAny_bind ?_)
  unfold binaryOp1
  refine wpAny_bind (L1.at (wpAny_bind (L2.at (wpAny_bind (L3.at ?_)))))
  by_cases e : C = C2
  · have hne : (Value.ref C == Value.ref C2) = true := by
      rw [e]
      exact beq_self_eq_true _
    simp only [hne, if_true]
    ksp_lk
    refine wpAny_mono one (fun r s' hr' => ?_) fun _ _ z => z
    obtain ⟨v, rfl, hq⟩ := hr'
    ksp_lk
    exact hq
  · have hne : (Value.ref C == Value.ref C2) = false := Bool.eq_false_iff.mpr fun q => e (by
      have := beq_iff_eq.mp q
      injection this)
    have hs2 : PySem.W.subIn K (.ref C2) (.ref C) = some false := hs.resolve_left e
    have L5 : PySem.W.Looks (model prog w) hh (isSubtype (.ref C2) (.ref C)) false := PySem.W.looks_subIn X hs2
    simp only [hne, Bool.false_eq_true, if_false]
    ksp_lk
    refine wpAny_mono one (fun r s' hr' => ?_) fun _ _ z => z
    obtain ⟨v, rfl, hq⟩ := hr'
    ksp_lk
    exact hq
theorem insO_at {X : Cx} {pins : List (Addr × Obj)} {σ : L2.St} {H : Hp} {s : Shared} {a C dx : Addr} {fs : List (Str × V)} (I : Inv X pins σ H s) (h : H a = some (.ins C dx fs)) : ∃ ox od, PySem.W.InstAt s.heap a ox C od ∧ ox.data = .plain :=
  insC_at I (.inr ⟨dx, fs, h⟩)
/-- two classes under one sign: what the class at C does with one of the class at C2 -/
structure PolyO (P : Program) (w : World) (K : PySem.W.Frag) (mg : Str → Option Value) (base : Heap) (k : Nat) (C C2 : Addr) (op : Operator) (sp : Sp) : Prop where
  ex : ∃ (f g : Addr) (fd : FuncData) (ps : List Str), OpO K C op f ∧ OpO K C2 op g ∧ (C = C2 ∨ PySem.W.subIn K (.ref C2) (.ref C) = some false) ∧ Binds K fd ps [] ∧ FnOk P w K mg base CX0 k f fd ps sp
def rOwn (X : Cx) (k : Nat) (op : Operator) (sp : Sp) (E : XK) : R2 := fun x y H Q => ∃ a b C C2 dx dy fs gs, x = .ref a ∧ y = .ref b ∧ H a = some (.ins C dx fs) ∧ H b = some (.ins C2 dy gs) ∧ PolyO X.prog X.w X.K X.mg X.base k C C2 op sp ∧
  sp [.ref a, .ref b] H (fun v H' => (∃ r, v = .ref r) ∧ Q v H') E
theorem op_own {X : Cx} {k : Nat} {sp : Sp} {E : XK} (op : Operator) (hr : Room k X.A) (hx : Passes CX0 X E) : OpR X (binaryOp op) (rOwn X k op sp E) := by
  intro pins s σ H x y v u Q I rx ry h
  obtain ⟨a, b, C, C2, dx, dy, fs, gs, rfl, rfl, ha, hb, po, q⟩ := h
  obtain rfl : v = Value.ref a := rx
  obtain rfl : u = Value.ref b := ry
  obtain ⟨f, g, fd, ps, o1, o2, hs, hbd, F⟩ := po.ex
  obtain ⟨ox, od, J1, _⟩ := insO_at I ha
  obtain ⟨oy, od2, J2, _⟩ := insO_at I hb
  refine bin_own I.kIn J1 J2 o1 o2 hs (thn (run_fn (us := [.ref a, .ref b]) (vs := [.ref a, .ref b]) F hr hbd .nil hx I (.cons rfl (.cons rfl .nil)) q) fun r s' z => ?_)
  obtain ⟨v, H', I', rv, ⟨p, rfl⟩, q'⟩ := z
  obtain rfl : r = Value.ref p := rv
  exact ⟨V.ref p, H', I', rfl, q'⟩
/-! ### ~x -/
structure PolyU (P : Program) (w : World) (K : PySem.W.Frag) (mg : Str → Option Value) (base : Heap) (k : Nat) (C : Addr) (sp : Sp) : Prop where
  ex : ∃ (f : Addr) (fd : FuncData) (ps : List Str), PySem.W.findIn K (.ref C) "__invert__" = some (some (.ref f)) ∧ PySem.W.isFn K (.ref f) = true ∧ Binds K fd ps [] ∧ FnOk P w K mg base CX0 k f fd ps sp
def rInv (X : Cx) (k : Nat) (sp : Sp) (E : XK) : V → Hp → VK → Prop := fun x H Q => ∃ a C dx fs, x = .ref a ∧ H a = some (.ins C dx fs) ∧ PolyU X.prog X.w X.K X.mg X.base k C sp ∧ sp [.ref a] H Q E
theorem inv_own {M : Model} {A : Around} {E : Value → Shared → Prop} {s : Shared} {K : PySem.W.Frag} {x C f : Addr} {ox : Obj} {od : Option Obj} {Q : Value → Shared → Prop} (X : K.In s.heap) (I : PySem.W.InstAt s.heap x ox C od)
    (hs : PySem.W.findIn K (.ref C) "__invert__" = some (some (.ref f))) (hf : PySem.W.isFn K (.ref f) = true) (h : wpAny M A (call (.ref f) [.ref x]) Q E s) : wpAny M A (unaryOp .Invert (.ref x)) Q E s := by
  unfold unaryOp
  refine wpAny_holding (wpAny_bind (PySem.W.special_fn X I hs (beq_iff_eq.mp hf) (thn h fun _ _ z => ?_)))
  exact wpAny_pure z
theorem un_own {X : Cx} {k : Nat} {sp : Sp} {E : XK} (hr : Room k X.A) (hx : Passes CX0 X E) : UnR X (unaryOp .Invert) (rInv X k sp E) := by
  intro pins s σ H x v Q I rx h
  obtain ⟨a, C, dx, fs, rfl, ha, pu, q⟩ := h
  obtain rfl : v = Value.ref a := rx
  obtain ⟨f, fd, ps, h1, h2, hb, F⟩ := pu.ex
  obtain ⟨ox, od, J, _⟩ := insO_at I ha
  exact inv_own I.kIn J h1 h2 (run_fn (us := [.ref a]) (vs := [.ref a]) F hr hb .nil hx I (.cons rfl .nil) q)
end G
set_option Elab.async false
set_option linter.all false
set_option maxRecDepth 100000
set_option maxHeartbeats 2000000
/-! O1: x in o, o[i], for x in o, len(o) by a class's own methods. -/
namespace G
open PySem PySem.Spec PyProof.Rows L2
/-- the class at C has its own m, the def at f -/
structure OwnM (K : PySem.W.Frag) (C : Addr) (m : Str) (f : Addr) : Prop where
  at_ : PySem.W.findIn K (.ref C) m = some (some (.ref f))
  fn : PySem.W.isFn K (.ref f) = true
section
variable {prog : Program} {w : World} {A : Around} {E : Value → Shared → Prop} {s : Shared} {K : PySem.W.Frag} {x C f : Addr} {ox : Obj} {od : Option Obj} {y : Value}
theorem in_own {Q : Bool → Shared → Prop} (X : K.In s.heap) (I : PySem.W.InstAt s.heap x ox C od) (e : OwnM K C "__contains__" f) (h : wpAny (model prog w) A (call (.ref f) [.ref x, y]) (fun v s' => ∃ b, v = .bool b ∧ Q b s') E s) :
    wpAny (model prog w) A (contains (.ref x) y) Q E s := by
  have sp : PySem.W.Looks (model prog w) s.heap (specialOf (.ref x) "__contains__") (some (.ref f)) := I.type.andThen (PySem.W.looks_findIn X e.at_)
  have hf := beq_iff_eq.mp e.fn
  unfold contains
  refine wpAny_holding ?_
  show wpAny _ _ (specialOf (.ref x) "__contains__" >>= _) _ _ _
  refine wpAny_bind (sp.here ?_)
  rw [if_neg (show ¬ ((some (Value.ref f) == some Value.none) = true) from Bool.false_ne_true)]
  unfold callSpecialUnlessNone?
  refine wpAny_bind (wpAny_bind (sp.here (wpAny_holding (wpAny_bind ((PySem.W.bind_fn X _ hf).here ?_)))))
  dsimp only
  rw [if_neg (show ¬ ((Value.ref f == Value.none) = true) from Bool.false_ne_true)]
  refine wpAny_bind (wpAny_mono h (fun v s' z => ?_) fun _ _ z => z)
  obtain ⟨b, rfl, q⟩ := z
  exact wpAny_pure (wpAny_truthy_bool q)
end
end G
set_option Elab.async false
set_option linter.all false
set_option maxRecDepth 100000
set_option maxHeartbeats 2000000
/-! O2: rules of x in o, o[i], for x in o. -/
namespace G
open PySem PySem.Spec PyProof.Rows L2 ItX
section
variable {X : Cx} {C g : Addr} {fd : FuncData} {ps : List Str} {n : Nat} {sp : Sp} {E : XK}
/-- x in o -/
def rInO (C : Addr) (sp : Sp) (E : XK) (neg : Bool) : R2 := fun x y H Q => ∃ a dx fs, y = .ref a ∧ H a = some (.ins C dx fs) ∧ sp [y, x] H (fun v H' => ∃ k : Bool, v = .bl k ∧ Q (.bl (cond neg (!k) k)) H') E
theorem in_run (e : OwnM X.K C "__contains__" g) (hb : Binds X.K fd ps []) (F : FnOk X.prog X.w X.K X.mg X.base CX0 n g fd ps sp) (hr : Room n X.A) (hx : Passes CX0 X E) {pins : List (Addr × Obj)} {σ : L2.St} {H : Hp} {s : Shared} {a dx : Addr} {fs : List (Str × V)} {x : V} {v : Value} {R : Bool → V → Hp → Prop}
    (I : Inv X pins σ H s) (rx : RelV x v) (ha : H a = some (.ins C dx fs)) {Q : Bool → Shared → Prop} (q : sp [.ref a, x] H (fun v H' => ∃ k : Bool, v = .bl k ∧ R k v H') E)
    (hq : ∀ k s' H', Inv X pins σ H' s' → R k (.bl k) H' → Q k s') : wpAny (model X.prog X.w) X.A (contains (.ref a) v) Q X.xe s := by
  obtain ⟨ox, od, J⟩ := insX_at I ha
  refine in_own I.kIn J e ?_
  refine wpAny_mono (run_fn (us := [.ref a, v]) (vs := [.ref a, x]) F hr hb .nil hx I (.cons rfl (.cons rx .nil)) q) (fun w s' z => ?_) fun _ _ x => x
  obtain ⟨z', H', I', rz, k, rfl, qz⟩ := z
  obtain rfl : w = Value.bool k := rz
  exact ⟨k, rfl, hq k s' H' I' qz⟩
theorem op_inO (e : OwnM X.K C "__contains__" g) (hb : Binds X.K fd ps []) (F : FnOk X.prog X.w X.K X.mg X.base CX0 n g fd ps sp) (hr : Room n X.A) (hx : Passes CX0 X E) : OpR X (compareOp .In) (rInO C sp E false) := by
  intro pins s σ H x y v u Q I rx ry h
  obtain ⟨a, dx, fs, rfl, ha, q⟩ := h
  cases (show u = Value.ref a from ry)
  refine wpAny_bind (in_run (R := fun k v H' => Q (.bl k) H') e hb F hr hx I rx ha q fun k s' H' I' z => ?_)
  exact wpAny_pure ⟨.bl k, H', I', rfl, z⟩
theorem op_ninO (e : OwnM X.K C "__contains__" g) (hb : Binds X.K fd ps []) (F : FnOk X.prog X.w X.K X.mg X.base CX0 n g fd ps sp) (hr : Room n X.A) (hx : Passes CX0 X E) : OpR X (compareOp .NotIn) (rInO C sp E true) := by
  intro pins s σ H x y v u Q I rx ry h
  obtain ⟨a, dx, fs, rfl, ha, q⟩ := h
  cases (show u = Value.ref a from ry)
  refine wpAny_bind (in_run (R := fun k v H' => Q (.bl (!k)) H') e hb F hr hx I rx ha q fun k s' H' I' z => ?_)
  exact wpAny_pure ⟨.bl (!k), H', I', rfl, z⟩
/-- o[i] -/
def tGetO (C : Addr) (sp : Sp) (E : XK) (ta ti : TE) : TE := fun σ H Q => ta σ H fun x H1 => ti σ H1 fun y H2 => ∃ a dx fs, x = .ref a ∧ H2 a = some (.ins C dx fs) ∧ sp [x, y] H2 Q E
theorem pe_getO {e i : Expr} {pos : Pos} {ta ti : TE} (m : OwnM X.K C "__getitem__" g) (hf : PySem.W.fnIn X.K g = true) (hb : Binds X.K fd ps []) (F : FnOk X.prog X.w X.K X.mg X.base CX0 n g fd ps sp) (hr : Room (n + 1) X.A) (he : PE X e ta) (hi : PE X i ti)
    (hsl : ∀ (a : Addr) (v : Value), subscripted i true (.ref a) v = runValue (.builtin "lifetime.subscript" ⟨[.ref a, v], []⟩) := by intro _ _; with_unfolding_all rfl) : PE X (.Subscript e i pos) (tGetO C sp E0 ta ti) := by
  refine ⟨fun pins s σ H Q I h => ?_⟩
  refine Subscript_ (thn (he.run pins s σ H _ I h) fun v s1 ⟨x, H1, I1, r1, q1⟩ => thn (hi.run pins s1 σ H1 _ I1 q1) fun u s2 ⟨y, H2, I2, r2, a, dx, fs, ex, ha, q⟩ => ?_)
  subst ex
  obtain rfl : v = Value.ref a := r1
  obtain ⟨ox, od, J⟩ := insX_at I2 ha
  obtain ⟨mm, hF⟩ := I2.fr
  refine PySem.W.sub_K hF I2.ok.mod.kin J m.at_ hf m.fn ?_ (hsl a u)
  have hl : ([Value.ref a, u] ++ []).length = ps.length := by
    have := F.len _ _ _ _ q
    exact this
  refine wpAny_call (codeAny_mono (F.run X.A.in1 X.stack s2 H2 ⟨[.ref a, u], []⟩ ([.ref a, u] ++ []) [.ref a, y] _ E0 hr.in1 I2.env0.in1 (hb s2 [.ref a, u] I2.kIn hl) (.cons rfl (.cons r2 .nil)) q) fun r s' hq => ?_)
  cases r with
  | error e => exact False.elim hq
  | ok fl =>
    cases fl with
    | ret u => exact I2.after hq
    | next => exact False.elim hq
    | brk => exact False.elim hq
    | cont => exact False.elim hq
end
/-! ### for x in o -/
/-- as FnOk, its promise knows how many objects there were -/
structure FnS (P : Program) (w : World) (K : PySem.W.Frag) (mg : Str → Option Value) (base : Heap) (k : Nat) (f : Addr) (fd : FuncData) (ps : List Str) (sp : Nat → Sp) : Prop where
  go : ∀ (A : Around) (outer : List Env) (s : Shared) (H : Hp) (args : Args) (us : List Value) (vs : List V) (Q : VK) (E : XK),
    Room k A → Env0 P w K mg base A outer s H → BindsTo s fd args (ps.zip us) → Vals vs us → sp s.heap.objs.size vs H Q E → codeAny (model P w) A (.call (.ref f) args) (CR CX0 outer P w H s Q E) s
section
variable {P : Program} {w : World} {K : PySem.W.Frag} {mg : Str → Option Value} {base : Heap}
theorem FnS.of_body {x qual : Str} {st : Stmt} {f : Addr} {fd : FuncData} {N ps : List Str} {k : Nat} {sp : Nat → Sp} (F : Fun K x qual st f fd) (S : FnScope N ps (defScope st))
    (size : ∀ n vs H Q E, sp n vs H Q E → vs.length = ps.length)
    (body : ∀ (cdv : Value) (A : Around) (outer : List Env) (s : Shared) (H : Hp) (vs : List V) (Q : VK) (E : XK),
      Room k (A.deeper (envOfC qual (defScope st) s.heap.objs.size f cdv)) → sp s.heap.objs.size vs H Q E →
      ∃ t, PSs (cxOf CX0 P w K mg base N qual (defScope st) f cdv A outer s H E).nox (defBody st) t ∧ t { nx := fun _ H' => Q .non H', rt := Q } (start N vs) H) :
    FnS P w K mg base (k + 1) f fd ps sp := by
  obtain ⟨_, _, _, _, _, _, cdv, _, _, rfl, lk, hcd⟩ := F.ex
  refine ⟨fun A outer s H args us vs Q E hr e0 hb r h => ?_⟩
  have inS : K.In s.heap := e0.mod.kin.keeps fun b o e => (e0.bs b o e).1
  have noL : s.heap.NoLimit := e0.mod.nolimit.keeps fun b o e => (e0.bs b o e).1
  refine codeAny_call_function hr.depth (inS _ _ lk) rfl S.co S.gen rfl
    (PySem.W.codeRec_of inS hcd) (hb _ _ _ _ ?_)
  refine wpAny_newFunctionEnv_cells S.kind
    (fun ⟨n, v⟩ hy => ?_) fun env he s1 x => ?_
  · rcases S.par n (List.of_mem_zip hy).1 with q | q
    · exact Or.inl q
    · exact Or.inr ⟨q, PySem.W.cellsFrom_some _ _ _ (Or.inl q)⟩
  · subst he
    refine ⟨noL.keeps x.toInCall.keep, codeAny_func ?_⟩
    obtain ⟨t, ht, hq⟩ := body cdv A outer s H vs Q E (hr.deeper _) h
    have J := inv_start (CX := CX0) (P := P) (w := w) (K := K) (mg := mg) (base := base) (E := E) S hr.hd e0 (size _ _ _ _ _ h) r x
    refine wpAny_mono (ht.nox.run [] s1 (start N vs) H _ J hq) (fun fl s' z => ?_) fun e s' z => z
    cases fl with
    | ret u =>
      obtain ⟨v, σ', H', J', rv, q⟩ := z
      exact ⟨v, H', J'.os, J'.bare, J'.base, J'.hok, rv, q⟩
    | next =>
      obtain ⟨σ', H', J', q⟩ := z
      exact ⟨.non, H', J'.os, J'.bare, J'.base, J'.hok, rfl, q⟩
    | brk =>
      obtain ⟨_, _, _, q⟩ := z
      exact q.elim
    | cont =>
      obtain ⟨_, _, _, q⟩ := z
      exact q.elim
end
/-- an __iter__ that gives the iterator of the list in the field fld -/
def spIter (K : PySem.W.Frag) (C : Addr) (fld : Str) (n : Nat) : Sp := fun vs H Q _ => ∃ (a dx l : Addr) (fs : List (Str × V)) (xs : List V), vs = [.ref a] ∧ H a = some (.ins C dx fs) ∧ fs.lookup fld = some (.ref l) ∧ SqL K H l xs ∧
  ∀ it, H it = none → n ≤ it → Q (.ref it) (upd H it (ItO l it 0))
def iOwn (K : PySem.W.Frag) (C : Addr) (fld : Str) (te : TE) : TI := fun σ H R => te σ H fun x H1 => ∃ (a dx l : Addr) (fs : List (Str × V)) (xs : List V), x = .ref a ∧ H1 a = some (.ins C dx fs) ∧ fs.lookup fld = some (.ref l) ∧ SqL K H1 l xs ∧ R (Itl K l) H1
theorem pi_own {X : Cx} {C g : Addr} {fd : FuncData} {n : Nat} {fld : Str} {e tg : Expr} {te : TE} (he : PE X e te) (m : OwnM X.K C "__iter__" g) (hb : Binds X.K fd ["self"] []) (F : FnS X.prog X.w X.K X.mg X.base n g fd ["self"] (spIter X.K C fld)) (hr : Room n X.A) : PI X tg e (iOwn X.K C fld te) := by
  refine ⟨fun pins s σ H R I h => ?_⟩
  refine thn (he.run pins s σ H _ I h) fun u s1 ⟨x, H1, I1, rx, a, dx, l, fs, xs, ex, ea, lk, sq, q⟩ => ?_
  subst ex
  obtain rfl : u = Value.ref a := rx
  obtain ⟨ox, od, J⟩ := insX_at I1 ea
  obtain ⟨mm, hF⟩ := I1.fr
  refine PySem.W.owit_iter hF I1.ok.mod.kin J m.at_ m.fn ?_
  refine wpAny_call (codeAny_mono (F.go X.A X.stack s1 H1 ⟨[Value.ref a], []⟩ ([Value.ref a] ++ []) [V.ref a] (fun v H2 => ∃ it, v = .ref it ∧ H1 it = none ∧ X.s_0.heap.objs.size ≤ it ∧ H2 = upd H1 it (ItO l it 0)) E0 hr I1.env0 (hb s1 [Value.ref a] I1.kIn rfl) (show Vals [V.ref a] [Value.ref a] from .cons rfl .nil)
    ⟨a, dx, l, fs, xs, rfl, ea, lk, sq, fun it hn hs => ⟨it, rfl, hn, Nat.le_trans I1.sz hs, rfl⟩⟩) fun r s' hq => ?_)
  cases r with
  | error e => exact False.elim hq
  | ok fl =>
    cases fl with
    | ret u =>
      obtain ⟨v, H', I2, rv, it, rfl, hn, hs, rfl⟩ := I1.after hq
      cases (show u = Value.ref it from rv)
      have hi : (upd H1 it (ItO l it 0)) it = some (ItO l it 0) := upd_same
      have eo := itO_get I2 hi
      have st : s'.heap.IsListIter it l (0 : Nat) := ⟨_, eo, rfl, rfl⟩
      have hT : s'.TypeIs (.ref it) "list_iterator" := ⟨_, eo, rfl⟩
      unfold PySem.W.OwitIt
      refine wpAny_specialOf (name := Str.ofString "__next__") hT slot_listiter_next.lookup ?_
      have hi' := hi
      unfold ItO at hi'
      have ed : dropH (upd H1 it (ItO l it 0)) it = H1 := by
        funext b
        by_cases hb : b = it
        · rw [hb, hn]
          exact dropH_same
        · rw [dropH_ne hb, upd_ne hb]
      refine ⟨it, [it], _, _, dropH (upd H1 it (ItO l it 0)) it, rfl, inv_drop I2 hi', turn_list l it, st, fun b hb => ?_, ?_⟩
      · have e : b = it := by simpa using hb
        rw [e]
        exact inv_fp I2 hi hs
      · rw [ed]
        exact q
    | next => exact False.elim hq
    | brk => exact False.elim hq
    | cont => exact False.elim hq
end G
set_option Elab.async false
set_option linter.all false
set_option maxRecDepth 100000
set_option maxHeartbeats 2000000
/-! O3: xs[::-1], isinstance(x, (list, tuple)), lists of the same things compared. -/
namespace G
open PySem PySem.Spec PyProof.Rows L2 HT
theorem pick_rev (its : List Value) : slicePick its.toArray none none (some (-1)) = its.reverse.toArray := by
  have e : ∀ k, k ≤ its.length → (((List.range k).map fun (m : Nat) => (((its.length : Nat) : Int) - 1 + (-1) * (m : Int)).toNat).filterMap fun j => its.toArray[j]?) = its.reverse.take k := by
    intro k
    induction k with
    | zero =>
      intro _
      simp
    | succ k ih =>
      intro hk
      rw [List.range_succ, List.map_append, List.filterMap_append, ih (by omega), List.take_add_one]
      congr 1
      have e1 : (((its.length : Nat) : Int) - 1 + (-1) * (k : Int)).toNat = its.length - 1 - k := by omega
      have hk2 : its.length - 1 - k < its.length := by omega
      simp only [List.map_cons, List.map_nil, List.filterMap_cons, List.filterMap_nil]
      rw [e1, List.getElem?_toArray, List.getElem?_eq_getElem hk2, List.getElem?_reverse (by omega)]
      simp [hk2]
  have r : sliceRange ((its.length : Int) - 1) (-1) (-1) = (List.range its.length).map fun (m : Nat) => (((its.length : Nat) : Int) - 1 + (-1) * (m : Int)).toNat := by
    unfold sliceRange
    have c : (if (-1 : Int) > 0 then (if (its.length : Int) - 1 < -1 then ((-1) - ((its.length : Int) - 1) + (-1) - 1) / (-1) else 0) else (if (its.length : Int) - 1 > -1 then ((its.length : Int) - 1 - (-1) - (-1) - 1) / (-(-1)) else 0)).toNat = its.length := by
      rw [if_neg (by decide)]
      split
      · rw [show (-(-1) : Int) = 1 by decide, Int.ediv_one]
        omega
      · omega
    show (List.range _).map _ = _
    rw [c]
  have b : sliceBounds none none (some (-1)) its.toArray.size = ((its.length : Int) - 1, -1, -1) := by
    rw [List.size_toArray]
    rfl
  unfold slicePick
  rw [b]
  dsimp only
  rw [r, e _ (Nat.le_refl _), List.take_of_length_le (by rw [List.length_reverse]; exact Nat.le_refl _)]
def tBackL (K : PySem.W.Frag) (te : TE) (tp : TO) : TE := fun σ H Q => te σ H fun x H1 => tp σ H1 fun o H2 => ∃ a xs, x = .ref a ∧ SqL K H2 a xs ∧ o = some (-1) ∧ ∀ p, H2 p = none → Q (.ref p) (upd H2 p (.lst xs.reverse))
theorem pe_backL {X : Cx} {e st : Expr} {te : TE} {tp : TO} {p3 pos : Pos} (he : PE X e te) (hst : PO X (some st) tp)
    (hsub : ∀ a l : Addr, subscripted (.Slice none none (some st) p3) false (.ref a) (.ref l) = operate [.ref a, .ref l] (getItem (.ref a) (.ref l)) := by intro _ _; with_unfolding_all rfl) :
    PE X (.Subscript e (.Slice none none (some st) p3) pos) (tBackL X.K te tp) := by
  refine ⟨fun pins s σ H Q I h => ?_⟩
  refine Subscript_ (thn (he.run pins s σ H _ I h) fun v s1 ⟨x, H1, I1, r1, q1⟩ => ?_)
  refine wpAny_Slice (thn (po_none.run pins s1 σ H1 (fun o H2 => o = none ∧ H2 = H1) I1 ⟨rfl, rfl⟩) fun vl s2 ⟨l, H2, I2, pl, el, e2⟩ => ?_)
  subst el e2
  refine thn (po_none.run pins s2 σ H2 (fun o H3 => o = none ∧ H3 = H2) I2 ⟨rfl, rfl⟩) fun vu s3 ⟨u, H3, I3, pu, eu, e3⟩ => ?_
  subst eu e3
  refine thn (hst.run pins s3 σ H3 _ I3 q1) fun vs s4 ⟨o, H4, I4, ps, a, xs, ex, hx, eo, q⟩ => ?_
  subst ex eo
  cases r1
  have I5 : Inv X pins σ H4 { s4 with heap := s4.heap.push { cls := .type "slice", data := .fields #[vl, vu, vs] } } := I4.kept (t' := s4.toks) fun b ob q => Heap.get?_push_of_some _ q
  obtain ⟨its, r, ht, hz⟩ := I5.list hx
  have hlen : its.length = xs.length := r.length.symm
  show wpAny (model X.prog X.w) X.A (subscriptTail e (.Slice none none (some st) p3) (.ref a) (.ref s4.heap.objs.size)) (EP X pins σ Q) X.xe { s4 with heap := s4.heap.push { cls := .type "slice", data := .fields #[vl, vu, vs] } }
  refine tail_any (ops := [.ref a, .ref s4.heap.objs.size]) ht.isList.typeIs slot_list_getitem.lookup ?_ (hsub _ _)
  refine wpAny_getItem_list_slice ht.isList (Heap.IsSliceOf.new _ _ _ _) pl pu ps (by decide) ?_ (by rw [List.size_toArray]; omega)
  rw [pick_rev]
  refine ⟨.ref _, _, I5.laid (t' := s4.toks) (o := .lst xs.reverse) (fun b ob q => Heap.get?_push_of_some _ q) (Nat.le_refl _) ?_, rfl, q _ (I5.hok.fresh (Nat.le_refl _))⟩
  exact ⟨by rw [List.length_reverse]; exact hz, _, 0, Vals.reverse r, Heap.get?_push_size _ rfl⟩
/-! ### isinstance(x, (list, tuple)) -/
def tIsLT (K : PySem.W.Frag) (te : TE) : TE := fun σ H Q => te σ H fun x H1 => (∃ t xs, x = .ref t ∧ (SqL K H1 t xs ∨ SqT K H1 t xs)) ∧ ∀ T, H1 T = none → Q (.bl true) (upd H1 T (.tup [.ty "list", .ty "tuple"]))
theorem lt_list (t : Addr) : AnswersAll (fun s => s.TypeIs (.ref t) "list") (.ref t) [.type "list", .type "tuple"] [true, false] :=
  ⟨Answers.of_true PySem.F.isi_meta_list sub_list_self, Answers.of_false_list (by decide +kernel) PySem.F.isi_meta_tuple PySem.F.sub_list_tuple, True.intro⟩
theorem lt_tuple (t : Addr) : AnswersAll (fun s => s.TypeIs (.ref t) "tuple") (.ref t) [.type "list", .type "tuple"] [false, true] :=
  ⟨Answers.of_false_tuple (by decide +kernel) PySem.F.isi_meta_list PySem.F.sub_tuple_list, Answers.of_true PySem.F.isi_meta_tuple PySem.F.isi_sub_tuple, True.intro⟩
theorem pe_isiLT {X : Cx} {p pos tpos : Pos} {e : Expr} {es : List Expr} {te : TE} {k : Nat} (he : PE X e te) (hg : Gl X "isinstance") (hm : X.mg "isinstance" = none) (hes : PA X es (tCons (tC (.ty "list")) (tCons (tC (.ty "tuple")) tNil)))
    (n1 : starEach [e, .Tuple es k tpos] X.env = (false, eval e X.env) :: starEach [.Tuple es k tpos] X.env := by rfl) (n2 : starEach [.Tuple es k tpos] X.env = (false, eval (.Tuple es k tpos) X.env) :: starEach [] X.env := by rfl)
    (n3 : (backTo pos (starEach [.Tuple es k tpos] X.env)).any (·.1) = false := by rfl) : PE X (.Call (.Name "isinstance" p) [e, .Tuple es k tpos] [] pos) (tIsLT X.K te) := by
  refine ⟨fun pins s σ H Q I h => ?_⟩
  refine wpAny_Call_Name_kw (ld_blt I hg hm PyProof.Rows.boot_isinstance ?_ (by decide) (by decide))
  refine PyProof.Rows.callWith_builtin1 ?_ n1 n3
  rw [n1]
  show wpAny _ _ (spliced ((false, eval e X.env) :: backTo pos (starEach [.Tuple es k tpos] X.env))) _ _ s
  refine Calls.spliced_cons (thn (he.run pins s σ H _ I h) fun u s1 ⟨x, H1, I1, r1, ⟨t, xs, ex, hT⟩, q1⟩ => ?_)
  subst ex
  obtain rfl : u = Value.ref t := r1
  rw [n2]
  show wpAny _ _ (spliced ((false, eval (.Tuple es k tpos) X.env) :: backTo pos (starEach [] X.env))) _ _ s1
  refine Calls.spliced_cons (wpAny_Tuple_spliced (thn (hes.run tpos pins s1 σ H1 (fun ys H' => ys = [.ty "list", .ty "tuple"] ∧ H' = H1) I1 ⟨rfl, rfl⟩) fun us s2 ⟨ys, H2, I2, r2, ey, eH⟩ => ?_))
  subst ey eH
  have eu := vals_ty2 r2
  subst eu
  have two : 2 ≤ sizeLine := by rw [sizeLine_eq]; omega
  refine ⟨two, ?_⟩
  have fresh := I2.hok.fresh (Nat.le_refl s2.heap.objs.size)
  have I3 := I2.laid (a := s2.heap.objs.size) (o := .tup [.ty "list", .ty "tuple"]) (h' := s2.heap.push { cls := .type "tuple", data := .seq [Value.type "list", Value.type "tuple"].toArray }) (t' := s2.toks) (fun b u e => Heap.get?_push_of_some _ e) (Nat.le_refl _)
    ⟨two, [.type "list", .type "tuple"], r2, ⟨_, Heap.get?_push_size _ rfl, rfl, _, rfl⟩⟩
  refine Calls.spliced_nil ?_
  rcases hT with hT | hT
  · obtain ⟨its, _, pl, _⟩ := I2.list hT
    obtain ⟨o, ho, hc, _⟩ := pl.isList
    exact call_isinstance (isinstance_tuple (x := .ref t) (Tx := "list") (tp := s2.heap.objs.size) (lt_list t)) ⟨⟨o, Heap.get?_push_of_some _ ho, hc⟩, Heap.get?_push_size _ rfl, fun tk => ⟨.bl true, _, I3.tok tk, rfl, q1 _ fresh⟩⟩
  · obtain ⟨its, _, ⟨o, ho, hc, _⟩, _⟩ := I2.tuple hT
    exact call_isinstance (isinstance_tuple (x := .ref t) (Tx := "tuple") (tp := s2.heap.objs.size) (lt_tuple t)) ⟨⟨o, Heap.get?_push_of_some _ ho, hc⟩, Heap.get?_push_size _ rfl, fun tk => ⟨.bl true, _, I3.tok tk, rfl, q1 _ fresh⟩⟩
/-! ### lists of the same things -/
def sameB : V → Bool
  | .ref _ => true
  | v => flatB v
theorem items_same {A : Around} {s : Shared} : ∀ {xs : List V} {us ws : List Value}, (∀ v ∈ xs, sameB v = true) → Vals xs us → Vals xs ws → ∀ j (h1 : j < us.length) (h2 : j < ws.length), SeqAt.EqAt A s us[j] ws[j] true
  | [], _, _, _, .nil, .nil, j, h1, _ => absurd h1 (Nat.not_lt_zero j)
  | x :: xs, _, _, hf, .cons r1 t1, .cons r2 t2, 0, _, _ => by
    have f := hf x List.mem_cons_self
    cases x with
    | ref a =>
      cases r1
      cases r2
      exact SeqAt.EqAt.same _
    | _ => exact eqAt_same r1 r2 f
  | x :: xs, _, _, hf, .cons r1 t1, .cons r2 t2, j + 1, h1, h2 => items_same (fun v hv => hf v (List.mem_cons_of_mem _ hv)) t1 t2 j (Nat.lt_of_succ_lt_succ h1) (Nat.lt_of_succ_lt_succ h2)
section
variable {X : Cx}
def rNeS (K : PySem.W.Frag) : R2 := fun x y H Q => ∃ a b xs, x = .ref a ∧ y = .ref b ∧ SqL K H a xs ∧ SqL K H b xs ∧ (∀ v ∈ xs, sameB v = true) ∧ Q (.bl false) H
theorem op_neS (hu : X.A.units < cLine) : OpR X (compareOp .NotEq) (rNeS X.K) := by
  intro pins s σ H x y v u Q I rx ry h
  obtain ⟨a, b, xs, rfl, rfl, ha, hb, hf, q⟩ := h
  cases (show v = Value.ref a from rx)
  cases (show u = Value.ref b from ry)
  obtain ⟨us, r1, p1, _⟩ := I.list ha
  obtain ⟨ws, r2, p2, _⟩ := I.list hb
  have hsz : us.toArray.size = ws.toArray.size := by rw [List.size_toArray, List.size_toArray, ← r1.length, ← r2.length]
  refine SeqAt.RcNeAt.lists (e := fun _ => true) p1.isList p2.isList hsz hu (fun j h1 h2 => ?_) X.prog X.w _ _ ?_
  · have k := items_same (A := X.A.in1) (s := s) hf r1 r2 j (by simpa using h1) (by simpa using h2)
    simpa using k
  · rw [show ((List.range us.toArray.size).all fun _ => true) = true from List.all_eq_true.mpr fun _ _ => rfl]
    exact ⟨.bl false, H, I, rfl, q⟩
end
end G
set_option Elab.async false
set_option linter.all false
set_option maxRecDepth 100000
set_option maxHeartbeats 2000000
/-! O4: dicts of ints compared; a list compared with an empty one; things in a drawn order. -/
namespace G
open PySem PySem.Spec PyProof.Rows L2
def dEq (ks ls : List (Key × V)) : Bool := ks.length == ls.length && ks.all fun p => decide (valV ls p.1 = some p.2)
def AllInt (ks : List (Key × V)) : Prop := ∀ p ∈ ks, ∃ i, p.2 = V.int i
theorem int_valV {ls : List (Key × V)} (h : AllInt ls) {k : Key} {v : V} (e : valV ls k = some v) : ∃ i, v = V.int i := by
  have h2 : Option.map (fun p : Key × V => p.2) (ls.find? fun kv => decide (kv.1 = k)) = some v := e
  obtain ⟨p, hp, rfl⟩ := Option.map_eq_some_iff.mp h2
  exact h p (List.mem_of_find?_eq_some hp)
theorem hits_int {A : Around} {s : Shared} {ls : List (Key × V)} {vb : List (Key × Value)} (rb : KV ls vb) (hl : AllInt ls) {ks : List (Key × V)} {va : List (Key × Value)} (ra : KV ks va) :
    AllInt ks → PySem.W.KeqHits A s vb va (ks.all fun p => decide (valV ls p.1 = some p.2)) := by
  unfold KV at ra
  induction ra with
  | nil => intro _; exact .nil
  | @cons p q ps qs h t ih =>
    intro hp
    obtain ⟨h1, h2⟩ := h
    obtain ⟨i, ei⟩ := hp p List.mem_cons_self
    have ih' := ih fun p' hm => hp p' (List.mem_cons_of_mem _ hm)
    obtain ⟨k, v⟩ := q
    have h1' : p.1 = k := h1
    subst h1'
    rw [ei] at h2
    obtain ⟨t1, rfl⟩ := (show ∃ t, v = Value.int i t from h2)
    rw [List.all_cons]
    cases e : valV ls p.1 with
    | none =>
      have rr : RelO none (valueAt vb p.1) := by rw [← e]; exact rb.val p.1
      have hn : valueAt vb p.1 = none := by
        cases z : valueAt vb p.1 with
        | none => rfl
        | some y =>
          rw [z] at rr
          exact rr.elim
      rw [decide_eq_false (show ¬ (none = some p.2) from fun z => nomatch z), Bool.false_and]
      exact .miss hn
    | some x =>
      obtain ⟨j, rfl⟩ := int_valV hl e
      have rr : RelO (some (.int j)) (valueAt vb p.1) := by rw [← e]; exact rb.val p.1
      obtain ⟨y, hy, ry⟩ := rr.some_of
      obtain ⟨t2, rfl⟩ := (show ∃ t, y = Value.int j t from ry)
      rw [ei]
      have q := SeqAt.EqAt.int_int (A := A) (s := s) i t1 j t2
      have e2 : decide (some (V.int j) = some (V.int i)) = (i == j) := by
        by_cases z : i = j
        · rw [z, decide_eq_true rfl]
          exact (beq_self_eq_true _).symm
        · rw [decide_eq_false fun h => z (V.int.inj (Option.some.inj h)).symm]
          exact (Bool.eq_false_iff.mpr fun h => z (beq_iff_eq.mp h)).symm
      rw [e2]
      exact .hit hy q ih'
section
variable {X : Cx}
def rNeDI : R2 := fun x y H Q => ∃ a b ks ls, x = .ref a ∧ y = .ref b ∧ H a = some (.dK ks) ∧ H b = some (.dK ls) ∧ AllInt ks ∧ AllInt ls ∧ Q (.bl (!dEq ks ls)) H
theorem op_neDI (hu : X.A.units < cLine) : OpR X (compareOp .NotEq) rNeDI := by
  intro pins s σ H x y v u Q I rx ry h
  obtain ⟨a, b, ks, ls, rfl, rfl, ea, eb, ik, il, q⟩ := h
  obtain rfl : v = Value.ref a := rx
  obtain rfl : u = Value.ref b := ry
  obtain ⟨_, ya, va, ra, da⟩ := (show ObjOk X.prog X.w H s.heap a (.dK ks) from I.hok a _ ea)
  obtain ⟨_, yb, vb, rb, db⟩ := (show ObjOk X.prog X.w H s.heap b (.dK ls) from I.hok b _ eb)
  have e : dEq ks ls = (va.length == vb.length && ks.all fun p => decide (valV ls p.1 = some p.2)) := by
    rw [← ra.length, ← rb.length]
    rfl
  exact PySem.W.keq_ne (knd := mixKind X.prog X.w) ya yb da db hu (fun _ => hits_int rb il ra ik) (fin_bl I q (by rw [e]))
def rNeNil (K : PySem.W.Frag) : R2 := fun x y H Q => ∃ a b xs, x = .ref a ∧ y = .ref b ∧ SqL K H a xs ∧ SqL K H b [] ∧ Q (.bl (!xs.isEmpty)) H
theorem op_neNil (hu : X.A.units < cLine) : OpR X (compareOp .NotEq) (rNeNil X.K) := by
  intro pins s σ H x y v u Q I rx ry h
  obtain ⟨a, b, xs, rfl, rfl, ha, hb, q⟩ := h
  cases (show v = Value.ref a from rx)
  cases (show u = Value.ref b from ry)
  obtain ⟨us, r1, p1, _⟩ := I.list ha
  obtain ⟨ws, r2, p2, _⟩ := I.list hb
  cases r2
  cases xs with
  | nil =>
    cases r1
    refine SeqAt.RcNeAt.lists (e := fun _ => true) p1.isList p2.isList rfl hu (fun j h1 h2 => absurd h1 (Nat.not_lt_zero j)) X.prog X.w _ _ ?_
    exact ⟨.bl false, H, I, rfl, q⟩
  | cons x xs =>
    refine SeqAt.RcNeAt.lists_lengths p1.isList p2.isList ?_ hu X.prog X.w _ _ ?_
    · have := r1.length
      rw [List.length_cons] at this
      rw [List.size_toArray, List.size_toArray, ← this]
      rfl
    · exact ⟨.bl true, H, I, rfl, q⟩
end
/-- things in a drawn order -/
def spMixR (K : PySem.W.Frag) : Sp := fun vs H Q _ => ∃ (b a : Addr) (n : Nat) (xs : List V), vs = [.ref b, .ref a] ∧ BoxAt H b n ∧ n + xs.length ≤ 100000 ∧ SqL K H a xs ∧
  ∀ (p : Addr) (H' : Hp) (ys : List V), ys.Perm xs → H p = none → H' p = some (.lst ys) → BoxAt H' b (n + xs.length) → But b H H' → Q (.ref p) H'
section
variable {P : Program} {w : World} {K : PySem.W.Frag} {mg : Str → Option Value} {base : Heap}
theorem ok_mixR {f fT : Addr} {fd fdT : FuncData} (F : Fun K "_law_mixed" "_law_mixed" sMixed f fd) (T : Fun K "_law_take" "_law_take" sTake fT fdT) (bT : Binds K fdT ["_law_box_here", "_law_many"] []) (gT : mg "_law_take" = some (.ref fT))
    (ml : mg "len" = none) (mL : mg "list" = none) : FnOk P w K mg base CX0 2 f fd ["_law_box_here", "_law_some"] (spMixR K) := by
  refine F.ok scMixed (fun vs H Q E h => ?_) (fun cdv A outer s H vs Q E hr h => ?_)
  · obtain ⟨b, a, n, ps, rfl, _⟩ := h
    rfl
  · obtain ⟨b, a, n, ps, rfl, B, hn, hS, q⟩ := h
    have big : ∀ {k : Nat}, k ≤ 100000 → k < sizeLine := fun {k} h => by
      rw [sizeLine_eq]
      omega
    refine ⟨_, pss_cons (ps_par (i := 2) (j := 3) (by rfl) scMixed.nd rfl rfl (by decide) rfl rfl (pa_cons (pe_callTy call_list_of (by rfl) mL (by decide +kernel) (pa_cons (pv 1) pa_nil)) (pa_cons (pe_lst pa_nil) pa_nil)) (by rfl))
      (pss_cons (ps_while PassesOwn.never (pt_cmpR (op_neNil (Nat.lt_of_succ_lt (hu_of hr))) (pv 2) (pe_lst pa_nil) (nomark _))
        (pss_one (ps_expr (pe_bm PySem.F.plainAttrs_list PySem.F.slot_list_append PySem.F.type_list_append mt_append (pv 3) (pa_cons
          (pe_bm PySem.F.plainAttrs_list PySem.F.slot_list_pop PySem.F.type_list_pop mt_popAt (pv 2)
            (pa_cons (pe_call (ok_take T) hr rfl gT T.kp bT .nil pass0 (pa_cons (pv 0) (pa_cons (pe_callB call_len_seq (by rfl) ml PySem.boot_len (pa_cons (pv 2) pa_nil)) pa_nil))) pa_nil)) pa_nil)))))
      (pss_one (ps_ret (pv 3)))), ?_⟩
    refine ⟨_, rfl, a, _, rfl, .inl hS, fun l hl => ⟨by decide, fun p hp0 => ⟨_, _, rfl, ?_⟩⟩⟩
    have nlp : l ≠ p := fun z => by
      rw [z, upd_same] at hp0
      cases hp0
    have hpn : H p = none := (upd_ne nlp.symm).symm.trans hp0
    have nbl : b ≠ l := by
      obtain ⟨_, _, _, e, _⟩ := B
      exact ne_of_none e hl
    have nbp : b ≠ p := by
      obtain ⟨_, _, _, e, _⟩ := B
      exact ne_of_none e hpn
    refine ⟨fun m σ H1 => ∃ qs rs : List V, m = qs.length ∧ σ = [some (.ref b), some (.ref a), some (.ref l), some (.ref p)] ∧ H1 l = some (.lst qs) ∧ H1 p = some (.lst rs) ∧
        (rs ++ qs).Perm ps ∧ BoxAt H1 b (n + rs.length) ∧ But b H H1, ⟨ps.length, ps, [], rfl, rfl, ?_, upd_same, .refl _, ?_, ?_⟩, ?_⟩
    · rw [upd_ne nlp, upd_same]
    · exact (B.keep fun o e => by rw [upd_ne nbp, upd_ne nbl]; exact e).mono (Nat.le_add_right _ _)
    · exact (But.new hl).trans (But.new hp0)
    · rintro m σ H1 ⟨qs, rs, rfl, rfl, el, ep, pm, B1, s1⟩
      have hlen : rs.length + qs.length = ps.length := by
        rw [← List.length_append]
        exact pm.length_eq
      refine ⟨_, rfl, by decide, fun t ht => ?_⟩
      have nlt : l ≠ t := ne_of_none el ht
      have s2 : But b H (upd H1 t (.lst [])) := s1.trans (But.new ht)
      refine ⟨l, t, qs, rfl, rfl, .of ((upd_ne nlt).trans el), .of upd_same, _, rfl, ?_⟩
      · cases qs with
        | nil =>
          refine iteF ?_
          refine ⟨_, rfl, ?_⟩
          rw [List.append_nil] at pm
          refine q p _ rs pm hpn ?_ ?_ s2
          · rw [upd_ne (ne_of_none ep ht)]
            exact ep
          · have e : rs.length = ps.length := pm.length_eq
            rw [← e]
            exact B1.keep fun o e => by rw [upd_ne (ne_of_none e ht)]; exact e
        | cons y ys =>
          refine iteT ?_
          have hlen' : rs.length + (ys.length + 1) = ps.length := hlen
          refine ⟨fun σ' H' => ∃ m', m' < (y :: ys).length ∧ ∃ qs rs : List V, m' = qs.length ∧ σ' = [some (.ref b), some (.ref a), some (.ref l), some (.ref p)] ∧ H' l = some (.lst qs) ∧ H' p = some (.lst rs) ∧
            (rs ++ qs).Perm ps ∧ BoxAt H' b (n + rs.length) ∧ But b H H', fun _ _ h => h, ?_⟩
          have ep2 : upd H1 t (.lst []) p = some (.lst rs) := by
            rw [upd_ne (ne_of_none ep ht)]
            exact ep
          have el2 : upd H1 t (.lst []) l = some (.lst (y :: ys)) := by
            rw [upd_ne nlt]
            exact el
          have B2 : BoxAt (upd H1 t (.lst [])) b (n + rs.length) := B1.keep fun o e => by rw [upd_ne (ne_of_none e ht)]; exact e
          refine ⟨_, rfl, .inl ⟨rfl, _, .of ep2⟩, _, rfl, .inl ⟨rfl, _, .of el2⟩, _, rfl, _, rfl, l, _, rfl, .inl (.of el2), b, _, n + rs.length, rfl, B2, by omega, ?_, ?_, fun r H3 r0 r1 B3 s3 => ?_⟩
          · show (0 : Int) < ((ys.length + 1 : Nat) : Int)
            omega
          · show ((ys.length + 1 : Nat) : Int) < _
            have : ys.length + 1 ≤ 100000 := by omega
            omega
          · obtain ⟨j, rfl, hj⟩ := draw_at r0 r1 (n := (y :: ys).length) rfl
            have el3 : H3 l = some (.lst (y :: ys)) := s3 _ _ nbl.symm el2
            have ep3 : H3 p = some (.lst rs) := s3 _ _ nbp.symm ep2
            have hj5 : j < 100000 := by
              have e : (y :: ys).length = ys.length + 1 := rfl
              omega
            refine ⟨l, _, (j : Int), j, (y :: ys)[j], rfl, rfl, el3, by omega, by omega, ?_, ?_, ?_⟩
            · have := PySem.seqIndex_of (k := (j : Int)) (n := (y :: ys).length) (by omega) (by omega)
              rw [this]
              rfl
            · exact List.getElem?_eq_getElem hj
            · refine ⟨p, _, _, rfl, rfl, by rw [upd_ne nlp.symm]; exact ep3, ?_, ?_⟩
              · exact big (by omega)
              · refine ⟨((y :: ys).eraseIdx j).length, ?_, (y :: ys).eraseIdx j, rs ++ [(y :: ys)[j]], rfl, rfl, ?_, ?_, ?_, ?_, ?_⟩
                · rw [List.length_eraseIdx, if_pos hj]
                  show (ys.length + 1) - 1 < ys.length + 1
                  omega
                · rw [upd_ne nlp, upd_same]
                · rw [upd_same]
                · rw [List.append_assoc]
                  refine List.Perm.trans (List.Perm.append_left rs ?_) pm
                  exact erase_perm hj
                · rw [List.length_append, List.length_singleton]
                  exact B3.keep fun o e => by rw [upd_ne nbp, upd_ne nbl]; exact e
                · intro c o nc e
                  have e3 := (s2.trans s3) c o nc e
                  rw [upd_ne (ne_of_none e hpn), upd_ne (ne_of_none e hl)]
                  exact e3
end
end G
set_option Elab.async false
set_option linter.all false
set_option maxRecDepth 100000
set_option maxHeartbeats 8000000
/-! PF: _law_plain; == of lists of the same things. -/
namespace G
open PySem PySem.Spec PyProof.Rows L2 NdefX StX EnT
section
variable {X : Cx}
def rEqS (K : PySem.W.Frag) : R2 := fun x y H Q => ∃ a b xs, x = .ref a ∧ y = .ref b ∧ SqL K H a xs ∧ SqL K H b xs ∧ (∀ v ∈ xs, sameB v = true) ∧ Q (.bl true) H
theorem op_eqS (hu : X.A.units < cLine) : OpR X (compareOp .Eq) (rEqS X.K) := by
  intro pins s σ H x y v u Q I rx ry h
  obtain ⟨a, b, xs, rfl, rfl, ha, hb, hf, q⟩ := h
  cases (show v = Value.ref a from rx)
  cases (show u = Value.ref b from ry)
  obtain ⟨us, r1, p1, _⟩ := I.list ha
  obtain ⟨ws, r2, p2, _⟩ := I.list hb
  have hsz : us.toArray.size = ws.toArray.size := by rw [List.size_toArray, List.size_toArray, ← r1.length, ← r2.length]
  refine SeqAt.RcAt.lists (e := fun _ => true) p1.isList p2.isList hsz hu (fun j h1 h2 => ?_) X.prog X.w _ _ ?_
  · have k := items_same (A := X.A.in1) (s := s) hf r1 r2 j (by simpa using h1) (by simpa using h2)
    simpa using k
  · rw [show ((List.range us.toArray.size).all fun _ => true) = true from List.all_eq_true.mpr fun _ _ => rfl]
    exact ⟨.bl true, H, I, rfl, q⟩
end
theorem strs_beq (z y : Str) : (z == y) = decide (z = y) := by
  by_cases h : z = y
  · rw [h, decide_eq_true rfl]
    exact beq_self_eq_true _
  · rw [decide_eq_false h]
    exact Bool.eq_false_iff.mpr fun e => h (eq_of_beq e)
theorem inV_strs (y : Str) : ∀ zs : List Str, inV (.str y) (zs.map V.str) = decide (y ∈ zs)
  | [] => rfl
  | z :: zs => by
    show ((z == y) || inV (.str y) (zs.map V.str)) = decide (y ∈ z :: zs)
    rw [inV_strs y zs, strs_beq]
    by_cases h : z = y
    · subst h
      rw [decide_eq_true rfl, decide_eq_true List.mem_cons_self]
      rfl
    · rw [decide_eq_false h, Bool.false_or]
      by_cases h2 : y ∈ zs
      · rw [decide_eq_true h2, decide_eq_true (List.mem_cons_of_mem _ h2)]
      · rw [decide_eq_false h2, decide_eq_false fun e => (List.mem_cons.mp e).elim (fun e => h e.symm) h2]
theorem flat_texts (zs : List Str) : (zs.map V.str).all flatV = true := List.all_eq_true.mpr fun x hx => by
  obtain ⟨z, _, rfl⟩ := List.mem_map.mp hx
  rfl
abbrev sPl : Stmt := topS 45
abbrev nPl : List Str := ["_law_fields_here", "_law_found", "_law_k", "_law_field", "_law_one"]
theorem scPl : FnScope nPl ["_law_fields_here"] (defScope sPl) := ⟨rfl, rfl, rfl, by decide +kernel, rfl, by decide +kernel, by decide +kernel⟩
def spPl : Sp := fun vs H Q _ => ∃ (t : Addr) (fs : List Fld), vs = [.ref t] ∧ H t = some (.tup (txs fs)) ∧ fs.length ≤ 3 ∧ (∀ f ∈ fs, f.Ok) ∧
  ∀ (p : Addr) (H' : Hp), Same H H' → H p = none → H' p = some (.tup (txs (plain fs))) → Q (.ref p) H'
section
variable {P : Program} {w : World} {K : PySem.W.Frag} {mg : Str → Option Value} {base : Heap}
theorem ok_pl {f : Addr} {fd : FuncData} (F : Fun K "_law_plain" "_law_plain" sPl f fd) (me : mg "enumerate" = none) (mT : mg "tuple" = none) : FnOk P w K mg base CX0 1 f fd ["_law_fields_here"] spPl := by
  refine F.ok scPl (fun vs H Q E h => ?_) (fun cdv A outer s H vs Q E hr h => ?_)
  · obtain ⟨t, fs, rfl, _⟩ := h
    rfl
  · obtain ⟨t, fs, rfl, ht, l3, hz, q⟩ := h
    refine ⟨_, pss_cons (ps_set (i := 1) scPl.nd rfl (.inl rfl) (pe_lst pa_nil))
      (pss_cons (ps_for PassesOwn.never rfl (pi_enumT (by rfl) me (pa_cons (pv 0) pa_nil)) (pg_tup (by rfl) (pgs_cons (pg_name (i := 2) scPl.nd rfl (.inl rfl)) (pgs_cons (pg_name (i := 3) scPl.nd rfl (.inl rfl)) pgs_nil)))
        (pss_one (ps_if (pt_cmpR (r := rIn K true) op_notIn_seq (pe_m1 PySem.F.slot_str_lstrip PySem.F.type_str_lstrip mt_lstripChars (pv 3) pe_str)
            (by exact pe_lc (own := [("_law_one", 4)]) (g := gName 4) (tt := tYes) (by rfl) scPl.nd (pi_tup (pe_slice sl_tup (pv 0) po_none (po_some (pv 2)))) (blkOk_by (own := [("_law_one", 4)]) (N := nPl) (sc := defScope sPl) (by decide +kernel)) (fun _ _ _ _ _ => pg_name (i := 4) scPl.nd rfl (.inl rfl)) (fun _ _ _ _ _ => pts_nil) (fun _ _ _ _ _ => pe_m1 PySem.F.slot_str_lstrip PySem.F.type_str_lstrip mt_lstripChars (pv 4) pe_str)) (by rfl))
          (pss_one (ps_expr (pe_bm PySem.F.plainAttrs_list PySem.F.slot_list_append PySem.F.type_list_append mt_append (pv 1) (pa_cons (pv 3) pa_nil)))) pss_nil)))
      (pss_one (ps_ret (pe_callTy call_tuple_of (by rfl) mT (by decide +kernel) (pa_cons (pv 1) pa_nil))))), ?_⟩
    refine ⟨(by show 0 ≤ sizeLine; exact Nat.zero_le _), fun l hl => ?_⟩
    have s0 : Same H (upd H l (.lst [])) := Same.new hl
    refine ⟨_, rfl, t, txs fs, rfl, .inl (.of (s0 _ _ ht)), ?_⟩
    refine for_it (walk_enumT (xs := txs fs)) (fun i σ H2 => ∃ x2 x3 x4 : Option V, σ = [some (.ref t), some (.ref l), x2, x3, x4] ∧ Same H H2 ∧ H2 l = some (.lst (txs (plain (fs.take i))))) ?_ ?_ ?_ ?_
    · exact ⟨none, none, none, rfl, s0, upd_same⟩
    · rintro i σ H2 _ ⟨x2, x3, x4, rfl, s2, _⟩
      exact .inl (.of (s2 _ _ ht))
    · rintro i x σ H2 H2' hi ⟨x2, x3, x4, rfl, s2, e2⟩ ⟨T, a, b, rfl, hT, rfl, ea, eb⟩
      replace eb : (txs fs)[i]? = some b := eb
      rw [List.getElem?_map] at eb
      obtain ⟨y, hy, rfl⟩ := Option.map_eq_some_iff.mp eb
      cases ea
      have okY := hz y (List.mem_of_getElem? hy)
      have h9 := okY.len
      have hi3 : i < fs.length := (List.getElem?_eq_some_iff.mp hy).1
      have s3 : Same H (upd H2 T (.tup [.int (i : Nat), V.str y.tx])) := s2.trans (Same.new hT)
      have e3 : (upd H2 T (.tup [.int (i : Nat), V.str y.tx])) l = some (.lst (txs (plain (fs.take i)))) := (upd_ne (ne_of_none e2 hT)).trans e2
      refine ⟨T, _, rfl, .of upd_same, rfl, _, _, rfl, _, _, rfl, rfl, ?_⟩
      generalize upd H2 T (.tup [.int (i : Nat), V.str y.tx]) = H3 at s3 e3 ⊢
      refine ⟨_, rfl, ⟨_, rfl⟩, y.tx, _, rfl, rfl, small_size (by omega), ?_⟩
      rw [okY.strip]
      refine ⟨_, rfl, _, rfl, _, rfl, t, _, rfl, .of (s3 _ _ ht), ?_, fun p hp => ?_⟩
      · intro z
        have z2 := z.2
        rw [HT.sIx_nat, List.length_map] at z2
        omega
      rw [cutV_first _ i (by rw [List.length_map]; omega), ← List.map_take]
      have s4 : Same H3 (upd H3 p (.tup (txs (fs.take i)))) := Same.new hp
      refine ⟨p, rfl, ⟨_, .of upd_same⟩, fun D hD => ?_⟩
      refine lc_tup (xs := txs (fs.take i)) (fun j H4 => Same H3 H4 ∧ H4 p = some (.tup (txs (fs.take i))) ∧ H4 D = some (.lst ((((fs.take i).take j).map (·.nm)).map V.str))) ?_ ?_ ?_ ?_
      · exact ⟨s4.trans (Same.new hD), (upd_ne (ne_of_none upd_same hD)).trans upd_same, upd_same⟩
      · exact fun _ _ _ h => .of h.2.1
      · rintro j x5 H4 hx5 ⟨s5, e5, eD⟩
        rw [List.getElem?_map] at hx5
        obtain ⟨u, hu, rfl⟩ := Option.map_eq_some_iff.mp hx5
        have okU := hz u (List.mem_of_mem_take (List.mem_of_getElem? hu))
        have u9 := okU.len
        refine ⟨rfl, ?_⟩
        unfold tYes
        dsimp only
        rw [if_pos rfl]
        refine ⟨_, rfl, ⟨_, rfl⟩, u.tx, _, rfl, rfl, small_size (by omega), ?_⟩
        rw [okU.strip]
        have hD3 : H3 D = none := s4.free hD
        refine ⟨_, eD, ?_, fun c o e => (upd_ne (ne_of_none e hD3)).trans (s5 _ _ e), (upd_ne (ne_of_none upd_same hD)).trans e5, ?_⟩
        · rw [List.length_map, List.length_map, List.length_take, List.length_take]
          exact small1000 (by omega)
        · rw [upd_same, take_snoc hu, List.map_append, List.map_append]
          rfl
      · rintro H4 ⟨s5, e5, eD⟩
        rw [List.length_map, List.take_length] at eD
        refine ⟨D, _, rfl, .inl (.of eD), rfl, flat_texts _, _, rfl, ?_⟩
        rw [show (if true = true then !inV (V.str y.nm) (((fs.take i).map (·.nm)).map V.str) else inV (V.str y.nm) (((fs.take i).map (·.nm)).map V.str)) = !decide (y.nm ∈ (fs.take i).map (·.nm)) from by rw [if_pos rfl, inV_strs]]
        have es := plain_snoc y (fs.take i)
        rw [← take_snoc hy] at es
        have e6 := s5 _ _ e3
        have s6 := s3.trans s5
        refine ite2 (fun hc => ?_) (fun hc => ?_)
        · have hn : y.nm ∉ (fs.take i).map (·.nm) := fun z => by
            rw [decide_eq_true z] at hc
            cases hc
          rw [if_neg hn] at es
          have hpl : (plain (fs.take i)).length ≤ 3 := by
            have := pl_len (fs.take i) []
            rw [List.length_take] at this
            unfold plain
            omega
          refine ⟨_, rfl, .inl ⟨rfl, _, .of e6⟩, _, rfl, l, _, _, rfl, rfl, e6, ?_, ?_⟩
          · rw [List.length_map]
            exact small1000 (by omega)
          · refine ⟨_, _, _, rfl, fun c o e => (upd_ne (ne_of_none e hl)).trans (s6 _ _ e), ?_⟩
            rw [upd_same, es, show txs (plain (fs.take i) ++ [y]) = txs (plain (fs.take i)) ++ [V.str y.tx] from List.map_append]
        · have hn : y.nm ∈ (fs.take i).map (·.nm) := by
            by_cases z : y.nm ∈ (fs.take i).map (·.nm)
            · exact z
            · rw [decide_eq_false z] at hc
              exact absurd rfl hc
          rw [if_pos hn, List.append_nil] at es
          refine ⟨_, _, _, rfl, s6, ?_⟩
          rw [es]
          exact e6
    · rintro σ H2 ⟨x2, x3, x4, rfl, s2, e2⟩
      rw [List.length_map, List.take_length] at e2
      refine ⟨_, rfl, l, _, rfl, .inl ⟨.of e2, fun p hp => ?_⟩⟩
      exact q p _ (s2.trans (Same.new hp)) (s2.free hp) upd_same
end
end G
set_option Elab.async false
set_option linter.all false
set_option maxRecDepth 100000
set_option maxHeartbeats 2000000
/-! Q2: str(x) by an own __str__; keys that differ stay so. -/
namespace G
open PySem PySem.Spec PyProof.Rows L2
section
variable {X : Cx} {C g : Addr} {fd : FuncData} {ps : List Str} {n : Nat} {sp : Sp} {E : XK}
def rStrB (C : Addr) (sp : Sp) (E : XK) : List V → Hp → VK → Prop := fun xs H Q => ∃ a dx fs, xs = [V.ref a] ∧ H a = some (.ins C dx fs) ∧ sp [.ref a] H (fun z H' => ∃ y, z = .str y ∧ Q z H') E
theorem call_strB (hs : PySem.W.findIn X.K (.ref C) "__str__" = some (some (.ref g))) (hf : PySem.W.isFn X.K (.ref g) = true) (hb : Binds X.K fd ps []) (F : FnOk X.prog X.w X.K X.mg X.base CX0 n g fd ps sp) (hr : Room (n + 2) X.A) : CallR X (.type "str") (rStrB C sp E) := by
  intro pins s σ H xs us Q I r h
  obtain ⟨a, dx, fs, rfl, ha, q⟩ := h
  obtain ⟨u, rfl, ru⟩ := r.one
  cases (show u = Value.ref a from ru)
  obtain ⟨ox, od, J⟩ := insX_at I ha
  have hr2 : Room n X.A.in1.in1 := (show Room (n + 1) X.A.in1 from Room.in1 hr).in1
  refine PySem.W.kso_call (by have := hr2.units; omega) I.kIn J hs hf ?_
  have hl : ([Value.ref a] ++ []).length = ps.length := by
    have := F.len _ _ _ _ q
    exact this
  refine wpAny_call (codeAny_mono (F.run X.A.in1.in1 X.stack s H ⟨[Value.ref a], []⟩ ([Value.ref a] ++ []) [V.ref a] _ E hr2 I.env0.in1.in1 (hb s [Value.ref a] I.kIn hl) (show Vals [V.ref a] [Value.ref a] from .cons rfl .nil) q) fun r s' hq => ?_)
  cases r with
  | error e => exact False.elim hq
  | ok fl =>
    cases fl with
    | ret u =>
      obtain ⟨v, H', I2, rv, y, rfl, q⟩ := I.after hq
      obtain ⟨t, rfl⟩ := (show ∃ t, u = Value.str y t from rv)
      exact ⟨.str y, H', I2, ⟨t, rfl⟩, q⟩
    | next => exact False.elim hq
    | brk => exact False.elim hq
    | cont => exact False.elim hq
end
theorem nodup_put {kvs : List (Key × V)} (h : (kvs.map (·.1)).Nodup) (k : Key) (v : V) : ((putK kvs k v).map (·.1)).Nodup := by
  unfold putK
  split
  · rw [List.map_map]
    have e : (kvs.map ((fun p : Key × V => p.1) ∘ fun kv => if kv.1 = k then (kv.1, v) else kv)) = kvs.map (·.1) := List.map_congr_left fun p _ => by
      show (if p.1 = k then (p.1, v) else p).1 = p.1
      split <;> rfl
    rw [e]
    exact h
  · rename_i hn
    rw [List.map_append, List.nodup_append]
    refine ⟨h, by simp, fun x hx y hy => ?_⟩
    rw [List.map_cons, List.map_nil, List.mem_singleton] at hy
    rintro rfl
    obtain ⟨p, hp, e⟩ := List.mem_map.mp hx
    apply hn
    exact List.any_eq_true.mpr ⟨p, hp, decide_eq_true (e.trans hy)⟩
theorem valV_nodup : ∀ {kvs : List (Key × V)}, (kvs.map (·.1)).Nodup → ∀ p ∈ kvs, valV kvs p.1 = some p.2
  | p :: kvs, h, q, hq => by
    rw [List.map_cons, List.nodup_cons] at h
    show Option.map (fun r : Key × V => r.2) (List.find? (fun kv => decide (kv.1 = q.1)) (p :: kvs)) = some q.2
    rcases List.mem_cons.mp hq with rfl | hq'
    · rw [List.find?_cons_of_pos (by simp)]
      rfl
    · have ne : ¬ p.1 = q.1 := fun e => h.1 (by rw [e]; exact List.mem_map.mpr ⟨q, hq', rfl⟩)
      rw [List.find?_cons_of_neg (by simpa using ne)]
      exact valV_nodup h.2 q hq'
end G
set_option Elab.async false
set_option linter.all false
set_option maxRecDepth 100000
set_option maxHeartbeats 4000000
/-! LQ: < of tuples of ints; a table of code objects outlives what changes the box alone. -/
namespace G
open PySem PySem.Spec PyProof.Rows L2 NdefX StX SkL LamX PySem.W
def rLtI : R2 := fun x y H Q => ∃ (a b : Addr) (ns ms : List Int), x = .ref a ∧ y = .ref b ∧ H a = some (.tup (ns.map V.int)) ∧ H b = some (.tup (ms.map V.int)) ∧ Q (.bl (ltI ns ms)) H
theorem op_ltI {X : Cx} (hu : X.A.units + 4 < cLine) : OpR X (compareOp .Lt) rLtI := by
  intro pins s σ H x y v u Q I rx ry h
  obtain ⟨a, b, ns, ms, rfl, rfl, ha, hb, q⟩ := h
  cases rx
  cases ry
  have d1 : ∀ xs : List Int, (PyData.tuple (xs.map .int)).depth = 1 := fun xs => by simp [PyData.depth, depth_ints]
  have r := rcLt_alike (.tuple (ns.map .int)) (.tuple (ms.map .int)) X.A s _ _ _ _ (reads_tup I.hok ha) (reads_tup I.hok hb) (by simp [alike, alike_ints]) (fun z => nomatch z) (by rw [d1, d1]; show X.A.units + 1 < _; omega)
  exact r X.prog X.w _ _ ⟨.bl _, H, I, rfl, q⟩
theorem Tabs.butB {T : List (Addr × Str)} {b : Addr} {n : Nat} {H H' : Hp} (t : Tabs T H) (B : BoxAt H b n) (k : But b H H') : Tabs T H' := fun p hp => by
  obtain ⟨x, y, z, eb, _⟩ := B
  obtain ⟨ps, h1, h2, h3⟩ := t p hp
  refine ⟨ps, k _ _ (fun q => by rw [q, eb] at h1; cases h1) h1, h2, fun pos cv hc => ?_⟩
  obtain ⟨c, e1, e2⟩ := h3 pos cv hc
  refine ⟨c, e1, k _ _ (fun q => ?_) e2⟩
  rw [q, eb] at e2
  unfold CodeO at e2
  cases e2
end G
set_option Elab.async false
set_option linter.all false
set_option maxRecDepth 100000
set_option maxHeartbeats 4000000
/-! PT: need_order, is_as_fine, opposite, order_parting. -/
namespace G
open PySem PySem.Spec PyProof.Rows L2 NdefX StX DvT
abbrev sOpposite : Stmt := topS 27
abbrev sNeedO : Stmt := topS 31
abbrev sPart : Stmt := topS 32
abbrev nPart : List Str := ["one", "other", "ahead", "wanted", "at", "ascending", "names", "lesser", "count", "field", "name"]
theorem scOpposite : FnScope ["field"] ["field"] (defScope sOpposite) := ⟨rfl, rfl, rfl, by decide +kernel, rfl, by decide +kernel, by decide +kernel⟩
theorem scNeedO : FnScope ["value"] ["value"] (defScope sNeedO) := ⟨rfl, rfl, rfl, by decide +kernel, rfl, by decide +kernel, by decide +kernel⟩
theorem scFine : FnScope ["self", "other", "wanted"] ["self", "other"] (defScope (sBy 10)) := ⟨rfl, rfl, rfl, by decide +kernel, rfl, by decide +kernel, by decide +kernel⟩
theorem scPart : FnScope nPart ["one", "other"] (defScope sPart) := ⟨rfl, rfl, rfl, by decide +kernel, rfl, by decide +kernel, by decide +kernel⟩
/-- what isinstance asks of the class By -/
structure ByC (K : PySem.W.Frag) (C : Addr) : Prop where
  cl : Cls K C
  n1 : NoAttr K C "signed_fields"
  ha : PySem.W.findIn K (.ref C) "__class__" = some (some (.builtin "object.__class__"))
  hn : PySem.W.specialIn K (.builtin "object.__class__") "__get__" = some (some (.builtin "getset_descriptor.__get__"))
  htk : PySem.W.takesIn K (.builtin "object.__class__") = some true
  hm : PySem.W.mroIn K C (.type "object") = some true
  kit : PySem.W.kitOne K (.ref C) (.ref C) = some true
theorem eqv_strs : ∀ zs ys : List Str, PyData.eqvAll (zs.map PyData.str) (ys.map PyData.str) = decide (zs = ys)
  | [], [] => by simp [PyData.eqvAll]
  | [], _ :: _ => by simp [PyData.eqvAll]
  | _ :: _, [] => by simp [PyData.eqvAll]
  | z :: zs, y :: ys => by
    rw [List.map_cons, List.map_cons]
    simp only [PyData.eqvAll, PyData.eqv, eqv_strs zs ys, List.cons.injEq, strs_beq]
    by_cases h : z = y <;> by_cases h2 : zs = ys <;> simp [h, h2]
theorem eqv_lstr (zs ys : List Str) : PyData.eqv (.list (zs.map PyData.str)) (.list (ys.map PyData.str)) = decide (zs = ys) := by
  simp [PyData.eqv, eqv_strs]
theorem eqv_tstr (zs ys : List Str) : PyData.eqv (.tuple (zs.map PyData.str)) (.tuple (ys.map PyData.str)) = decide (zs = ys) := by
  simp [PyData.eqv, eqv_strs]
theorem dp_strs {K : PySem.W.Frag} {H : Hp} : ∀ zs : List Str, DpAll K H (zs.map V.str) (zs.map PyData.str)
  | [] => .nil
  | z :: zs => .cons (.str z) (dp_strs zs)
abbrev tx (fs : List Fld) : List Str := fs.map (·.tx)
theorem txs_tx (fs : List Fld) : txs fs = (tx fs).map V.str := by rw [List.map_map]; rfl
theorem sh_tx {fs : List Fld} (h : ∀ f ∈ fs, f.Ok) : SeqAt.shaped (.tuple ((tx fs).map PyData.str)) = true := by
  have := sh_flds h
  rw [List.map_map]
  exact this
theorem sh_txl {fs : List Fld} (h : ∀ f ∈ fs, f.Ok) : SeqAt.shaped (.list ((tx fs).map PyData.str)) = true := by
  have := sh_tx h
  simpa [SeqAt.shaped, PyData.hasDict, PyData.canLay0, PyData.depth] using this
theorem cutV_upto (xs : List V) (k : Nat) : cutV xs none (some (k : Int)) = xs.take k := by
  unfold cutV
  rw [HT.sIx_none, HT.sIx_nat, List.drop_zero, Nat.sub_zero]
  rcases Nat.le_total k xs.length with h | h
  · rw [Nat.min_eq_left h]
  · rw [Nat.min_eq_right h, List.take_length, List.take_of_length_le h]
def spNeedO (C : Addr) : Sp := fun vs H Q _ => ∃ (a t : Addr) (fs : List Fld), vs = [.ref a] ∧ ByAt C H a t fs ∧ Q .non H
def spOpp : Sp := fun vs H Q _ => ∃ f : Fld, vs = [.str f.tx] ∧ f.Ok ∧ Q (.str f.opp.tx) H
structure OrdOk (C : Addr) (H : Hp) (a t : Addr) (fs : List Fld) : Prop where
  at_ : ByAt C H a t fs
  l1 : 1 ≤ fs.length
  l3 : fs.length ≤ 3
  ok : ∀ f ∈ fs, f.Ok
theorem OrdOk.same {C a t : Addr} {H H' : Hp} {fs : List Fld} (h : OrdOk C H a t fs) (s : Same H H') : OrdOk C H' a t fs := ⟨h.at_.same s, h.l1, h.l3, h.ok⟩
def spFine (C : Addr) : Sp := fun vs H Q _ => ∃ (a t b u : Addr) (fs gs : List Fld), vs = [.ref a, .ref b] ∧ OrdOk C H a t fs ∧ OrdOk C H b u gs ∧ ∀ H', Same H H' → Q (.bl (fineB (plain fs) (plain gs))) H'
/-- two values that part two orders -/
structure TwoAt (H : Hp) (T d e : Addr) (zs : List Str) (x y : List (Key × V)) : Prop where
  t : H T = some (.tup [.ref d, .ref e])
  x : H d = some (.dK x)
  y : H e = some (.dK y)
def spPart (C : Addr) : Sp := fun vs H Q _ => ∃ (a t b u : Addr) (fs gs : List Fld), vs = [.ref a, .ref b] ∧ OrdOk C H a t fs ∧ OrdOk C H b u gs ∧
  (fineB (plain fs) (plain gs) = true → ∀ H', Same H H' → Q .non H') ∧
  (∀ i, PartsAt (plain fs) (plain gs) i → ∀ (T d e : Addr) (H' : Hp), Same H H' → d ≠ e → TwoAt H' T d e [] (lesK (ascOf (plain fs) (plain gs) i)) (greK (ascOf (plain fs) (plain gs) i)) → Q (.ref T) H')
section
variable {P : Program} {w : World} {K : PySem.W.Frag} {mg : Str → Option Value} {base : Heap}
theorem ok_needO {f C : Addr} {fd : FuncData} (F : Fun K "need_order" "need_order" sNeedO f fd) (c : ByC K C) (gC : mg "By" = some (.ref C)) (mi : mg "isinstance" = none) : FnOk P w K mg base CX0 1 f fd ["value"] (spNeedO C) := by
  refine F.ok scNeedO (fun vs H Q E h => ?_) (fun cdv A outer s H vs Q E hr h => ?_)
  · obtain ⟨a, t, fs, rfl, _⟩ := h
    rfl
  · obtain ⟨a, t, fs, rfl, ⟨dx, ha, _⟩, q⟩ := h
    refine ⟨_, pss_one (ps_if (pt_not (pt_val (pe_callB call_isi (by rfl) mi (by decide +kernel) (pa_cons (pv 0) (pa_cons (pe_glob (v := .ref C) rfl gC rfl) pa_nil))))) (pss_one ps_never) pss_nil), ?_⟩
    exact ⟨_, rfl, _, _, _, _, _, rfl, .own C, .base (.ins ha c.cl c.ha c.hn c.htk c.hm), c.kit, _, rfl, iteF q⟩
theorem ok_opposite {f fN : Addr} {fd fdN : FuncData} (F : Fun K "opposite" "opposite" sOpposite f fd) (N : Fun K "is_negative" "is_negative" sNegative fN fdN) (bN : Binds K fdN ["field"] []) (gN : mg "is_negative" = some (.ref fN)) : FnOk P w K mg base CX0 2 f fd ["field"] spOpp := by
  have GN : FnOk P w K mg base CX0 1 fN fdN ["field"] spNegative := ok_negative N
  refine F.ok scOpposite (fun vs H Q E h => ?_) (fun cdv A outer s H vs Q E hr h => ?_)
  · obtain ⟨z, rfl, _⟩ := h
    rfl
  · obtain ⟨f, rfl, hz, q⟩ := h
    refine ⟨_, pss_one (ps_ret (pe_ifExp (pt_val (pe_call GN hr rfl gN N.kp bN .nil pass0 (pa_cons (pv 0) pa_nil))) (pe_slice sl_str (pv 0) (po_some pe_int) po_none) (pe_joined (.cons pe_str (.cons (pe_fmt (pv 0)) .nil))))), ?_⟩
    have h9 := hz.len
    refine ⟨_, rfl, f, rfl, hz, _, rfl, ?_⟩
    cases e : f.neg with
    | true =>
      refine iteT ⟨_, rfl, _, rfl, f.tx, rfl, small_size (by omega), ?_⟩
      rw [cut_neg hz e]
      exact q
    | false =>
      refine iteF ?_
      have q' : Q (.str (("-" : Str) ++ f.tx)) H := by rw [opp_pos hz e]; exact q
      refine ⟨_, rfl, by decide, _, rfl, .inl ⟨f.tx, rfl, small_size (by omega), _, rfl, ?_, ?_⟩⟩
      · simp only [app_len]
        have e0 : Str.empty.length = 0 := rfl
        have e1 : (("-" : String) : Str).length = 1 := rfl
        rw [sizeLine_eq]
        omega
      · exact q'
theorem plain3 {fs : List Fld} (h : fs.length ≤ 3) : (plain fs).length ≤ 3 := Nat.le_trans (pl_len fs []) h
theorem plain_ok {fs : List Fld} (h : ∀ f ∈ fs, f.Ok) : ∀ f ∈ plain fs, f.Ok := fun f hf => h f (pl_sub hf)
theorem ok_fine {f C fT fN : Addr} {fd fdT fdN : FuncData} (F : Fun K "is_as_fine" "By.is_as_fine" (sBy 10) f fd) (c : ByC K C)
    (GN : FnOk P w K mg base CX0 1 fN fdN ["value"] (spNeedO C)) (gN : mg "need_order" = some (.ref fN)) (kN : PySem.W.keepIn K (.ref fN) = true) (bN : Binds K fdN ["value"] [])
    (GT : FnOk P w K mg base CX0 1 fT fdT ["fields"] spTell) (gT : mg "telling_fields" = some (.ref fT)) (kT : PySem.W.keepIn K (.ref fT) = true) (bT : Binds K fdT ["fields"] []) (ml : mg "len" = none) :
    FnOk P w K mg base CX0 2 f fd ["self", "other"] (spFine C) := by
  refine F.ok scFine (fun vs H Q E h => ?_) (fun cdv A outer s H vs Q E hr h => ?_)
  · obtain ⟨a, t, b, u, fs, gs, rfl, _⟩ := h
    rfl
  · obtain ⟨a, t, b, u, fs, gs, rfl, oa, ob, q⟩ := h
    refine ⟨_, pss_cons (ps_expr (pe_call GN hr rfl gN kN bN .nil pass0 (pa_cons (pv 1) pa_nil)))
      (pss_cons (ps_set (i := 2) scFine.nd rfl (.inl rfl) (pe_call GT hr rfl gT kT bT .nil pass0 (pa_cons (pe_fld (pv 1) rfl) pa_nil)))
      (pss_one (ps_ret (pe_cmpR (op_eqD hr.units) (pe_slice sl_list (pe_call GT hr rfl gT kT bT .nil pass0 (pa_cons (pe_fld (pv 0) rfl) pa_nil)) po_none (po_some (pe_callB call_len_seq (by rfl) ml PySem.boot_len (pa_cons (pv 2) pa_nil)))) (pv 2) (nomark _))))), ?_⟩
    obtain ⟨dx, ha, ht⟩ := id oa.at_
    obtain ⟨dy, hb, hu⟩ := id ob.at_
    refine ⟨_, rfl, b, u, gs, rfl, ob.at_, ?_⟩
    refine ⟨_, rfl, b, C, dy, _, _, rfl, hb, c.cl, c.n1, rfl, u, gs, rfl, hu, ob.l3, ob.ok, fun p H1 s1 np e1 => ?_⟩
    refine ⟨_, rfl, a, C, dx, _, _, rfl, s1 _ _ ha, c.cl, c.n1, rfl, t, fs, rfl, s1 _ _ ht, oa.l3, oa.ok, fun r H2 s2 nr e2 => ?_⟩
    have e1' := s2 _ _ e1
    refine ⟨_, rfl, p, _, rfl, .inl (.of e1'), _, rfl, r, _, rfl, .of e2, fun m hm => ?_⟩
    have e1'' := (Same.new (o := .lst (cutV (txs (plain fs)) none (some ((txs (plain gs)).length : Int)))) hm) _ _ e1'
    rw [show cutV (txs (plain fs)) none (some ((txs (plain gs)).length : Int)) = (tx ((plain fs).take (plain gs).length)).map V.str from by
      rw [cutV_upto, ← List.map_take, List.length_map]
      exact txs_tx _] at e1'' ⊢
    rw [txs_tx] at e1''
    have okA := plain_ok oa.ok
    have okB := plain_ok ob.ok
    refine ⟨_, rfl, .list ((tx ((plain fs).take (plain gs).length)).map PyData.str), .list ((tx (plain gs)).map PyData.str), .lst (.of upd_same) (dp_strs _), .lst (.of e1'') (dp_strs _), sh_txl fun f hf => okA f (List.mem_of_mem_take hf), sh_txl okB, ?_⟩
    rw [eqv_lstr]
    exact q _ ((s1.trans s2).trans (Same.new hm))
end
end G
set_option Elab.async false
set_option linter.all false
set_option maxRecDepth 100000
set_option maxHeartbeats 8000000
/-! OP: order_parting. -/
namespace G
open PySem PySem.Spec PyProof.Rows L2 NdefX StX DvT
theorem dc_it {J : It} {n : Nat} {G : Hp → Prop} {Y : Nat → Hp → V → Hp → Prop} (w : Walk J n G Y) {g : TG} {tt : TT} {tk tv : TE} {vs : List Nat} {σ : L2.St} {H1 : Hp} {D : Addr} {Qd : Hp → Prop} (Pv : Nat → Hp → Prop) (h0 : Pv 0 (upd H1 D (.dK []))) (hG : ∀ i H, i ≤ n → Pv i H → G H)
    (hs : ∀ i x H H', i < n → Pv i H → Y i H x H' → g x (wipe σ vs) H' fun σ2 H2 => wipe σ2 vs = wipe σ vs ∧ tt σ2 H2 fun b H3 =>
      if b = true then tk σ2 H3 fun y H4 => tv σ2 H4 fun z H5 => ∃ kvs k, y = kV k ∧ H5 D = some (.dK kvs) ∧ kvs.length < sizeLine ∧ Pv (i + 1) (upd H5 D (.dK (putK kvs k z))) else Pv (i + 1) H3) (hd : ∀ H, Pv n H → Qd H) :
    ∃ W : Nat → Nat → Hp → Prop, (∃ m, W 0 m (upd H1 D (.dK []))) ∧ ∀ i m H, W i m H →
      (J.stop i H ∧ Qd H) ∨ (J.go i H ∧ ∃ Nx : Hp → Prop, (∀ H', Nx H' → ∃ m', m' < m ∧ W (i + 1) m' H') ∧ ∀ x H', J.yld i H x H' → g x (wipe σ vs) H' fun σ2 H2 => wipe σ2 vs = wipe σ vs ∧ tt σ2 H2 fun b H3 =>
        if b = true then tk σ2 H3 fun y H4 => tv σ2 H4 fun z H5 => ∃ kvs k, y = kV k ∧ H5 D = some (.dK kvs) ∧ kvs.length < sizeLine ∧ Nx (upd H5 D (.dK (putK kvs k z))) else Nx H3) := by
  refine ⟨fun i m H => m = n - i ∧ i ≤ n ∧ Pv i H, ⟨n, by simp, Nat.zero_le _, h0⟩, ?_⟩
  rintro i m H ⟨rfl, hi, p⟩
  have q := hG i H hi p
  by_cases hlt : i < n
  · exact .inr ⟨w.goes i H hlt q, Pv (i + 1), fun H' p' => ⟨n - (i + 1), by omega, rfl, hlt, p'⟩, fun x H' y => hs i x H H' hlt p (w.yields i H x H' hlt q y)⟩
  · have e : i = n := by omega
    subst e
    exact .inl ⟨w.stops H q, hd H p⟩
theorem fold_take {g : Fld → Int} {l : List Fld} {i : Nat} {f : Fld} (h : l[i]? = some f) : (l.take (i + 1)).foldl (putF g) [] = putK ((l.take i).foldl (putF g) []) (Sum.inr f.nm) (.int (g f)) := by
  rw [take_snoc h, List.foldl_append]
  rfl
section
variable {P : Program} {w : World} {K : PySem.W.Frag} {mg : Str → Option Value} {base : Heap}
/-- from the names on: the two values -/
theorem part_tail {cdv : Value} {A : Around} {outer : List Env} {s : Shared} {H : Hp} {E : XK} {f fN : Addr} {fdN : FuncData} (N : Fun K "is_negative" "is_negative" sNegative fN fdN) (bN : Binds K fdN ["field"] []) (gN : mg "is_negative" = some (.ref fN))
    (mz : mg "zip" = none) (mi : mg "int" = none) (hr : Room 2 (A.deeper (envOfC "order_parting" (defScope sPart) s.heap.objs.size f cdv))) :
    ∃ t, PSs (cxOf CX0 P w K mg base nPart "order_parting" (defScope sPart) f cdv A outer s H E).nox ((defBody sPart).drop 7) t ∧
      ∀ (De : Ends) (ac : Addr) (l : List Fld) (x0 x1 x2 x3 x4 x6 x7 x8 x9 x10 : Option V) (H1 : Hp), H1 ac = some (.lst (txs l)) → l.length ≤ 2 → (∀ f ∈ l, f.Ok) → OneSign l →
        (∀ (T d e : Addr) (H' : Hp), Same H1 H' → d ≠ e → TwoAt H' T d e [] (lesK l) (greK l) → De.rt (.ref T) H') →
        t De [x0, x1, x2, x3, x4, some (.ref ac), x6, x7, x8, x9, x10] H1 := by
  have GN : FnOk P w K mg base CX0 1 fN fdN ["field"] spNegative := ok_negative N
  have hr1 := hr.mono (show 1 ≤ 2 by decide)
  have hu := hu_of hr
  refine ⟨_, pss_cons (ps_setLc (i := 6) (own := [("field", 9)]) (g := gName 9) (tt := tYes) (by rfl) scPart.nd rfl rfl (sw_true rfl rfl rfl (by decide +kernel)) (pi_list (pv 5))
        (blkOk_by (own := [("field", 9)]) (N := nPart) (sc := defScope sPart) (by decide +kernel)) (fun _ _ _ _ _ => pg_name (i := 9) scPart.nd rfl (.inl rfl)) (fun _ _ _ _ _ => pts_nil)
        (fun _ _ _ _ _ => pe_m1 PySem.F.slot_str_removeprefix PySem.F.type_str_removeprefix mt_removeprefix (pv 9) pe_str))
    (pss_cons (ps_set (i := 7) scPart.nd rfl (.inr rfl) (by exact pe_dc (own := [("name", 10), ("field", 9)]) (g := gTup K 2 (gCons (gName 10) (gCons (gName 9) gNil))) (tt := tYes) (by rfl) scPart.nd (pi_zip (by rfl) mz (pa_cons (pv 6) (pa_cons (pv 5) pa_nil))) (blkOk_by (own := [("name", 10), ("field", 9)]) (N := nPart) (sc := defScope sPart) (by decide +kernel)) (fun _ _ _ _ _ => pg_tup (by rfl) (pgs_cons (pg_name (i := 10) scPart.nd rfl (.inl rfl)) (pgs_cons (pg_name (i := 9) scPart.nd rfl (.inl rfl)) pgs_nil))) (fun _ _ _ _ _ => pts_nil) (fun _ _ _ _ _ => pv 10) (fun _ _ _ _ _ => pe_callTy call_int1 (by rfl) mi (by decide +kernel) (pa_cons (pe_call GN hr1 rfl gN N.kp bN .nil pass0 (pa_cons (pv 9) pa_nil)) pa_nil))))
    (pss_one (ps_ret (pe_tup (pa_cons (pv 7) (pa_cons (by exact pe_dc (own := [("name", 10)]) (g := gName 10) (tt := tYes) (by rfl) scPart.nd (pi_list (pv 6)) (blkOk_by (own := [("name", 10)]) (N := nPart) (sc := defScope sPart) (by decide +kernel)) (fun _ _ _ _ _ => pg_name (i := 10) scPart.nd rfl (.inl rfl)) (fun _ _ _ _ _ => pts_nil) (fun _ _ _ _ _ => pv 10) (fun _ _ _ _ _ => pe_op op_sub pe_int (pe_dget hu (pv 7) (pv 10) (fun _ _ => rfl)))) pa_nil)))))), ?_⟩
  intro De ac l x0 x1 x2 x3 x4 x6 x7 x8 x9 x10 H1 ha l2 ok os k
  refine ⟨_, rfl, ac, rfl, ⟨_, .of ha⟩, fun D hD => ?_⟩
  refine lc_list (xs := txs l) (fun i H2 => Same H1 H2 ∧ H2 D = some (.lst (((l.take i).map (·.nm)).map V.str))) ?_ ?_ ?_ ?_
  · exact ⟨Same.new hD, upd_same⟩
  · exact fun _ _ _ h => .of (h.1 _ _ ha)
  · rintro i x H2 hx ⟨s2, e2⟩
    rw [List.getElem?_map] at hx
    obtain ⟨y, hy, rfl⟩ := Option.map_eq_some_iff.mp hx
    have okY := ok y (List.mem_of_getElem? hy)
    have h9 := okY.len
    refine ⟨rfl, ?_⟩
    unfold tYes
    dsimp only
    rw [if_pos rfl]
    refine ⟨_, rfl, ⟨_, rfl⟩, y.tx, _, rfl, rfl, small_size (by omega), ?_⟩
    rw [okY.bare]
    refine ⟨_, e2, ?_, fun c o e => (upd_ne (ne_of_none e hD)).trans (s2 _ _ e), ?_⟩
    · rw [List.length_map, List.length_map, List.length_take]
      exact small1000 (by omega)
    · rw [upd_same, take_snoc hy, List.map_append, List.map_append]
      rfl
  rintro H2 ⟨s2, e2⟩
  rw [List.length_map, List.take_length] at e2
  have ha2 := s2 _ _ ha
  refine ⟨_, rfl, _, rfl, D, ac, _, _, rfl, .of e2, .of ha2, fun d hd => ?_⟩
  have lm : (txs l).length = l.length := List.length_map ..
  have lm2 : ((l.map (·.nm)).map V.str).length = l.length := by rw [List.length_map, List.length_map]
  refine dc_it (walk_zip (xs := (l.map (·.nm)).map V.str) (ys := txs l) (n := l.length) (by rw [lm, lm2, Nat.min_self])) (fun i H3 => Same H2 H3 ∧ H3 d = some (.dK ((l.take i).foldl (putF lesN) []))) ?_ ?_ ?_ ?_
  · exact ⟨Same.new hd, upd_same⟩
  · exact fun _ _ _ h => ⟨.of (h.1 _ _ e2), .of (h.1 _ _ ha2)⟩
  · rintro i x H3 H3' hi ⟨s3, e3⟩ ⟨T, a, b, rfl, hT, rfl, ea, eb⟩
    replace ea : ((l.map (·.nm)).map V.str)[i]? = some a := ea
    replace eb : (txs l)[i]? = some b := eb
    have hy : l[i]? = some l[i] := List.getElem?_eq_getElem hi
    rw [List.getElem?_map, List.getElem?_map, hy] at ea
    rw [List.getElem?_map, hy] at eb
    cases ea
    cases eb
    have okY := ok l[i] (List.getElem_mem hi)
    refine ⟨T, _, rfl, .of upd_same, rfl, _, _, rfl, _, _, rfl, rfl, rfl, ?_⟩
    unfold tYes
    dsimp only
    rw [if_pos rfl]
    refine ⟨_, rfl, _, rfl, l[i], rfl, okY, .inr ⟨_, rfl, ?_⟩⟩
    have ndT : d ≠ T := ne_of_none e3 hT
    refine ⟨_, Sum.inr l[i].nm, rfl, (upd_ne ndT).trans e3, ?_, fun c o e => ?_, ?_⟩
    · have := fold_len lesN (l.take i) []
      rw [List.length_take, List.length_nil] at this
      exact small1000 (by omega)
    · rw [upd_ne (ne_of_none e hd), upd_ne (ne_of_none (s3 _ _ e) hT)]
      exact s3 _ _ e
    · rw [upd_same, fold_take hy]
      rfl
  rintro H3 ⟨s3, e3⟩
  rw [List.take_length] at e3
  have e23 := s3 _ _ e2
  refine ⟨_, rfl, _, rfl, D, rfl, ⟨_, .of e23⟩, fun g hg => ?_⟩
  refine dc_it (walk_list (a := D) (xs := (l.map (·.nm)).map V.str)) (fun i H4 => Same H3 H4 ∧ H4 g = some (.dK ((l.take i).foldl (putF fun f => 1 - lesN f) []))) ?_ ?_ ?_ ?_
  · exact ⟨Same.new hg, upd_same⟩
  · exact fun _ _ _ h => .of (h.1 _ _ e23)
  · rintro i x H4 H4' hi ⟨s4, e4⟩ ⟨rfl, ex⟩
    rw [lm2] at hi
    have hy : l[i]? = some l[i] := List.getElem?_eq_getElem hi
    rw [List.getElem?_map, List.getElem?_map, hy] at ex
    cases ex
    refine ⟨rfl, ?_⟩
    unfold tYes
    dsimp only
    rw [if_pos rfl]
    have hv : valV (lesK l) (Sum.inr l[i].nm : Key) = some (.int (lesN l[i])) := fold_in lesN l [] (fun x hx e => os x hx l[i] (List.getElem_mem hi) e) (.inl ⟨l[i], List.getElem_mem hi, rfl⟩)
    refine ⟨_, rfl, _, rfl, _, rfl, d, .int (lesN l[i]), rfl, .inl ⟨_, Sum.inr l[i].nm, .inl (s4 _ _ e3), rfl, hv.symm⟩, _, _, rfl, rfl, ?_⟩
    refine ⟨_, Sum.inr l[i].nm, rfl, e4, ?_, fun c o e => ?_, ?_⟩
    · have := fold_len (fun f => 1 - lesN f) (l.take i) []
      rw [List.length_take, List.length_nil] at this
      exact small1000 (by omega)
    · rw [upd_ne (ne_of_none e hg)]
      exact s4 _ _ e
    · rw [upd_same, fold_take hy]
  rintro H4 ⟨s4, e4⟩
  rw [lm2, List.take_length] at e4
  have e34 := s4 _ _ e3
  refine ⟨by show 2 ≤ sizeLine; exact small_size (by decide), fun T hT => ?_⟩
  have ndg : d ≠ g := ne_of_none e3 hg
  refine k T d g _ (((s2.trans s3).trans s4).trans (Same.new hT)) ndg ⟨upd_same, (upd_ne (ne_of_none e34 hT)).trans e34, (upd_ne (ne_of_none e4 hT)).trans e4⟩
end
end G
set_option Elab.async false
set_option linter.all false
set_option maxRecDepth 100000
set_option maxHeartbeats 8000000
/-! OP2: order_parting from its head on. -/
namespace G
open PySem PySem.Spec PyProof.Rows L2 NdefX StX DvT
section
variable {P : Program} {w : World} {K : PySem.W.Frag} {mg : Str → Option Value} {base : Heap}
theorem same_bools (A B : List Fld) (n : Nat) {i : Nat} (lt : i < n) : (((List.range n).map (sameUp A B)).map V.bl)[i]? = some (.bl (sameUp A B i)) := by
  rw [List.getElem?_map, List.getElem?_map, List.getElem?_range lt]
  rfl
theorem ok_part {f C fF fT fN fO fG : Addr} {fd fdF fdT fdN fdO fdG : FuncData} (F : Fun K "order_parting" "order_parting" sPart f fd) (c : ByC K C)
    (GN : FnOk P w K mg base CX0 1 fN fdN ["value"] (spNeedO C)) (gN : mg "need_order" = some (.ref fN)) (kN : PySem.W.keepIn K (.ref fN) = true) (bN : Binds K fdN ["value"] [])
    (GT : FnOk P w K mg base CX0 1 fT fdT ["fields"] spTell) (gT : mg "telling_fields" = some (.ref fT)) (kT : PySem.W.keepIn K (.ref fT) = true) (bT : Binds K fdT ["fields"] [])
    (mF : Meth K C "is_as_fine" fF) (GF : FnOk P w K mg base CX0 2 fF fdF ["self", "other"] (spFine C)) (bF : Binds K fdF ["self", "other"] [])
    (GO : FnOk P w K mg base CX0 2 fO fdO ["field"] spOpp) (gO : mg "opposite" = some (.ref fO)) (kO : PySem.W.keepIn K (.ref fO) = true) (bO : Binds K fdO ["field"] [])
    (N : Fun K "is_negative" "is_negative" sNegative fG fdG) (bG : Binds K fdG ["field"] []) (gG : mg "is_negative" = some (.ref fG))
    (ml : mg "len" = none) (mr : mg "range" = none) (mz : mg "zip" = none) (mi : mg "int" = none) : FnOk P w K mg base CX0 3 f fd ["one", "other"] (spPart C) := by
  refine F.ok scPart (fun vs H Q E h => ?_) (fun cdv A outer s H vs Q E hr h => ?_)
  · obtain ⟨a, t, b, u, fs, gs, rfl, _⟩ := h
    rfl
  · obtain ⟨a, t, b, u, fs, gs, rfl, oa, ob, qy, qn⟩ := h
    have hr1 := hr.mono (show 1 ≤ 2 by decide)
    obtain ⟨tz, pz, qz⟩ := part_tail (P := P) (w := w) (K := K) (mg := mg) (base := base) (cdv := cdv) (A := A) (outer := outer) (s := s) (H := H) (E := E) (f := f) N bG gG mz mi hr
    refine ⟨_, pss_cons (ps_expr (pe_call GN hr1 rfl gN kN bN .nil pass0 (pa_cons (pv 0) pa_nil)))
      (pss_cons (ps_expr (pe_call GN hr1 rfl gN kN bN .nil pass0 (pa_cons (pv 1) pa_nil)))
      (pss_cons (ps_if (pt_val (pe_meth (pv 0) c.cl mF GF hr bF .nil pass0 (pa_cons (pv 1) pa_nil))) (pss_one (ps_ret pe_non)) pss_nil)
      (pss_cons (ps_asg (pe_tup (pa_cons (pe_call GT hr1 rfl gT kT bT .nil pass0 (pa_cons (pe_fld (pv 0) rfl) pa_nil)) (pa_cons (pe_call GT hr1 rfl gT kT bT .nil pass0 (pa_cons (pe_fld (pv 1) rfl) pa_nil)) pa_nil)))
        (pg_tup (by rfl) (pgs_cons (pg_name (i := 2) scPart.nd rfl (.inr rfl)) (pgs_cons (pg_name (i := 3) scPart.nd rfl (.inr rfl)) pgs_nil))))
      (pss_cons (ps_set (i := 4) scPart.nd rfl (.inl rfl) (pe_bm PySem.F.plainAttrs_list PySem.F.slot_list_index PySem.F.type_list_index mt_index (by exact pe_lc (own := [("count", 8)]) (g := gName 8) (tt := tYes) (by rfl) scPart.nd (pi_range1 rfl mr (pa_cons (pe_callB call_len_seq (by rfl) ml PySem.boot_len (pa_cons (pv 3) pa_nil)) pa_nil)) (blkOk_by (own := [("count", 8)]) (N := nPart) (sc := defScope sPart) (by decide +kernel)) (fun _ _ _ _ _ => pg_name (i := 8) scPart.nd rfl (.inl rfl)) (fun _ _ _ _ _ => pts_nil) (fun _ _ _ _ _ => pe_cmpR (r := rEqD K) (op_eqD hr.units) (pe_slice (r := rSlL K) sl_list (pv 2) po_none (po_some (pe_op op_add (pv 8) pe_int))) (pe_slice (r := rSlL K) sl_list (pv 3) po_none (po_some (pe_op op_add (pv 8) pe_int))) (nomark _))) (pa_cons pe_bl pa_nil)))
      (pss_cons (ps_set (i := 5) scPart.nd rfl (.inl rfl) (pe_lst (pa_cons (pe_ix ix_list (pv 3) (pv 4) (fun _ _ => rfl)) pa_nil)))
      (pss_cons (ps_if (pt_cmpR op_lt (pv 4) (pe_callB call_len_seq (by rfl) ml PySem.boot_len (pa_cons (pv 2) pa_nil)) (nomark _))
        (pss_one (ps_expr (pe_bm PySem.F.plainAttrs_list PySem.F.slot_list_append PySem.F.type_list_append mt_append (pv 5) (pa_cons (pe_call GO hr rfl gO kO bO .nil pass0 (pa_cons (pe_ix ix_list (pv 2) (pv 4) (fun _ _ => rfl)) pa_nil)) pa_nil)))) pss_nil) pz)))))), ?_⟩
    obtain ⟨dx, ha, ht⟩ := id oa.at_
    obtain ⟨dy, hb, hu⟩ := id ob.at_
    refine ⟨_, rfl, a, t, fs, rfl, oa.at_, ?_⟩
    refine ⟨_, rfl, b, u, gs, rfl, ob.at_, ?_⟩
    refine ⟨_, rfl, a, dx, _, rfl, ha, rfl, _, rfl, a, t, b, u, fs, gs, rfl, oa, ob, fun H1 s1 => ?_⟩
    have okA := plain_ok oa.ok
    have okB := plain_ok ob.ok
    have lA := plain3 oa.l3
    have lB := plain3 ob.l3
    cases hf : fineB (plain fs) (plain gs) with
    | true => exact ⟨_, rfl, iteT (qy hf H1 s1)⟩
    | false =>
      refine ⟨_, rfl, iteF ?_⟩
      obtain ⟨i, hi, h1, h2⟩ := part_at (plain_pos ob.l1) hf
      have pa := part_is okA okB hi h1 h2
      replace qn := qn i pa
      refine ⟨_, rfl, a, C, dx, _, _, rfl, s1 _ _ ha, c.cl, c.n1, rfl, t, fs, rfl, s1 _ _ ht, oa.l3, oa.ok, fun p H2 s2 np e2 => ?_⟩
      refine ⟨_, rfl, b, C, dy, _, _, rfl, s2 _ _ (s1 _ _ hb), c.cl, c.n1, rfl, u, gs, rfl, s2 _ _ (s1 _ _ hu), ob.l3, ob.ok, fun r H3 s3 nr e3 => ?_⟩
      have e2' := s3 _ _ e2
      have s13 := (s1.trans s2).trans s3
      generalize plain fs = FA at okA lA hf h1 h2 pa qn e2'
      generalize plain gs = FB at okB lB hf hi h1 h2 pa qn e3
      clear e2
      refine ⟨by show 2 ≤ sizeLine; exact small_size (by decide), fun T hT => ?_⟩
      have s4 : Same H (upd H3 T (.tup [V.ref p, V.ref r])) := s13.trans (Same.new hT)
      have e2'' := (upd_ne (o := .tup [V.ref p, V.ref r]) (ne_of_none e2' hT)).trans e2'
      have e3' := (upd_ne (o := .tup [V.ref p, V.ref r]) (ne_of_none e3 hT)).trans e3
      refine ⟨T, _, rfl, .of upd_same, rfl, _, _, rfl, _, _, rfl, rfl, ?_⟩
      generalize upd H3 T (.tup [V.ref p, V.ref r]) = H4 at s4 e2'' e3' ⊢
      refine ⟨_, rfl, r, _, rfl, .inl (.of e3'), ((txs FB).length : Int), rfl, by rw [List.length_map]; omega, by rw [List.length_map]; omega, fun D hD => ?_⟩
      have eN : (((txs FB).length : Int)).toNat = FB.length := by rw [List.length_map, Int.toNat_natCast]
      rw [eN]
      refine lc_range (lo := 0) (n := FB.length) (fun j H5 => Same H4 H5 ∧ H5 D = some (.lst (((List.range j).map (sameUp FA FB)).map V.bl))) ?_ ?_ ?_
      · exact ⟨Same.new hD, upd_same⟩
      · rintro j H5 hj ⟨s5, e5⟩
        refine ⟨rfl, ?_⟩
        unfold tYes
        dsimp only
        rw [if_pos rfl]
        have ej : ((0 : Int) + (j : Int) + 1) = ((j + 1 : Nat) : Int) := by omega
        refine ⟨_, rfl, _, rfl, _, _, rfl, rfl, _, rfl, p, _, rfl, .of (s5 _ _ e2''), fun m hm => ?_⟩
        refine ⟨_, rfl, _, rfl, _, _, rfl, rfl, _, rfl, r, _, rfl, .of ((upd_ne (ne_of_none (s5 _ _ e3') hm)).trans (s5 _ _ e3')), fun m2 hm2 => ?_⟩
        rw [ej, cutV_upto, cutV_upto, ← List.map_take, ← List.map_take]
        have em : (upd (upd H5 m (.lst (txs (FA.take (j + 1))))) m2 (.lst (txs (FB.take (j + 1))))) m = some (.lst (txs (FA.take (j + 1)))) := (upd_ne (ne_of_none upd_same (by rw [ej, cutV_upto, ← List.map_take] at hm2; exact hm2))).trans upd_same
        have s6 : Same H5 (upd (upd H5 m (.lst (txs (FA.take (j + 1))))) m2 (.lst (txs (FB.take (j + 1))))) := (Same.new hm).trans (Same.new (by rw [ej, cutV_upto, ← List.map_take] at hm2; exact hm2))
        have em2 : (upd (upd H5 m (.lst (txs (FA.take (j + 1))))) m2 (.lst (txs (FB.take (j + 1))))) m2 = some (.lst (txs (FB.take (j + 1)))) := upd_same
        generalize upd (upd H5 m (.lst (txs (FA.take (j + 1))))) m2 (.lst (txs (FB.take (j + 1)))) = H6 at em em2 s6 ⊢
        rw [txs_tx] at em em2
        refine ⟨.list ((tx (FA.take (j + 1))).map PyData.str), .list ((tx (FB.take (j + 1))).map PyData.str), .lst (.of em) (dp_strs _), .lst (.of em2) (dp_strs _), sh_txl fun f hf => okA f (List.mem_of_mem_take hf), sh_txl fun f hf => okB f (List.mem_of_mem_take hf), ?_⟩
        rw [eqv_lstr]
        refine ⟨_, s6 _ _ e5, ?_, fun c o e => (upd_ne (ne_of_none e hD)).trans (s6 _ _ (s5 _ _ e)), ?_⟩
        · rw [List.length_map, List.length_map, List.length_range]
          exact small1000 (by omega)
        · rw [upd_same, List.range_succ, List.map_append, List.map_append]
          rfl
      rintro H5 ⟨s5, e5⟩
      have hb_ : FB[i]? = some FB[i] := List.getElem?_eq_getElem hi
      refine ⟨.inl ⟨rfl, _, .of e5⟩, D, _, .bl false, i, .bl false, rfl, rfl, .of e5, rfl, List.all_eq_true.mpr fun x hx => ?_, by rw [same_bools FA FB FB.length hi, h1], rfl, fun m z hm hz => ?_, ?_⟩
      · obtain ⟨k, _, rfl⟩ := List.mem_map.mp hx
        rfl
      · rw [same_bools FA FB FB.length (by omega), h2 m hm] at hz
        rw [← Option.some.inj hz]
        rfl
      have e25 := s5 _ _ e2''
      have e35 := s5 _ _ e3'
      refine ⟨_, rfl, _, rfl, r, _, ((i : Nat) : Int), .str FB[i].tx, rfl, rfl, .of e35, atI_nat (by rw [List.getElem?_map, hb_]; rfl), by show 1 ≤ sizeLine; exact small_size (by decide), fun ac hac => ?_⟩
      have s6 := s5.trans (Same.new (o := .lst [V.str FB[i].tx]) hac)
      have e26 := (upd_ne (o := .lst [V.str FB[i].tx]) (ne_of_none e25 hac)).trans e25
      refine ⟨_, rfl, _, rfl, p, _, rfl, .inl (.of e26), _, _, rfl, rfl, _, rfl, ?_⟩
      rw [List.length_map]
      have os := asc_sign okA okB pa
      have okL : ∀ f ∈ ascOf FA FB i, f.Ok := fun f hf => by
        unfold ascOf at hf
        rcases List.mem_append.mp hf with hf | hf
        · rw [Option.mem_toList] at hf
          exact okB f (List.mem_of_getElem? hf)
        · obtain ⟨a, ha, rfl⟩ := List.mem_map.mp hf
          rw [Option.mem_toList] at ha
          exact opp_ok (okA a (List.mem_of_getElem? ha))
      have l2 := asc_len FA FB i
      refine ite2 (fun lt => ?_) (fun ge => ?_)
      · have lt2 : i < FA.length := by
          have := of_decide_eq_true lt
          omega
        have ea_ : FA[i]? = some FA[i] := List.getElem?_eq_getElem lt2
        refine ⟨_, rfl, .inl ⟨rfl, _, .of upd_same⟩, _, rfl, _, rfl, p, _, ((i : Nat) : Int), .str FA[i].tx, rfl, rfl, .of e26, atI_nat (by rw [List.getElem?_map, ea_]; rfl), FA[i], rfl, okA _ (List.getElem_mem lt2), ac, _, _, rfl, rfl, upd_same, by show 1 < sizeLine; decide, ?_⟩
        have el : ascOf FA FB i = [FB[i], FA[i].opp] := by
          unfold ascOf
          rw [hb_, ea_]
          rfl
        rw [el] at qn os okL l2
        rw [upd_upd]
        refine qz _ ac _ _ _ _ _ _ _ _ _ _ _ _ upd_same l2 okL os fun T d e H' s' ne tw => ?_
        refine qn T d e H' (fun c o ec => ?_) ne tw
        refine s' c o ?_
        have e5c := s5 _ _ (s4 _ _ ec)
        rw [upd_ne (ne_of_none e5c hac)]
        exact e5c
      · have ge2 : FA.length ≤ i := by
          have : ¬ ((i : Int) < (FA.length : Int)) := fun z => ge (decide_eq_true z)
          omega
        have el : ascOf FA FB i = [FB[i]] := by
          unfold ascOf
          rw [hb_, List.getElem?_eq_none_iff.mpr ge2]
          rfl
        rw [el] at qn os okL l2
        refine qz _ ac _ _ _ _ _ _ _ _ _ _ _ _ upd_same l2 okL os fun T d e H' s' ne tw => ?_
        exact qn T d e H' (fun c o ec => s' c o (s6 _ _ (s4 _ _ ec))) ne tw
end
end G
set_option Elab.async false
set_option linter.all false
set_option maxRecDepth 100000
set_option maxHeartbeats 4000000
/-! CK: is_name, is_integer, is_value, and the law's own, of things of any kind. -/
namespace G
open PySem PySem.Spec PyProof.Rows L2 NdefX
abbrev sLIsName : Stmt := topS 40
abbrev sLIsNum : Stmt := topS 41
abbrev sLIsVal : Stmt := topS 42
theorem scLIsName : FnScope ["_law_thing", "_law_sign"] ["_law_thing"] (defScope sLIsName) := ⟨rfl, rfl, rfl, by decide +kernel, rfl, by decide +kernel, by decide +kernel⟩
theorem scLIsNum : FnScope ["_law_thing", "_law_small", "_law_great"] ["_law_thing", "_law_small", "_law_great"] (defScope sLIsNum) := ⟨rfl, rfl, rfl, by decide +kernel, rfl, by decide +kernel, by decide +kernel⟩
theorem scLIsVal : FnScope ["_law_thing", "_law_one"] ["_law_thing"] (defScope sLIsVal) := ⟨rfl, rfl, rfl, by decide +kernel, rfl, by decide +kernel, by decide +kernel⟩
def lowB (c : Nat) : Bool := decide (c ∈ abc.cps.toList)
def nameB (z : Str) : Bool := decide (1 ≤ z.length) && decide (z.length ≤ 8) && (cs z).all lowB
def nameV : V → Bool
  | .str z => nameB z
  | _ => false
def intV (lo hi : Int) : V → Bool
  | .int i => decide (lo ≤ i) && decide (i ≤ hi)
  | _ => false
abbrev entB (p : Key × V) : Bool := nameV (kV p.1) && intV (-999) 999 p.2
def valB (kvs : List (Key × V)) : Bool := decide (1 ≤ kvs.length) && decide (kvs.length ≤ 6) && kvs.all entB
def valV' (H : Hp) : V → Bool
  | .ref a => match H a with
    | some (.dK kvs) => valB kvs
    | _ => false
  | _ => false
/-- a dict that can be asked -/
structure TameK (kvs : List (Key × V)) : Prop where
  few : kvs.length ≤ 100
  nd : (kvs.map (·.1)).Nodup
  len : ∀ p ∈ kvs, ∀ z, p.1 = Sum.inr z → z.length ≤ 1000
  flat : ∀ p ∈ kvs, flatV p.2 = true
/-- a thing that can be asked -/
def Tame (H : Hp) : V → Prop
  | .str z => z.length ≤ 1000
  | .ref a => ∀ kvs, H a = some (.dK kvs) → TameK kvs
  | _ => True
theorem rp_flat {K : PySem.W.Frag} {H : Hp} {v : V} (h : flatV v = true) : ∃ d, Rp K H v d := by
  cases v with
  | non => exact ⟨_, .non⟩
  | bl b => exact ⟨_, .bl b⟩
  | int i => exact ⟨_, .int i⟩
  | str z => exact ⟨_, .str z⟩
  | byt b => cases h
  | flt b => cases h
  | ref a => cases h
  | ty n => cases h
theorem rp_key {K : PySem.W.Frag} {H : Hp} (k : Key) : ∃ d, Rp K H (kV k) d := by
  cases k with
  | inl i => exact ⟨_, .int i⟩
  | inr z => exact ⟨_, .str z⟩
def spIsNameT (K : PySem.W.Frag) : Sp := fun vs H Q _ => ∃ (v : V) (d : PyData), vs = [v] ∧ Rp K H v d ∧ (∀ z, v = .str z → z.length ≤ 1000) ∧ ∀ H', Same H H' → Q (.bl (nameV v)) H'
def spIsIntT (K : PySem.W.Frag) : Sp := fun vs H Q _ => ∃ (v : V) (d : PyData) (lo hi : Int), vs = [v, .int lo, .int hi] ∧ Rp K H v d ∧ Q (.bl (intV lo hi v)) H
def spIsValT (K : PySem.W.Frag) : Sp := fun vs H Q _ => ∃ (v : V) (d : PyData), vs = [v] ∧ Rp K H v d ∧ Tame H v ∧ ∀ H', Same H H' → Q (.bl (valV' H v)) H'
theorem small_1000 {n : Nat} (h : n ≤ 1000) : n ≤ sizeLine := by rw [sizeLine_eq]; omega
section
variable {X : Cx}
def rEqNil (K : PySem.W.Frag) : R2 := fun x y H Q => ∃ a b xs, x = .ref a ∧ y = .ref b ∧ SqL K H a xs ∧ SqL K H b [] ∧ Q (.bl xs.isEmpty) H
theorem op_eqNil (hu : X.A.units < cLine) : OpR X (compareOp .Eq) (rEqNil X.K) := by
  intro pins s σ H x y v u Q I rx ry h
  obtain ⟨a, b, xs, rfl, rfl, ha, hb, q⟩ := h
  cases (show v = Value.ref a from rx)
  cases (show u = Value.ref b from ry)
  obtain ⟨us, r1, p1, _⟩ := I.list ha
  obtain ⟨ws, r2, p2, _⟩ := I.list hb
  cases r2
  cases xs with
  | nil =>
    cases r1
    refine SeqAt.RcAt.lists (e := fun _ => true) p1.isList p2.isList rfl hu (fun j h1 h2 => absurd h1 (Nat.not_lt_zero j)) X.prog X.w _ _ ?_
    exact ⟨.bl true, H, I, rfl, q⟩
  | cons x xs =>
    refine SeqAt.RcAt.lists_lengths p1.isList p2.isList ?_ hu X.prog X.w _ _ ?_
    · have := r1.length
      rw [List.length_cons] at this
      rw [List.size_toArray, List.size_toArray, ← this]
      simp
    · exact ⟨.bl false, H, I, rfl, q⟩
end
theorem low_filter (l : List Nat) : ((l.filter fun c => !lowB c).map fun c => V.str ⟨#[c]⟩).isEmpty = l.all lowB := by
  induction l with
  | nil => rfl
  | cons c l ih =>
    rw [List.filter_cons, List.all_cons]
    cases h : lowB c with
    | true =>
      rw [if_neg (by simp)]
      rw [ih, Bool.true_and]
    | false =>
      rw [if_pos (by simp)]
      rfl
theorem ent_filter (l : List (Key × V)) : ((l.filter fun p => !entB p).map fun p => kV p.1).isEmpty = l.all entB := by
  induction l with
  | nil => rfl
  | cons c l ih =>
    rw [List.filter_cons, List.all_cons]
    cases h : entB c with
    | true =>
      rw [if_neg (by simp)]
      rw [ih, Bool.true_and]
    | false =>
      rw [if_pos (by simp)]
      rfl
theorem all_id (l : List Bool) : l.all id = l.all fun b => b := rfl
theorem map_all {α : Type} (f : α → Bool) (l : List α) : (l.map f).all id = l.all f := by rw [List.all_map]; rfl
section
variable {P : Program} {w : World} {K : PySem.W.Frag} {mg : Str → Option Value} {base : Heap}
theorem ok_isintT {f : Addr} {fd : FuncData} (F : Fun K "is_integer" "is_integer" sIsInt f fd) (mi : mg "isinstance" = none) (mn : mg "int" = none) (mb : mg "bool" = none) : FnOk P w K mg base CX0 1 f fd ["value", "low", "high"] (spIsIntT K) := by
  refine F.ok scIsInt (fun vs H Q E h => ?_) (fun cdv A outer s H vs Q E hr h => ?_)
  · obtain ⟨v, d, lo, hi, rfl, _⟩ := h
    rfl
  · obtain ⟨v, d, lo, hi, rfl, hR, q⟩ := h
    refine ⟨_, pss_cons (ps_if (PW.pt (pw_or (pt_not (pt_val (pt_isi "int" (pv 0) (hm := mi) (mn := mn)))) (pw_or1 (pt_val (pt_isi "bool" (pv 0) (hm := mi) (mn := mb)))))) (pss_one (ps_ret pe_bl)) pss_nil)
      (pss_one (ps_ret (pe_chain op_le op_le (pv 1) (pv 0) (pv 2)))), ?_⟩
    refine ⟨_, rfl, _, _, _, _, _, rfl, .ty _, rp_ty hR, kit_i d, _, rfl, ?_⟩
    cases hR with
    | non => exact iteT q
    | str z => exact iteT q
    | lst _ _ => exact iteT q
    | tup _ _ => exact iteT q
    | dic _ _ _ => exact iteT q
    | bl b => exact iteF ⟨_, rfl, _, _, _, _, _, rfl, .ty _, rp_ty (.bl b), kit_b (.bool b), _, rfl, iteT q⟩
    | int v =>
      refine iteF ⟨_, rfl, _, _, _, _, _, rfl, .ty _, rp_ty (.int v), kit_b (.int v), _, rfl, iteF ?_⟩
      refine ⟨_, rfl, _, rfl, _, _, rfl, rfl, _, rfl, ?_⟩
      have q : Q (.bl (decide (lo ≤ v) && decide (v ≤ hi))) H := q
      cases e : decide (lo ≤ v) with
      | false =>
        refine iteF ?_
        rw [e] at q
        exact q
      | true =>
        refine iteT ?_
        rw [e] at q
        exact ⟨_, rfl, _, _, rfl, rfl, q⟩
theorem ok_lisnum {f : Addr} {fd : FuncData} (F : Fun K "_law_is_number" "_law_is_number" sLIsNum f fd) (mi : mg "isinstance" = none) (mn : mg "int" = none) (mb : mg "bool" = none) : FnOk P w K mg base CX0 1 f fd ["_law_thing", "_law_small", "_law_great"] (spIsIntT K) := by
  refine F.ok scLIsNum (fun vs H Q E h => ?_) (fun cdv A outer s H vs Q E hr h => ?_)
  · obtain ⟨v, d, lo, hi, rfl, _⟩ := h
    rfl
  · obtain ⟨v, d, lo, hi, rfl, hR, q⟩ := h
    refine ⟨_, pss_one (ps_ret (pe_and (pt_isi "int" (pv 0) (hm := mi) (mn := mn)) (pe_and (pe_not (pt_isi "bool" (pv 0) (hm := mi) (mn := mb))) (pe_one (pe_chain op_le op_le (pv 1) (pv 0) (pv 2)))))), ?_⟩
    refine ⟨_, rfl, _, _, _, _, _, rfl, .ty _, rp_ty hR, kit_i d, _, rfl, ?_⟩
    cases hR with
    | non => exact iteF q
    | str z => exact iteF q
    | lst _ _ => exact iteF q
    | tup _ _ => exact iteF q
    | dic _ _ _ => exact iteF q
    | bl b => exact iteT ⟨_, rfl, _, _, _, _, _, rfl, .ty _, rp_ty (.bl b), kit_b (.bool b), _, rfl, _, rfl, iteF q⟩
    | int v =>
      refine iteT ⟨_, rfl, _, _, _, _, _, rfl, .ty _, rp_ty (.int v), kit_b (.int v), _, rfl, _, rfl, iteT ?_⟩
      refine ⟨_, rfl, _, rfl, _, _, rfl, rfl, _, rfl, ?_⟩
      have q : Q (.bl (decide (lo ≤ v) && decide (v ≤ hi))) H := q
      cases e : decide (lo ≤ v) with
      | false =>
        refine iteF ?_
        rw [e] at q
        exact q
      | true =>
        refine iteT ?_
        rw [e] at q
        exact ⟨_, rfl, _, _, rfl, rfl, q⟩
theorem ok_isnameT {f : Addr} {fd : FuncData} {t1 t2 : Tok} (F : Fun K "is_name" "is_name" sIsName f fd) (gM : mg "MOST_LETTERS" = some (.int 8 t1)) (gL : mg "LETTERS" = some (.str abc t2)) (mi : mg "isinstance" = none) (ms : mg "str" = none) (ml : mg "len" = none) (ma : mg "all" = none) :
    FnOk P w K mg base CX0 1 f fd ["value"] (spIsNameT K) := by
  refine F.ok scIsName (fun vs H Q E h => ?_) (fun cdv A outer s H vs Q E hr h => ?_)
  · obtain ⟨v, d, rfl, _⟩ := h
    rfl
  · obtain ⟨v, d, rfl, hR, hl, q⟩ := h
    refine ⟨_, pss_cons (ps_if (PW.pt (pw_or (pt_not (pt_val (pt_isi "str" (pv 0) (hm := mi) (mn := ms)))) (pw_or1 (pt_not (pt_chain op_le op_le pe_int (pe_callB call_len_str (by rfl) ml PySem.boot_len (pa_cons (pv 0) pa_nil)) (pe_glob (v := .int 8) rfl gM ⟨_, rfl⟩))))))
        (pss_one (ps_ret pe_bl)) pss_nil)
      (pss_one (ps_ret (pe_callB (cr_all rfl) (by rfl) ma (by decide +kernel) (pa_cons (pe_lc (own := [("letter", 1)]) (g := gName 1) (tt := tYes) (by rfl) scIsName.nd (pi_str (pv 0))
        (blkOk_by (own := [("letter", 1)]) (N := ["value", "letter"]) (sc := defScope sIsName) (by decide +kernel)) (fun _ _ _ _ _ => pg_name (i := 1) scIsName.nd rfl (.inl rfl)) (fun _ _ _ _ _ => pts_nil)
        (fun _ _ _ _ _ => pe_cmpR op_in_sign (pv 1) (pe_glob (v := .str abc) rfl gL ⟨_, rfl⟩) (by rfl))) pa_nil)))), ?_⟩
    refine ⟨_, rfl, _, _, _, _, _, rfl, .ty _, rp_ty hR, kit_s d, _, rfl, ?_⟩
    cases hR with
    | non => exact iteT (q H (.refl _))
    | int i => exact iteT (q H (.refl _))
    | bl b => exact iteT (q H (.refl _))
    | lst _ _ => exact iteT (q H (.refl _))
    | tup _ _ => exact iteT (q H (.refl _))
    | dic _ _ _ => exact iteT (q H (.refl _))
    | str z =>
      have l1000 := hl z rfl
      replace q : ∀ H', Same H H' → Q (.bl (nameB z)) H' := q
      refine iteF ⟨_, rfl, z, rfl, small_1000 l1000, _, _, rfl, rfl, _, rfl, ?_⟩
      unfold nameB at q
      by_cases h1 : 1 ≤ z.length
      · rw [decide_eq_true (show (1 : Int) ≤ (z.length : Int) by omega)]
        rw [decide_eq_true h1, Bool.true_and] at q
        refine iteT ⟨_, _, rfl, rfl, _, rfl, ?_⟩
        by_cases h8 : z.length ≤ 8
        · rw [decide_eq_true (show (z.length : Int) ≤ 8 by omega)]
          rw [decide_eq_true h8, Bool.true_and] at q
          refine iteF ?_
          refine ⟨_, rfl, z, rfl, fun D hD => ?_⟩
          refine lc_it walk_str (fun i H2 => Same H H2 ∧ H2 D = some (.lst ((((cs z).take i).map lowB).map V.bl))) ?_ ?_ ?_ ?_
          · exact ⟨Same.new hD, upd_same⟩
          · exact fun _ _ _ _ => trivial
          · rintro i x H2 H3 hi ⟨s2, e2⟩ ⟨rfl, c, hc, rfl⟩
            have hc2 : (cs z)[i]? = some c := by
              rw [← hc, ← Array.getElem?_toList]
            have hzs : z.cps.size = z.length := rfl
            refine ⟨rfl, ?_⟩
            unfold tYes
            dsimp only
            rw [if_pos rfl]
            refine ⟨_, rfl, c, _, rfl, rfl, _, e2, ?_, fun a o e => ?_, ?_⟩
            · rw [List.length_map, List.length_map, List.length_take]
              exact small1000 (by omega)
            · rw [upd_ne (ne_of_none e hD)]
              exact s2 _ _ e
            · rw [upd_same, take_snoc hc2, List.map_append, List.map_append]
              rfl
          · rintro H2 ⟨s2, e2⟩
            refine ⟨D, _, rfl, .of e2, ?_⟩
            rw [show (cs z).take z.cps.size = cs z from List.take_of_length_le (Nat.le_of_eq (cs_len z)), map_all]
            exact q H2 s2
        · rw [decide_eq_false (show ¬ (z.length : Int) ≤ 8 by omega)]
          rw [decide_eq_false h8, Bool.false_and] at q
          exact iteT (q H (.refl _))
      · rw [decide_eq_false (show ¬ (1 : Int) ≤ (z.length : Int) by omega)]
        rw [decide_eq_false h1, Bool.false_and, Bool.false_and] at q
        exact iteF ⟨_, rfl, iteT (q H (.refl _))⟩
theorem ok_lisname {f : Addr} {fd : FuncData} (F : Fun K "_law_is_name" "_law_is_name" sLIsName f fd) (mi : mg "isinstance" = none) (ms : mg "str" = none) (ml : mg "len" = none) :
    FnOk P w K mg base CX0 1 f fd ["_law_thing"] (spIsNameT K) := by
  refine F.ok scLIsName (fun vs H Q E h => ?_) (fun cdv A outer s H vs Q E hr h => ?_)
  · obtain ⟨v, d, rfl, _⟩ := h
    rfl
  · obtain ⟨v, d, rfl, hR, hl, q⟩ := h
    have hu0 : (A.deeper (envOfC "_law_is_name" (defScope sLIsName) s.heap.objs.size f cdv)).units < cLine := by have := hr.units; omega
    refine ⟨_, pss_cons (ps_if (PW.pt (pw_or (pt_not (pt_val (pt_isi "str" (pv 0) (hm := mi) (mn := ms)))) (pw_or1 (pt_not (pt_chain op_le op_le pe_int (pe_callB call_len_str (by rfl) ml PySem.boot_len (pa_cons (pv 0) pa_nil)) pe_int)))))
        (pss_one (ps_ret pe_bl)) pss_nil)
      (pss_one (ps_ret (pe_cmpR (op_eqNil hu0) (by exact pe_lc (own := [("_law_sign", 1)]) (g := gName 1) (by rfl) scLIsName.nd (pi_str (pv 0)) (blkOk_by (own := [("_law_sign", 1)]) (N := ["_law_thing", "_law_sign"]) (sc := defScope sLIsName) (by decide +kernel)) (fun _ _ _ _ _ => pg_name (i := 1) scLIsName.nd rfl (.inl rfl)) (fun _ _ _ _ _ => pts_one (pt_cmpR op_notIn_sign (pv 1) pe_str (by rfl))) (fun _ _ _ _ _ => pv 1)) (pe_lst pa_nil) (nomark _)))), ?_⟩
    refine ⟨_, rfl, _, _, _, _, _, rfl, .ty _, rp_ty hR, kit_s d, _, rfl, ?_⟩
    cases hR with
    | non => exact iteT (q H (.refl _))
    | int i => exact iteT (q H (.refl _))
    | bl b => exact iteT (q H (.refl _))
    | lst _ _ => exact iteT (q H (.refl _))
    | tup _ _ => exact iteT (q H (.refl _))
    | dic _ _ _ => exact iteT (q H (.refl _))
    | str z =>
      have l1000 := hl z rfl
      replace q : ∀ H', Same H H' → Q (.bl (nameB z)) H' := q
      refine iteF ⟨_, rfl, z, rfl, small_1000 l1000, _, _, rfl, rfl, _, rfl, ?_⟩
      unfold nameB at q
      by_cases h1 : 1 ≤ z.length
      · rw [decide_eq_true (show (1 : Int) ≤ (z.length : Int) by omega)]
        rw [decide_eq_true h1, Bool.true_and] at q
        refine iteT ⟨_, _, rfl, rfl, _, rfl, ?_⟩
        by_cases h8 : z.length ≤ 8
        · rw [decide_eq_true (show (z.length : Int) ≤ 8 by omega)]
          rw [decide_eq_true h8, Bool.true_and] at q
          refine iteF ?_
          refine ⟨_, rfl, z, rfl, fun D hD => ?_⟩
          refine lc_it walk_str (fun i H2 => Same H H2 ∧ H2 D = some (.lst ((((cs z).take i).filter fun c => !lowB c).map fun c => V.str ⟨#[c]⟩))) ?_ ?_ ?_ ?_
          · exact ⟨Same.new hD, upd_same⟩
          · exact fun _ _ _ _ => trivial
          · rintro i x H2 H3 hi ⟨s2, e2⟩ ⟨rfl, c, hc, rfl⟩
            have hc2 : (cs z)[i]? = some c := by
              rw [← hc, ← Array.getElem?_toList]
            have hzs : z.cps.size = z.length := rfl
            refine ⟨rfl, ?_⟩
            refine ⟨_, rfl, c, abc, rfl, rfl, _, rfl, ?_⟩
            have hx : decide (c ∈ abc.cps.toList) = lowB c := rfl
            rw [hx]
            cases hc3 : lowB c with
            | true =>
              refine iteF ⟨s2, ?_⟩
              rw [take_snoc hc2, List.filter_append, List.filter_cons, hc3, if_neg (by simp), List.filter_nil, List.append_nil]
              exact e2
            | false =>
              refine iteT ⟨_, rfl, _, e2, ?_, fun a o e => ?_, ?_⟩
              · rw [List.length_map]
                have := List.length_filter_le (fun c => !lowB c) ((cs z).take i)
                rw [List.length_take] at this
                exact small1000 (by omega)
              · rw [upd_ne (ne_of_none e hD)]
                exact s2 _ _ e
              · rw [upd_same, take_snoc hc2, List.filter_append, List.filter_cons, hc3, if_pos (by simp), List.filter_nil, List.map_append]
                rfl
          · rintro H2 ⟨s2, e2⟩
            rw [show (cs z).take z.cps.size = cs z from List.take_of_length_le (Nat.le_of_eq (cs_len z))] at e2
            refine ⟨by show 0 ≤ sizeLine; exact Nat.zero_le _, fun m hm => ?_⟩
            refine ⟨D, m, _, rfl, rfl, .of ((upd_ne (ne_of_none e2 hm)).trans e2), .of upd_same, ?_⟩
            rw [low_filter]
            exact q _ (s2.trans (Same.new hm))
        · rw [decide_eq_false (show ¬ (z.length : Int) ≤ 8 by omega)]
          rw [decide_eq_false h8, Bool.false_and] at q
          exact iteT (q H (.refl _))
      · rw [decide_eq_false (show ¬ (1 : Int) ≤ (z.length : Int) by omega)]
        rw [decide_eq_false h1, Bool.false_and, Bool.false_and] at q
        exact iteF ⟨_, rfl, iteT (q H (.refl _))⟩
theorem tame_key {kvs : List (Key × V)} (h : TameK kvs) {p : Key × V} (hp : p ∈ kvs) : ∀ z, kV p.1 = .str z → z.length ≤ 1000 := fun z e => by
  obtain ⟨k, v⟩ := p
  cases k with
  | inl i => cases e
  | inr y =>
    cases e
    exact h.len _ hp _ rfl
theorem ok_isvalT {f fN fI : Addr} {fd fdN fdI : FuncData} {t1 t2 : Tok} (F : Fun K "is_value" "is_value" sIsValue f fd) (kN : PySem.W.keepIn K (.ref fN) = true) (bN : Binds K fdN ["value"] []) (gN : mg "is_name" = some (.ref fN))
    (GN : FnOk P w K mg base CX0 1 fN fdN ["value"] (spIsNameT K)) (kI : PySem.W.keepIn K (.ref fI) = true) (bI : Binds K fdI ["value", "low", "high"] []) (gI : mg "is_integer" = some (.ref fI)) (GI : FnOk P w K mg base CX0 1 fI fdI ["value", "low", "high"] (spIsIntT K))
    (gM : mg "MOST_FIELDS" = some (.int 6 t1)) (gG : mg "GREATEST" = some (.int 999 t2)) (mi : mg "isinstance" = none) (md : mg "dict" = none) (ml : mg "len" = none) (ma : mg "all" = none) :
    FnOk P w K mg base CX0 2 f fd ["value"] (spIsValT K) := by
  refine F.ok scIsValue (fun vs H Q E h => ?_) (fun cdv A outer s H vs Q E hr h => ?_)
  · obtain ⟨v, d, rfl, _⟩ := h
    rfl
  · obtain ⟨v, d, rfl, hR, hT, q⟩ := h
    have hu := hu_of hr
    refine ⟨_, pss_cons (ps_if (PW.pt (pw_or (pt_not (pt_val (pt_isi "dict" (pv 0) (hm := mi) (mn := md)))) (pw_or1 (pt_not (pt_chain op_le op_le pe_int (pe_callB call_lenD (by rfl) ml PySem.boot_len (pa_cons (pv 0) pa_nil)) (pe_glob (v := .int 6) rfl gM ⟨_, rfl⟩))))))
        (pss_one (ps_ret pe_bl)) pss_nil)
      (pss_one (ps_ret (pe_callB (cr_all rfl) (by rfl) ma (by decide +kernel) (pa_cons (pe_lock (pe_lc (own := [("field", 1)]) (g := gName 1) (tt := tYes) (by rfl) scIsValue.nd (pi_keys (pv 0))
        (blkOk_by (own := [("field", 1)]) (N := ["value", "field"]) (sc := defScope sIsValue) (by decide +kernel)) (fun _ _ _ _ _ => pg_name (i := 1) scIsValue.nd rfl (.inl rfl)) (fun _ _ _ _ _ => pts_nil)
        (fun _ _ _ _ _ => pe_and (pe_call GN hr rfl gN kN bN .nil pass0 (pa_cons (pv 1) pa_nil)) (pe_one (pe_call GI hr rfl gI kI bI .nil pass0 (pa_cons (pe_dget hu (pv 0) (pv 1) (fun _ _ => rfl))
          (pa_cons (pe_un un_neg (pe_glob (v := .int 999) rfl gG ⟨_, rfl⟩)) (pa_cons (pe_glob (v := .int 999) rfl gG ⟨_, rfl⟩) pa_nil)))))))) pa_nil)))), ?_⟩
    refine ⟨_, rfl, _, _, _, _, _, rfl, .ty _, rp_ty hR, kit_d d, _, rfl, ?_⟩
    cases hR with
    | non => exact iteT (q H (.refl _))
    | int i => exact iteT (q H (.refl _))
    | bl b => exact iteT (q H (.refl _))
    | str z => exact iteT (q H (.refl _))
    | @lst a xs ds h _ =>
      have e : valV' H (.ref a) = false := by show (match H _ with | some (.dK kvs) => valB kvs | _ => false) = false; rw [h]
      rw [e] at q
      exact iteT (q H (.refl _))
    | @tup a xs ds h _ =>
      have e : valV' H (.ref a) = false := by show (match H _ with | some (.dK kvs) => valB kvs | _ => false) = false; rw [h]
      rw [e] at q
      exact iteT (q H (.refl _))
    | @dic d kvs ds hd _ _ =>
      have e : valV' H (.ref d) = valB kvs := by show (match H _ with | some (.dK kvs) => valB kvs | _ => false) = _; rw [hd]
      rw [e] at q
      have tm := hT kvs hd
      have few := tm.few
      unfold valB at q
      refine iteF ⟨_, rfl, d, kvs, rfl, hd, _, _, rfl, rfl, _, rfl, ?_⟩
      by_cases h1 : 1 ≤ kvs.length
      · rw [decide_eq_true (show (1 : Int) ≤ (kvs.length : Int) by omega)]
        rw [decide_eq_true h1, Bool.true_and] at q
        refine iteT ⟨_, _, rfl, rfl, _, rfl, ?_⟩
        by_cases h6 : kvs.length ≤ 6
        · rw [decide_eq_true (show (kvs.length : Int) ≤ 6 by omega)]
          rw [decide_eq_true h6, Bool.true_and] at q
          refine iteF ?_
          refine ⟨d, _, hd, trivial, fun od => ?_⟩
          refine ⟨_, rfl, d, od, rfl, .inl ⟨kvs, upd_same, fun D hD => ?_⟩⟩
          have ndD : d ≠ D := fun z => by
            rw [← z, upd_same] at hD
            cases hD
          have fD : H D = none := (upd_ne ndD.symm).symm.trans hD
          refine lc_it walk_keys (fun i H2 => But d H H2 ∧ H2 d = some (.frz od (.dK kvs)) ∧ H2 D = some (.lst (((kvs.take i).map entB).map V.bl))) ?_ ?_ ?_ ?_
          · exact ⟨but_upd But.upd fD, (upd_ne ndD).trans upd_same, upd_same⟩
          · exact fun _ _ _ h => h.2.1
          · rintro i x H2 H3 hi ⟨b2, d2, e2⟩ ⟨rfl, k, v, hk, rfl⟩
            have hm := List.mem_of_getElem? hk
            obtain ⟨dk, rk⟩ := rp_key (K := K) (H := H3) k
            have hv : valV kvs k = some v := valV_nodup tm.nd _ hm
            refine ⟨rfl, ?_⟩
            unfold tYes
            dsimp only
            rw [if_pos rfl]
            have fin : ∀ (b : Bool) (H4 : Hp), Same H3 H4 → b = entB (k, v) → ∃ acc, H4 D = some (.lst acc) ∧ acc.length < sizeLine ∧ (But d H (upd H4 D (.lst (acc ++ [V.bl b]))) ∧ (upd H4 D (.lst (acc ++ [V.bl b]))) d = some (.frz od (.dK kvs)) ∧ (upd H4 D (.lst (acc ++ [V.bl b]))) D = some (.lst (((kvs.take (i + 1)).map entB).map V.bl))) := by
              rintro b H4 s4 rfl
              refine ⟨_, s4 _ _ e2, ?_, but_upd (b2.trans (But.same s4)) fD, (upd_ne ndD).trans (s4 _ _ d2), ?_⟩
              · rw [List.length_map, List.length_map, List.length_take]
                exact small1000 (by omega)
              · rw [upd_same, take_snoc hk, List.map_append, List.map_append]
                rfl
            refine ⟨_, rfl, kV k, dk, rfl, rk, tame_key tm hm, fun H4 s4 => ⟨_, rfl, ?_⟩⟩
            cases hn : nameV (kV k) with
            | false =>
              refine iteF ?_
              exact fin false H4 s4 (by show false = (nameV (kV k) && _); rw [hn]; rfl)
            | true =>
              refine iteT ?_
              obtain ⟨dv, rv⟩ := rp_flat (K := K) (H := H4) (tm.flat _ hm)
              refine ⟨_, rfl, _, rfl, d, v, rfl, .inl ⟨kvs, k, .inr ⟨od, s4 _ _ d2⟩, rfl, hv.symm⟩, _, rfl, v, dv, -999, 999, rfl, rv, ?_⟩
              exact fin _ H4 s4 (by show intV (-999) 999 v = (nameV (kV k) && _); rw [hn]; rfl)
          · rintro H2 ⟨b2, d2, e2⟩
            rw [List.take_length] at e2
            refine ⟨d2, D, _, rfl, .of ((upd_ne ndD.symm).trans e2), ?_⟩
            rw [map_all]
            refine q _ fun c o e => ?_
            by_cases hc : c = d
            · rw [hc] at e ⊢
              rw [hd] at e
              rw [← e]
              exact upd_same
            · rw [upd_ne hc]
              exact b2 c o hc e
        · rw [decide_eq_false (show ¬ (kvs.length : Int) ≤ 6 by omega)]
          rw [decide_eq_false h6, Bool.false_and] at q
          exact iteT (q H (.refl _))
      · rw [decide_eq_false (show ¬ (1 : Int) ≤ (kvs.length : Int) by omega)]
        rw [decide_eq_false h1, Bool.false_and, Bool.false_and] at q
        exact iteF ⟨_, rfl, iteT (q H (.refl _))⟩
theorem ok_lisval {f fN fI : Addr} {fd fdN fdI : FuncData} (F : Fun K "_law_is_value" "_law_is_value" sLIsVal f fd) (kN : PySem.W.keepIn K (.ref fN) = true) (bN : Binds K fdN ["_law_thing"] []) (gN : mg "_law_is_name" = some (.ref fN))
    (GN : FnOk P w K mg base CX0 1 fN fdN ["_law_thing"] (spIsNameT K)) (kI : PySem.W.keepIn K (.ref fI) = true) (bI : Binds K fdI ["_law_thing", "_law_small", "_law_great"] []) (gI : mg "_law_is_number" = some (.ref fI)) (GI : FnOk P w K mg base CX0 1 fI fdI ["_law_thing", "_law_small", "_law_great"] (spIsIntT K))
    (mi : mg "isinstance" = none) (md : mg "dict" = none) (ml : mg "len" = none) :
    FnOk P w K mg base CX0 2 f fd ["_law_thing"] (spIsValT K) := by
  refine F.ok scLIsVal (fun vs H Q E h => ?_) (fun cdv A outer s H vs Q E hr h => ?_)
  · obtain ⟨v, d, rfl, _⟩ := h
    rfl
  · obtain ⟨v, d, rfl, hR, hT, q⟩ := h
    have hu := hu_of hr
    have hu0 : (A.deeper (envOfC "_law_is_value" (defScope sLIsVal) s.heap.objs.size f cdv)).units < cLine := by have := hr.units; omega
    refine ⟨_, pss_cons (ps_if (PW.pt (pw_or (pt_not (pt_val (pt_isi "dict" (pv 0) (hm := mi) (mn := md)))) (pw_or1 (pt_not (pt_chain op_le op_le pe_int (pe_callB call_lenD (by rfl) ml PySem.boot_len (pa_cons (pv 0) pa_nil)) pe_int)))))
        (pss_one (ps_ret pe_bl)) pss_nil)
      (pss_one (ps_ret (pe_cmpR (op_eqNil hu0) (pe_lock (by exact pe_lc (own := [("_law_one", 1)]) (g := gName 1) (by rfl) scLIsVal.nd (pi_keys (pv 0)) (blkOk_by (own := [("_law_one", 1)]) (N := ["_law_thing", "_law_one"]) (sc := defScope sLIsVal) (by decide +kernel)) (fun _ _ _ _ _ => pg_name (i := 1) scLIsVal.nd rfl (.inl rfl)) (fun _ _ _ _ _ => pts_one (PW.pt (pw_or (pt_not (pt_val (pe_call GN hr rfl gN kN bN .nil pass0 (pa_cons (pv 1) pa_nil)))) (pw_or1 (pt_not (pt_val (pe_call GI hr rfl gI kI bI .nil pass0 (pa_cons (pe_dget hu (pv 0) (pv 1) (fun _ _ => rfl)) (pa_cons (pe_un un_neg pe_int) (pa_cons pe_int pa_nil)))))))))) (fun _ _ _ _ _ => pv 1))) (pe_lst pa_nil) (nomark _)))), ?_⟩
    refine ⟨_, rfl, _, _, _, _, _, rfl, .ty _, rp_ty hR, kit_d d, _, rfl, ?_⟩
    cases hR with
    | non => exact iteT (q H (.refl _))
    | int i => exact iteT (q H (.refl _))
    | bl b => exact iteT (q H (.refl _))
    | str z => exact iteT (q H (.refl _))
    | @lst a xs ds h _ =>
      have e : valV' H (.ref a) = false := by show (match H _ with | some (.dK kvs) => valB kvs | _ => false) = false; rw [h]
      rw [e] at q
      exact iteT (q H (.refl _))
    | @tup a xs ds h _ =>
      have e : valV' H (.ref a) = false := by show (match H _ with | some (.dK kvs) => valB kvs | _ => false) = false; rw [h]
      rw [e] at q
      exact iteT (q H (.refl _))
    | @dic d kvs ds hd _ _ =>
      have e : valV' H (.ref d) = valB kvs := by show (match H _ with | some (.dK kvs) => valB kvs | _ => false) = _; rw [hd]
      rw [e] at q
      have tm := hT kvs hd
      have few := tm.few
      unfold valB at q
      refine iteF ⟨_, rfl, d, kvs, rfl, hd, _, _, rfl, rfl, _, rfl, ?_⟩
      by_cases h1 : 1 ≤ kvs.length
      · rw [decide_eq_true (show (1 : Int) ≤ (kvs.length : Int) by omega)]
        rw [decide_eq_true h1, Bool.true_and] at q
        refine iteT ⟨_, _, rfl, rfl, _, rfl, ?_⟩
        by_cases h6 : kvs.length ≤ 6
        · rw [decide_eq_true (show (kvs.length : Int) ≤ 6 by omega)]
          rw [decide_eq_true h6, Bool.true_and] at q
          refine iteF ?_
          refine ⟨d, _, hd, trivial, fun od => ?_⟩
          refine ⟨_, rfl, d, od, rfl, .inl ⟨kvs, upd_same, fun D hD => ?_⟩⟩
          have ndD : d ≠ D := fun z => by
            rw [← z, upd_same] at hD
            cases hD
          have fD : H D = none := (upd_ne ndD.symm).symm.trans hD
          refine lc_it walk_keys (fun i H2 => But d H H2 ∧ H2 d = some (.frz od (.dK kvs)) ∧ H2 D = some (.lst (((kvs.take i).filter fun p => !entB p).map fun p => kV p.1))) ?_ ?_ ?_ ?_
          · exact ⟨but_upd But.upd fD, (upd_ne ndD).trans upd_same, upd_same⟩
          · exact fun _ _ _ h => h.2.1
          · rintro i x H2 H3 hi ⟨b2, d2, e2⟩ ⟨rfl, k, v, hk, rfl⟩
            have hm := List.mem_of_getElem? hk
            obtain ⟨dk, rk⟩ := rp_key (K := K) (H := H3) k
            have hv : valV kvs k = some v := valV_nodup tm.nd _ hm
            refine ⟨rfl, ?_⟩
            have yes : ∀ (H4 : Hp), Same H3 H4 → entB (k, v) = true → But d H H4 ∧ H4 d = some (.frz od (.dK kvs)) ∧ H4 D = some (.lst (((kvs.take (i + 1)).filter fun p => !entB p).map fun p => kV p.1)) := by
              intro H4 s4 he
              refine ⟨b2.trans (But.same s4), s4 _ _ d2, ?_⟩
              rw [take_snoc hk, List.filter_append, List.filter_cons, he, if_neg (by simp), List.filter_nil, List.append_nil]
              exact s4 _ _ e2
            have no : ∀ (H4 : Hp), Same H3 H4 → entB (k, v) = false → ∃ acc, H4 D = some (.lst acc) ∧ acc.length < sizeLine ∧ (But d H (upd H4 D (.lst (acc ++ [kV k]))) ∧ (upd H4 D (.lst (acc ++ [kV k]))) d = some (.frz od (.dK kvs)) ∧ (upd H4 D (.lst (acc ++ [kV k]))) D = some (.lst (((kvs.take (i + 1)).filter fun p => !entB p).map fun p => kV p.1))) := by
              intro H4 s4 he
              refine ⟨_, s4 _ _ e2, ?_, but_upd (b2.trans (But.same s4)) fD, (upd_ne ndD).trans (s4 _ _ d2), ?_⟩
              · rw [List.length_map]
                have := List.length_filter_le (fun p => !entB p) (kvs.take i)
                rw [List.length_take] at this
                exact small1000 (by omega)
              · rw [upd_same, take_snoc hk, List.filter_append, List.filter_cons, he, if_pos (by simp), List.filter_nil, List.map_append]
                rfl
            refine ⟨_, rfl, kV k, dk, rfl, rk, tame_key tm hm, fun H4 s4 => ⟨_, rfl, ?_⟩⟩
            cases hn : nameV (kV k) with
            | false =>
              refine iteT ⟨_, rfl, ?_⟩
              exact no H4 s4 (by show (nameV (kV k) && _) = false; rw [hn]; rfl)
            | true =>
              refine iteF ?_
              obtain ⟨dv, rv⟩ := rp_flat (K := K) (H := H4) (tm.flat _ hm)
              refine ⟨_, rfl, _, rfl, d, v, rfl, .inl ⟨kvs, k, .inr ⟨od, s4 _ _ d2⟩, rfl, hv.symm⟩, _, rfl, v, dv, -999, 999, rfl, rv, _, rfl, ?_⟩
              cases hi2 : intV (-999) 999 v with
              | false => exact iteT ⟨_, rfl, no H4 s4 (by show (nameV (kV k) && intV (-999) 999 v) = false; rw [hn, hi2]; rfl)⟩
              | true => exact iteF (yes H4 s4 (by show (nameV (kV k) && intV (-999) 999 v) = true; rw [hn, hi2]; rfl))
          · rintro H2 ⟨b2, d2, e2⟩
            rw [List.take_length] at e2
            refine ⟨d2, by show 0 ≤ sizeLine; exact Nat.zero_le _, fun m hm => ?_⟩
            refine ⟨D, m, _, rfl, rfl, .of ((upd_ne (ne_of_none ((upd_ne ndD.symm).trans e2) hm)).trans ((upd_ne ndD.symm).trans e2)), .of upd_same, ?_⟩
            rw [ent_filter]
            refine q _ fun c o e => ?_
            have hc : (upd H2 d (.dK kvs)) c = some o := by
              by_cases hc : c = d
              · rw [hc] at e ⊢
                rw [hd] at e
                rw [← e]
                exact upd_same
              · rw [upd_ne hc]
                exact b2 c o hc e
            rw [upd_ne (ne_of_none hc hm)]
            exact hc
        · rw [decide_eq_false (show ¬ (kvs.length : Int) ≤ 6 by omega)]
          rw [decide_eq_false h6, Bool.false_and] at q
          exact iteT (q H (.refl _))
      · rw [decide_eq_false (show ¬ (1 : Int) ≤ (kvs.length : Int) by omega)]
        rw [decide_eq_false h1, Bool.false_and, Bool.false_and] at q
        exact iteF ⟨_, rfl, iteT (q H (.refl _))⟩
end
end G
set_option Elab.async false
set_option linter.all false
set_option maxRecDepth 100000
set_option maxHeartbeats 8000000
/-! IP: is_order_parting, _law_parts. -/
namespace G
open PySem PySem.Spec PyProof.Rows L2 NdefX StX DvT
abbrev sIsPart : Stmt := topS 33
abbrev sLParts : Stmt := topS 48
abbrev nIsPart : List Str := ["one", "other", "found", "first", "second", "is_lesser", "value"]
theorem scIsPart : FnScope nIsPart ["one", "other", "found"] (defScope sIsPart) := ⟨rfl, rfl, rfl, by decide +kernel, rfl, by decide +kernel, by decide +kernel⟩
theorem scLParts : FnScope ["_law_one", "_law_other_here", "_law_found"] ["_law_one", "_law_other_here", "_law_found"] (defScope sLParts) := ⟨rfl, rfl, rfl, by decide +kernel, rfl, by decide +kernel, by decide +kernel⟩
def kvsV (H : Hp) : V → List (Key × V)
  | .ref d => match H d with
    | some (.dK kvs) => kvs
    | _ => []
  | _ => []
def pairB (H : Hp) (fs gs : List Fld) (a b : V) : Bool := valV' H a && (valV' H b && (ltI (ansL gs (kvsV H a)) (ansL gs (kvsV H b)) && !ltI (ansL fs (kvsV H a)) (ansL fs (kvsV H b))))
def partsV (H : Hp) (fs gs : List Fld) : V → Bool
  | .ref T => match H T with
    | some (.tup [a, b]) => pairB H fs gs a b
    | _ => false
  | _ => false
structure AskOk (K : PySem.W.Frag) (H : Hp) (v : V) : Prop where
  rp : ∃ d, Rp K H v d
  tm : Tame H v
structure FoundOk (K : PySem.W.Frag) (H : Hp) (v : V) : Prop where
  rp : ∃ d, Rp K H v d
  pr : ∀ T a b, v = .ref T → H T = some (.tup [a, b]) → AskOk K H a ∧ AskOk K H b
section
variable {K : PySem.W.Frag} {H H' : Hp} {v : V} {d : PyData}
theorem tame_same (h : Tame H v) (s : Same H H') (r : Rp K H v d) : Tame H' v := by
  cases r with
  | non => exact trivial
  | bl b => exact trivial
  | int i => exact trivial
  | str z => exact h
  | @lst a xs ds e _ =>
    intro kvs ek
    rw [s _ _ e] at ek
    cases ek
  | @tup a xs ds e _ =>
    intro kvs ek
    rw [s _ _ e] at ek
    cases ek
  | @dic a kvs0 ds e _ _ =>
    intro kvs ek
    rw [s _ _ e] at ek
    cases ek
    exact h _ e
theorem AskOk.same (h : AskOk K H v) (s : Same H H') : AskOk K H' v := by
  obtain ⟨d, r⟩ := h.rp
  exact ⟨⟨d, rp_same s _ _ r⟩, tame_same h.tm s r⟩
theorem val_same (s : Same H H') (r : Rp K H v d) : valV' H' v = valV' H v := by
  cases r with
  | non => rfl
  | bl b => rfl
  | int i => rfl
  | str z => rfl
  | @lst a xs ds e _ =>
    show (match H' a with | some (.dK kvs) => valB kvs | _ => false) = (match H a with | some (.dK kvs) => valB kvs | _ => false)
    rw [e, s _ _ e]
  | @tup a xs ds e _ =>
    show (match H' a with | some (.dK kvs) => valB kvs | _ => false) = (match H a with | some (.dK kvs) => valB kvs | _ => false)
    rw [e, s _ _ e]
  | @dic a kvs0 ds e _ _ =>
    show (match H' a with | some (.dK kvs) => valB kvs | _ => false) = (match H a with | some (.dK kvs) => valB kvs | _ => false)
    rw [e, s _ _ e]
theorem val_is (h : valV' H v = true) : ∃ (d : Addr) (kvs : List (Key × V)) (zs : List Str), v = .ref d ∧ H d = some (.dK kvs) ∧ kvsV H v = kvs ∧ ValN zs kvs := by
  cases v with
  | ref d =>
    have h : (match H d with | some (.dK kvs) => valB kvs | _ => false) = true := h
    split at h
    · rename_i kvs e
      have ek : kvsV H (.ref d) = kvs := by
        show (match H d with | some (.dK kvs) => kvs | _ => []) = kvs
        rw [e]
      refine ⟨d, kvs, kvs.filterMap fun p => match p.1 with | .inr z => some z | .inl _ => none, rfl, e, ek, fun p hp => ?_⟩
      unfold valB at h
      rw [Bool.and_eq_true, List.all_eq_true] at h
      have h2 := h.2 p hp
      obtain ⟨k, x⟩ := p
      have h2 : (nameV (kV k) && intV (-999) 999 x) = true := h2
      rw [Bool.and_eq_true] at h2
      obtain ⟨h3, h4⟩ := h2
      cases k with
      | inl i => cases h3
      | inr z =>
        cases x with
        | int i =>
          have h4 : (decide (-999 ≤ i) && decide (i ≤ 999)) = true := h4
          rw [Bool.and_eq_true, decide_eq_true_eq, decide_eq_true_eq] at h4
          exact ⟨z, i, rfl, List.mem_filterMap.mpr ⟨_, hp, rfl⟩, h4.1, h4.2⟩
        | _ => cases h4
    · cases h
  | _ => cases h
end
theorem ints_map (fs : List Fld) (kvs : List (Key × V)) : (fs.map fun f => V.int (f.ans kvs)) = (ansL fs kvs).map V.int := by
  rw [List.map_map]
  rfl
def spIsPart (K : PySem.W.Frag) (C : Addr) : Sp := fun vs H Q _ => ∃ (a t b u : Addr) (fs gs : List Fld) (v : V), vs = [.ref a, .ref b, v] ∧ OrdOk C H a t fs ∧ OrdOk C H b u gs ∧ FoundOk K H v ∧ ∀ H', Same H H' → Q (.bl (partsV H fs gs v)) H'
def spLParts (K : PySem.W.Frag) : Sp := fun vs H Q _ => ∃ (t u : Addr) (fs gs : List Fld) (v : V), vs = [.ref t, .ref u, v] ∧ H t = some (.tup (txs fs)) ∧ H u = some (.tup (txs gs)) ∧ fs.length ≤ 3 ∧ gs.length ≤ 3 ∧ (∀ f ∈ fs, f.Ok) ∧ (∀ f ∈ gs, f.Ok) ∧ FoundOk K H v ∧ ∀ H', Same H H' → Q (.bl (partsV H fs gs v)) H'
section
variable {P : Program} {w : World} {K : PySem.W.Frag} {mg : Str → Option Value} {base : Heap}
theorem ok_ispart {f C fN fV fA : Addr} {fd fdN fdV fdA : FuncData} (F : Fun K "is_order_parting" "is_order_parting" sIsPart f fd) (c : ByC K C)
    (GN : FnOk P w K mg base CX0 1 fN fdN ["value"] (spNeedO C)) (gN : mg "need_order" = some (.ref fN)) (kN : PySem.W.keepIn K (.ref fN) = true) (bN : Binds K fdN ["value"] [])
    (GV : FnOk P w K mg base CX0 2 fV fdV ["value"] (spIsValT K)) (gV : mg "is_value" = some (.ref fV)) (kV : PySem.W.keepIn K (.ref fV) = true) (bV : Binds K fdV ["value"] [])
    (mA : Meth K C "answer_for" fA) (bA : Binds K fdA ["self", "value"] []) (GA : FnOk P w K mg base CX0 3 fA fdA ["self", "value"] (spByA C))
    (mi : mg "isinstance" = none) (mt : mg "tuple" = none) (ml : mg "len" = none) (ma : mg "all" = none) : FnOk P w K mg base CX0 4 f fd ["one", "other", "found"] (spIsPart K C) := by
  refine F.ok scIsPart (fun vs H Q E h => ?_) (fun cdv A outer s H vs Q E hr h => ?_)
  · obtain ⟨a, t, b, u, fs, gs, v, rfl, _⟩ := h
    rfl
  · obtain ⟨a, t, b, u, fs, gs, v, rfl, oa, ob, hf, q⟩ := h
    have hr1 := hr.mono (show 1 ≤ 3 by decide)
    have hr2 := hr.mono (show 2 ≤ 3 by decide)
    have hu4 : (A.deeper (envOfC "is_order_parting" (defScope sIsPart) s.heap.objs.size f cdv)).units + 4 < cLine := by have := hr.units; omega
    refine ⟨_, pss_cons (ps_expr (pe_call GN hr1 rfl gN kN bN .nil pass0 (pa_cons (pv 0) pa_nil)))
      (pss_cons (ps_expr (pe_call GN hr1 rfl gN kN bN .nil pass0 (pa_cons (pv 1) pa_nil)))
      (pss_cons (ps_if (PW.pt (pw_or (pt_not (pt_val (pt_isi "tuple" (pv 2) (hm := mi) (mn := mt)))) (pw_or (pt_cmpR op_ne (pe_callB call_len_seq (by rfl) ml PySem.boot_len (pa_cons (pv 2) pa_nil)) pe_int (nomark _))
          (pw_or1 (pt_not (pt_val (pe_callB (cr_all rfl) (by rfl) ma (by decide +kernel) (pa_cons (by exact pe_lc (own := [("value", 6)]) (g := gName 6) (tt := tYes) (by rfl) scIsPart.nd (pi_tup (pv 2)) (blkOk_by (own := [("value", 6)]) (N := nIsPart) (sc := defScope sIsPart) (by decide +kernel)) (fun _ _ _ _ _ => pg_name (i := 6) scIsPart.nd rfl (.inl rfl)) (fun _ _ _ _ _ => pts_nil) (fun _ _ _ _ _ => pe_call GV hr2 rfl gV kV bV .nil pass0 (pa_cons (pv 6) pa_nil))) pa_nil)))))))) (pss_one (ps_ret pe_bl)) pss_nil)
      (pss_cons (ps_asg (pv 2) (pg_tup (by rfl) (pgs_cons (pg_name (i := 3) scIsPart.nd rfl (.inl rfl)) (pgs_cons (pg_name (i := 4) scIsPart.nd rfl (.inl rfl)) pgs_nil))))
      (pss_cons (ps_set (i := 5) scIsPart.nd rfl (.inl rfl) (pe_cmpR (op_ltI hu4) (pe_meth (pv 1) c.cl mA GA hr bA .nil pass0 (pa_cons (pv 3) pa_nil)) (pe_meth (pv 1) c.cl mA GA hr bA .nil pass0 (pa_cons (pv 4) pa_nil)) (nomark _)))
      (pss_one (ps_ret (pe_and (pv 5) (pe_one (pe_not (pe_cmpR (op_ltI hu4) (pe_meth (pv 0) c.cl mA GA hr bA .nil pass0 (pa_cons (pv 3) pa_nil)) (pe_meth (pv 0) c.cl mA GA hr bA .nil pass0 (pa_cons (pv 4) pa_nil)) (nomark _))))))))))), ?_⟩
    refine ⟨_, rfl, a, t, fs, rfl, oa.at_, ?_⟩
    refine ⟨_, rfl, b, u, gs, rfl, ob.at_, ?_⟩
    obtain ⟨d, rp⟩ := hf.rp
    refine ⟨_, rfl, _, _, _, _, _, rfl, .ty _, rp_ty rp, kit_t d, _, rfl, ?_⟩
    have none_ : ∀ T, v = .ref T → (∀ x y, H T ≠ some (.tup [x, y])) → partsV H fs gs v = false := by
      rintro T rfl h
      show (match H T with | some (.tup [a, b]) => pairB H fs gs a b | _ => false) = false
      split
      · rename_i x y e
        exact absurd e (h x y)
      · rfl
    cases rp with
    | non => exact iteT (q H (.refl _))
    | int i => exact iteT (q H (.refl _))
    | bl b => exact iteT (q H (.refl _))
    | str z => exact iteT (q H (.refl _))
    | @lst T xs ds e _ =>
      rw [none_ T rfl (fun x y z => by rw [e] at z; cases z)] at q
      exact iteT (q H (.refl _))
    | @dic T kvs ds e _ _ =>
      rw [none_ T rfl (fun x y z => by rw [e] at z; cases z)] at q
      exact iteT (q H (.refl _))
    | @tup T xs ds e _ =>
      refine iteF ⟨_, rfl, T, xs, rfl, .inr (.of e), rfl, _, rfl, ?_⟩
      by_cases l2 : xs.length = 2
      · match xs, l2, e with
        | [x, y], _, e =>
          have pv_ : partsV H fs gs (.ref T) = pairB H fs gs x y := by
            show (match H T with | some (.tup [a, b]) => pairB H fs gs a b | _ => false) = _
            rw [e]
          rw [pv_] at q
          obtain ⟨ax, ay⟩ := hf.pr T x y rfl e
          refine iteF ?_
          refine ⟨_, rfl, T, rfl, ⟨_, .of e⟩, fun D hD => ?_⟩
          refine lc_tup (xs := [x, y]) (fun i H2 => Same H H2 ∧ H2 D = some (.lst ((([x, y].take i).map (valV' H)).map V.bl))) ?_ ?_ ?_ ?_
          · exact ⟨Same.new hD, upd_same⟩
          · rintro i H2 _ ⟨s2, _⟩
            exact .of (s2 _ _ e)
          · rintro i z H2 hz ⟨s2, e2⟩
            have az : AskOk K H z := by
              have := List.mem_of_getElem? hz
              simp only [List.mem_cons, List.not_mem_nil, or_false] at this
              rcases this with rfl | rfl
              · exact ax
              · exact ay
            obtain ⟨dz, rz⟩ := az.rp
            refine ⟨rfl, ?_⟩
            unfold tYes
            dsimp only
            rw [if_pos rfl]
            refine ⟨_, rfl, z, dz, rfl, rp_same s2 _ _ rz, tame_same az.tm s2 rz, fun H3 s3 => ?_⟩
            rw [val_same s2 rz]
            refine ⟨_, s3 _ _ e2, ?_, fun c o ec => (upd_ne (ne_of_none ec hD)).trans (s3 _ _ (s2 _ _ ec)), ?_⟩
            · rw [List.length_map, List.length_map, List.length_take]
              exact small1000 (by show min i 2 ≤ _; omega)
            · rw [upd_same, take_snoc hz, List.map_append, List.map_append]
              rfl
          · rintro H2 ⟨s2, e2⟩
            refine ⟨D, _, rfl, .of e2, _, rfl, ?_⟩
            rw [map_all]
            show ite ((!(valV' H x && (valV' H y && true))) = true) _ _
            unfold pairB at q
            cases vx : valV' H x with
            | false =>
              rw [vx] at q
              exact iteT (q H2 s2)
            | true =>
              rw [vx] at q
              cases vy : valV' H y with
              | false =>
                rw [vy] at q
                exact iteT (q H2 s2)
              | true =>
                rw [vy] at q
                replace q : ∀ H', Same H H' → Q (.bl (ltI (ansL gs (kvsV H x)) (ansL gs (kvsV H y)) && !ltI (ansL fs (kvsV H x)) (ansL fs (kvsV H y)))) H' := q
                refine iteF ?_
                obtain ⟨dx, kx, zx, rfl, ex, kvx, nx⟩ := val_is vx
                obtain ⟨dy, ky, zy, rfl, ey, kvy, ny⟩ := val_is vy
                rw [kvx, kvy] at q
                refine ⟨_, rfl, T, _, rfl, .of (s2 _ _ e), rfl, _, _, rfl, _, _, rfl, rfl, ?_⟩
                obtain ⟨da, ha, ht⟩ := id (oa.at_.same s2)
                obtain ⟨db, hb, hu⟩ := id (ob.at_.same s2)
                refine ⟨_, rfl, b, db, _, rfl, hb, rfl, _, rfl, b, u, dx, gs, zx, kx, rfl, ob.at_.same s2, ob.l3, ob.ok, s2 _ _ ex, nx, fun p1 H3 s3 n3 e3 => ?_⟩
                rw [ints_map] at e3
                refine ⟨_, rfl, b, db, _, rfl, s3 _ _ hb, rfl, _, rfl, b, u, dy, gs, zy, ky, rfl, (ob.at_.same s2).same s3, ob.l3, ob.ok, s3 _ _ (s2 _ _ ey), ny, fun p2 H4 s4 n4 e4 => ?_⟩
                rw [ints_map] at e4
                refine ⟨p1, p2, _, _, rfl, rfl, s4 _ _ e3, e4, ?_⟩
                have s34 := s3.trans s4
                have s24 := s2.trans s34
                refine ⟨_, rfl, _, rfl, ?_⟩
                cases lt : ltI (ansL gs kx) (ansL gs ky) with
                | false =>
                  rw [lt] at q
                  exact iteF (q H4 s24)
                | true =>
                  rw [lt] at q
                  replace q : ∀ H', Same H H' → Q (.bl (!ltI (ansL fs kx) (ansL fs ky))) H' := q
                  refine iteT ?_
                  refine ⟨_, rfl, a, da, _, rfl, s34 _ _ ha, rfl, _, rfl, a, t, dx, fs, zx, kx, rfl, oa.at_.same s24, oa.l3, oa.ok, s24 _ _ ex, nx, fun p5 H5 s5 n5 e5 => ?_⟩
                  rw [ints_map] at e5
                  refine ⟨_, rfl, a, da, _, rfl, s5 _ _ (s34 _ _ ha), rfl, _, rfl, a, t, dy, fs, zy, ky, rfl, (oa.at_.same s24).same s5, oa.l3, oa.ok, s5 _ _ (s24 _ _ ey), ny, fun p6 H6 s6 n6 e6 => ?_⟩
                  rw [ints_map] at e6
                  exact ⟨p5, p6, _, _, rfl, rfl, s6 _ _ e5, e6, _, rfl, q H6 ((s24.trans s5).trans s6)⟩
      · rw [none_ T rfl (fun x y z => by rw [e] at z; cases z; exact l2 rfl)] at q
        have ne : (!decide (V.int (xs.length : Int) = V.int 2)) = true := by
          rw [decide_eq_false fun z => l2 (by have := V.int.inj z; omega)]
          rfl
        rw [ne]
        exact iteT (q H (.refl _))
end
end G
set_option Elab.async false
set_option linter.all false
set_option maxRecDepth 100000
set_option maxHeartbeats 8000000
/-! IP2: _law_parts, _law_other. -/
namespace G
open PySem PySem.Spec PyProof.Rows L2 NdefX StX DvT
section
variable {P : Program} {w : World} {K : PySem.W.Frag} {mg : Str → Option Value} {base : Heap}
theorem ok_lparts {f fV fA : Addr} {fd fdV fdA : FuncData} (F : Fun K "_law_parts" "_law_parts" sLParts f fd)
    (GV : FnOk P w K mg base CX0 2 fV fdV ["_law_thing"] (spIsValT K)) (gV : mg "_law_is_value" = some (.ref fV)) (kV : PySem.W.keepIn K (.ref fV) = true) (bV : Binds K fdV ["_law_thing"] [])
    (GA : FnOk P w K mg base CX0 1 fA fdA ["_law_fields_here", "_law_worth"] spAnswer) (gA : mg "_law_answer" = some (.ref fA)) (kA : PySem.W.keepIn K (.ref fA) = true) (bA : Binds K fdA ["_law_fields_here", "_law_worth"] [])
    (mi : mg "isinstance" = none) (mt : mg "tuple" = none) (ml : mg "len" = none) : FnOk P w K mg base CX0 3 f fd ["_law_one", "_law_other_here", "_law_found"] (spLParts K) := by
  refine F.ok scLParts (fun vs H Q E h => ?_) (fun cdv A outer s H vs Q E hr h => ?_)
  · obtain ⟨t, u, fs, gs, v, rfl, _⟩ := h
    rfl
  · obtain ⟨t, u, fs, gs, v, rfl, ht, hu, l3, m3, okf, okg, hf, q⟩ := h
    have hr1 := hr.mono (show 1 ≤ 2 by decide)
    have hu4 : (A.deeper (envOfC "_law_parts" (defScope sLParts) s.heap.objs.size f cdv)).units + 4 < cLine := by have := hr.units; omega
    refine ⟨_, pss_cons (ps_if (PW.pt (pw_or (pt_not (pt_val (pt_isi "tuple" (pv 2) (hm := mi) (mn := mt)))) (pw_or (pt_cmpR op_ne (pe_callB call_len_seq (by rfl) ml PySem.boot_len (pa_cons (pv 2) pa_nil)) pe_int (nomark _))
          (pw_or (pt_not (pt_val (pe_call GV hr rfl gV kV bV .nil pass0 (pa_cons (pe_ix ix_tup (pv 2) pe_int (fun _ _ => rfl)) pa_nil)))) (pw_or1 (pt_not (pt_val (pe_call GV hr rfl gV kV bV .nil pass0 (pa_cons (pe_ix ix_tup (pv 2) pe_int (fun _ _ => rfl)) pa_nil))))))))) (pss_one (ps_ret pe_bl)) pss_nil)
      (pss_cons (ps_if (pt_not (pt_cmpR (op_ltI hu4) (pe_call GA hr1 rfl gA kA bA .nil pass0 (pa_cons (pv 1) (pa_cons (pe_ix ix_tup (pv 2) pe_int (fun _ _ => rfl)) pa_nil))) (pe_call GA hr1 rfl gA kA bA .nil pass0 (pa_cons (pv 1) (pa_cons (pe_ix ix_tup (pv 2) pe_int (fun _ _ => rfl)) pa_nil))) (nomark _))) (pss_one (ps_ret pe_bl)) pss_nil)
      (pss_one (ps_ret (pe_not (pe_cmpR (op_ltI hu4) (pe_call GA hr1 rfl gA kA bA .nil pass0 (pa_cons (pv 0) (pa_cons (pe_ix ix_tup (pv 2) pe_int (fun _ _ => rfl)) pa_nil))) (pe_call GA hr1 rfl gA kA bA .nil pass0 (pa_cons (pv 0) (pa_cons (pe_ix ix_tup (pv 2) pe_int (fun _ _ => rfl)) pa_nil))) (nomark _)))))), ?_⟩
    obtain ⟨d, rp⟩ := hf.rp
    refine ⟨_, rfl, _, _, _, _, _, rfl, .ty _, rp_ty rp, kit_t d, _, rfl, ?_⟩
    have none_ : ∀ T, v = .ref T → (∀ x y, H T ≠ some (.tup [x, y])) → partsV H fs gs v = false := by
      rintro T rfl h
      show (match H T with | some (.tup [a, b]) => pairB H fs gs a b | _ => false) = false
      split
      · rename_i x y e
        exact absurd e (h x y)
      · rfl
    cases rp with
    | non => exact iteT (q H (.refl _))
    | int i => exact iteT (q H (.refl _))
    | bl b => exact iteT (q H (.refl _))
    | str z => exact iteT (q H (.refl _))
    | @lst T xs ds e _ =>
      rw [none_ T rfl (fun x y z => by rw [e] at z; cases z)] at q
      exact iteT (q H (.refl _))
    | @dic T kvs ds e _ _ =>
      rw [none_ T rfl (fun x y z => by rw [e] at z; cases z)] at q
      exact iteT (q H (.refl _))
    | @tup T xs ds e _ =>
      refine iteF ⟨_, rfl, T, xs, rfl, .inr (.of e), rfl, _, rfl, ?_⟩
      by_cases l2 : xs.length = 2
      · match xs, l2, e with
        | [x, y], _, e =>
          have pv_ : partsV H fs gs (.ref T) = pairB H fs gs x y := by
            show (match H T with | some (.tup [a, b]) => pairB H fs gs a b | _ => false) = _
            rw [e]
          rw [pv_] at q
          obtain ⟨ax, ay⟩ := hf.pr T x y rfl e
          obtain ⟨dx_, rx⟩ := ax.rp
          obtain ⟨dy_, ry⟩ := ay.rp
          refine iteF ?_
          unfold pairB at q
          refine ⟨_, rfl, T, _, ((0 : Nat) : Int), _, rfl, rfl, .of e, atI_nat (j := 0) rfl, x, dx_, rfl, rx, ax.tm, fun H1 s1 => ⟨_, rfl, ?_⟩⟩
          cases vx : valV' H x with
          | false =>
            rw [vx] at q
            exact iteT (q H1 s1)
          | true =>
            rw [vx] at q
            refine iteF ?_
            refine ⟨_, rfl, T, _, ((1 : Nat) : Int), _, rfl, rfl, .of (s1 _ _ e), atI_nat (j := 1) rfl, y, dy_, rfl, rp_same s1 _ _ ry, tame_same ay.tm s1 ry, fun H2 s2 => ⟨_, rfl, ?_⟩⟩
            rw [val_same s1 ry]
            have s12 := s1.trans s2
            cases vy : valV' H y with
            | false =>
              rw [vy] at q
              exact iteT (q H2 s12)
            | true =>
              rw [vy] at q
              replace q : ∀ H', Same H H' → Q (.bl (ltI (ansL gs (kvsV H x)) (ansL gs (kvsV H y)) && !ltI (ansL fs (kvsV H x)) (ansL fs (kvsV H y)))) H' := q
              refine iteF ?_
              obtain ⟨dx, kx, zx, rfl, ex, kvx, nx⟩ := val_is vx
              obtain ⟨dy, ky, zy, rfl, ey, kvy, ny⟩ := val_is vy
              rw [kvx, kvy] at q
              have e2 := s12 _ _ e
              refine ⟨_, rfl, _, rfl, T, _, ((0 : Nat) : Int), _, rfl, rfl, .of e2, atI_nat (j := 0) rfl, u, dx, gs, zx, kx, rfl, s12 _ _ hu, m3, okg, s12 _ _ ex, nx, fun p1 H3 s3 n3 e3 => ?_⟩
              rw [ints_map] at e3
              refine ⟨_, rfl, _, rfl, T, _, ((1 : Nat) : Int), _, rfl, rfl, .of (s3 _ _ e2), atI_nat (j := 1) rfl, u, dy, gs, zy, ky, rfl, s3 _ _ (s12 _ _ hu), m3, okg, s3 _ _ (s12 _ _ ey), ny, fun p2 H4 s4 n4 e4 => ?_⟩
              rw [ints_map] at e4
              refine ⟨p1, p2, _, _, rfl, rfl, s4 _ _ e3, e4, _, rfl, ?_⟩
              have s14 := (s12.trans s3).trans s4
              cases lt : ltI (ansL gs kx) (ansL gs ky) with
              | false =>
                rw [lt] at q
                exact iteT (q H4 s14)
              | true =>
                rw [lt] at q
                replace q : ∀ H', Same H H' → Q (.bl (!ltI (ansL fs kx) (ansL fs ky))) H' := q
                refine iteF ?_
                refine ⟨_, rfl, _, rfl, T, _, ((0 : Nat) : Int), _, rfl, rfl, .of (s14 _ _ e), atI_nat (j := 0) rfl, t, dx, fs, zx, kx, rfl, s14 _ _ ht, l3, okf, s14 _ _ ex, nx, fun p5 H5 s5 n5 e5 => ?_⟩
                rw [ints_map] at e5
                refine ⟨_, rfl, _, rfl, T, _, ((1 : Nat) : Int), _, rfl, rfl, .of (s5 _ _ (s14 _ _ e)), atI_nat (j := 1) rfl, t, dy, fs, zy, ky, rfl, s5 _ _ (s14 _ _ ht), l3, okf, s5 _ _ (s14 _ _ ey), ny, fun p6 H6 s6 n6 e6 => ?_⟩
                rw [ints_map] at e6
                exact ⟨p5, p6, _, _, rfl, rfl, s6 _ _ e5, e6, _, rfl, q H6 ((s14.trans s5).trans s6)⟩
      · rw [none_ T rfl (fun x y z => by rw [e] at z; cases z; exact l2 rfl)] at q
        have ne : (!decide (V.int (xs.length : Int) = V.int 2)) = true := by
          rw [decide_eq_false fun z => l2 (by have := V.int.inj z; omega)]
          rfl
        rw [ne]
        exact iteT (q H (.refl _))
end
/-! ### another order's fields -/
abbrev sOther : Stmt := topS 47
abbrev nOther : List Str := ["_law_box_here", "_law_fields_here", "_law_names_here", "_law_way", "_law_at", "_law_field"]
theorem scOther : FnScope nOther ["_law_box_here", "_law_fields_here", "_law_names_here"] (defScope sOther) := ⟨rfl, rfl, rfl, by decide +kernel, rfl, by decide +kernel, by decide +kernel⟩
def spOther : Sp := fun vs H Q _ => ∃ (b t nl : Addr) (n : Nat) (fs : List Fld) (ns : List Str), vs = [.ref b, .ref t, .ref nl] ∧ BoxAt H b n ∧ n ≤ 70000 ∧ H t = some (.tup (txs fs)) ∧ 1 ≤ fs.length ∧ fs.length ≤ 3 ∧ (∀ f ∈ fs, f.Ok) ∧
  H nl = some (.lst (ns.map V.str)) ∧ 1 ≤ ns.length ∧ ns.length ≤ 100 ∧ (∀ y ∈ ns, NameZ y) ∧ nl ≠ b ∧
  ∀ (p : Addr) (H' : Hp) (gs : List Fld), H' p = some (.tup (txs gs)) → 1 ≤ gs.length → gs.length ≤ 3 → (∀ f ∈ gs, f.Ok) → BoxAt H' b (n + 9) → But b H H' → Q (.ref p) H'
end G
set_option Elab.async false
set_option linter.all false
set_option maxRecDepth 100000
set_option maxHeartbeats 8000000
/-! LO: _law_other. -/
namespace G
open PySem PySem.Spec PyProof.Rows L2 NdefX StX DvT
theorem cutV_from (xs : List V) (k : Nat) : cutV xs (some (k : Int)) none = xs.drop k := by
  unfold cutV
  rw [HT.sIx_none, HT.sIx_nat]
  rcases Nat.le_total k xs.length with h | h
  · rw [Nat.min_eq_left h, List.take_of_length_le (by rw [List.length_drop]; exact Nat.le_refl _)]
  · rw [Nat.min_eq_right h, List.drop_length, List.drop_eq_nil_of_le h, List.take_nil]
theorem cutV_mid (xs : List V) (k : Nat) (h : k < xs.length) : cutV xs (some (k : Int)) (some ((k + 1 : Nat) : Int)) = (xs.drop k).take 1 := by
  unfold cutV
  rw [HT.sIx_nat, HT.sIx_nat, Nat.min_eq_left (Nat.le_of_lt h), Nat.min_eq_left h]
  congr 1
  omega
theorem tup_nb {H : Hp} {b c : Addr} {n : Nat} {xs : List V} (B : BoxAt H b n) (e : H c = some (.tup xs)) : c ≠ b := fun z => by
  obtain ⟨_, _, _, eb, _⟩ := B
  rw [z, eb] at e
  cases e
section
variable {K : PySem.W.Frag} {H : Hp} {Q : VK} {a b : Addr} {fs gs : List Fld} {k : Nat}
theorem slA_take (ha : H a = some (.tup (txs fs))) (q : ∀ p H', Same H H' → H' p = some (.tup (txs (fs.take k))) → Q (.ref p) H') : rSlA K (.ref a) none (some (k : Int)) H Q := by
  refine ⟨a, txs fs, rfl, .of ha, fun w => q a H (.refl _) ?_, fun _ p hp => q p _ (Same.new hp) ?_⟩
  · have h := w.2
    rw [HT.sIx_nat, List.length_map] at h
    rw [ha, List.take_of_length_le (by omega)]
  · simp only [upd_same, cutV_upto, txs, List.map_take]
theorem slA_drop (ha : H a = some (.tup (txs fs))) (q : ∀ p H', Same H H' → H' p = some (.tup (txs (fs.drop k))) → Q (.ref p) H') : rSlA K (.ref a) (some (k : Int)) none H Q := by
  refine ⟨a, txs fs, rfl, .of ha, fun w => q a H (.refl _) ?_, fun _ p hp => q p _ (Same.new hp) ?_⟩
  · have h := w.1
    rw [HT.sIx_nat, List.length_map] at h
    rw [ha]
    rcases Nat.eq_zero_or_pos k with z | z
    · rw [z, List.drop_zero]
    · have : fs.length = 0 := by omega
      rw [List.length_eq_zero_iff.mp this, List.drop_nil]
  · simp only [upd_same, cutV_from, txs, List.map_drop]
theorem slA_mid (hk : k < fs.length) (ha : H a = some (.tup (txs fs))) (q : ∀ p H', Same H H' → H' p = some (.tup (txs ((fs.drop k).take 1))) → Q (.ref p) H') : rSlA K (.ref a) (some (k : Int)) (some ((k + 1 : Nat) : Int)) H Q := by
  refine ⟨a, txs fs, rfl, .of ha, fun w => q a H (.refl _) ?_, fun _ p hp => q p _ (Same.new hp) ?_⟩
  · have h1 := w.1
    have h2 := w.2
    rw [HT.sIx_nat, List.length_map] at h1 h2
    have k0 : k = 0 := by omega
    subst k0
    rw [ha, List.drop_zero, List.take_of_length_le (by omega)]
  · rw [upd_same, cutV_mid _ _ (by rw [List.length_map]; exact hk)]
    simp only [txs, List.map_take, List.map_drop]
theorem catA_of (ha : H a = some (.tup (txs fs))) (hb : H b = some (.tup (txs gs))) (z : fs.length + gs.length ≤ 20) (q : ∀ p H', Same H H' → H' p = some (.tup (txs (fs ++ gs))) → Q (.ref p) H') : rCatA K (.ref a) (.ref b) H Q := by
  refine ⟨a, b, txs fs, txs gs, rfl, rfl, .of ha, .of hb, by rw [List.length_map, List.length_map]; exact small_size (by omega), fun e => q b H (.refl _) ?_, fun _ e => q a H (.refl _) ?_, fun _ _ p hp => q p _ (Same.new hp) ?_⟩
  · rw [List.map_eq_nil_iff.mp e, List.nil_append]
    exact hb
  · rw [List.map_eq_nil_iff.mp e, List.append_nil]
    exact ha
  · simp only [upd_same, txs, List.map_append]
end
section
variable {P : Program} {w : World} {K : PySem.W.Frag} {mg : Str → Option Value} {base : Heap}
theorem ok_other {f fT fF : Addr} {fd fdT fdF : FuncData} (F : Fun K "_law_other" "_law_other" sOther f fd) (T : Fun K "_law_take" "_law_take" sTake fT fdT) (bT : Binds K fdT ["_law_box_here", "_law_many"] []) (gT : mg "_law_take" = some (.ref fT))
    (GF : FnOk P w K mg base CX0 2 fF fdF ["_law_box_here", "_law_names_here", "_law_most"] spFields) (gF : mg "_law_fields" = some (.ref fF)) (kF : PySem.W.keepIn K (.ref fF) = true) (bF : Binds K fdF ["_law_box_here", "_law_names_here", "_law_most"] [])
    (ml : mg "len" = none) : FnOk P w K mg base CX0 3 f fd ["_law_box_here", "_law_fields_here", "_law_names_here"] spOther := by
  have GT : FnOk P w K mg base CX0 1 fT fdT ["_law_box_here", "_law_many"] spTake := ok_take T
  refine F.ok scOther (fun vs H Q E h => ?_) (fun cdv A outer s H vs Q E hr h => ?_)
  · obtain ⟨b, t, nl, n, fs, ns, rfl, _⟩ := h
    rfl
  · obtain ⟨b, t, nl, n, fs, ns, rfl, B, hn, ht, l1, l3, ok, hnl, m1, m100, hz, nnb, q⟩ := h
    have hr1 := hr.mono (show 1 ≤ 2 by decide)
    refine ⟨_, pss_cons (ps_par (i := 3) (j := 4) (by rfl) scOther.nd rfl rfl (by decide) rfl rfl (pa_cons (pe_call GT hr1 rfl gT T.kp bT .nil pass0 (pa_cons (pv 0) (pa_cons pe_int pa_nil))) (pa_cons (pe_call GT hr1 rfl gT T.kp bT .nil pass0 (pa_cons (pv 0) (pa_cons (pe_callB call_len_seq (by rfl) ml PySem.boot_len (pa_cons (pv 1) pa_nil)) pa_nil))) pa_nil)) (by rfl))
      (pss_cons (ps_if (pt_cmpR op_eq (pv 3) pe_int (nomark _)) (pss_one (ps_ret (pe_slice sl_tupA (pv 1) po_none (po_some (pe_op op_add (pv 4) pe_int))))) pss_nil)
      (pss_cons (ps_if (pt_cmpR op_eq (pv 3) pe_int (nomark _)) (pss_one (ps_ret (pe_slice sl_tupA (pe_op op_catA (pv 1) (pe_slice sl_tupA (pv 1) (po_some (pv 4)) (po_some (pe_op op_add (pv 4) pe_int)))) po_none (po_some pe_int)))) pss_nil)
      (pss_cons (ps_if (pt_cmpR op_eq (pv 3) pe_int (nomark _))
        (pss_cons (ps_set (i := 5) scOther.nd rfl (.inl rfl) (pe_op op_add_str (pe_ix ix_list (pe_lst (pa_cons pe_str (pa_cons pe_str pa_nil))) (pe_call GT hr1 rfl gT T.kp bT .nil pass0 (pa_cons (pv 0) (pa_cons pe_int pa_nil))) (fun _ _ => rfl)) (pe_m1 PySem.F.slot_str_lstrip PySem.F.type_str_lstrip mt_lstripChars (pe_ix ix_tup (pv 1) (pv 4) (fun _ _ => rfl)) pe_str)))
        (pss_one (ps_ret (pe_op op_catA (pe_op op_catA (pe_slice sl_tupA (pv 1) po_none (po_some (pv 4))) (pe_tup (pa_cons (pv 5) pa_nil))) (pe_slice sl_tupA (pv 1) (po_some (pe_op op_add (pv 4) pe_int)) po_none))))) pss_nil)
      (pss_cons (ps_if (pt_cmpR op_eq (pv 3) pe_int (nomark _))
        (pss_one (ps_ret (pe_op op_catA (pe_op op_catA (pe_slice sl_tupA (pv 1) po_none (po_some (pv 4))) (pe_call GF hr rfl gF kF bF .nil pass0 (pa_cons (pv 0) (pa_cons (pv 2) (pa_cons pe_int pa_nil))))) (pe_slice sl_tupA (pv 1) (po_some (pe_op op_add (pv 4) pe_int)) po_none)))) pss_nil)
      (pss_one (ps_ret (pe_call GF hr rfl gF kF bF .nil pass0 (pa_cons (pv 0) (pa_cons (pv 2) (pa_cons pe_int pa_nil)))))))))), ?_⟩
    have ntb : t ≠ b := tup_nb B ht
    refine ⟨_, rfl, b, 5, n, rfl, B, by omega, by decide, by decide, fun r1 H1 r10 r11 B1 k1 => ?_⟩
    have et1 := k1 _ _ ntb ht
    have en1 := k1 _ _ nnb hnl
    refine ⟨_, rfl, _, rfl, t, _, rfl, .inr (.of et1), b, _, n + 1, rfl, B1, by omega, by rw [List.length_map]; omega, by rw [List.length_map]; exact Int.lt_of_le_of_lt (show (fs.length : Int) ≤ 3 by omega) (by decide), fun r2 H2 r20 r21 B2 k2 => ?_⟩
    rw [List.length_map] at r21
    obtain ⟨k, rfl, hk⟩ := draw_at (n := fs.length) r20 r21 rfl
    have k12 := k1.trans k2
    have et2 := k2 _ _ ntb et1
    have en2 := k2 _ _ nnb en1
    refine ⟨_, _, rfl, ?_⟩
    have ek : ((k : Int) + 1) = ((k + 1 : Nat) : Int) := by omega
    have fin : ∀ (p : Addr) (H' : Hp) (gs : List Fld), Same H2 H' → H' p = some (.tup (txs gs)) → 1 ≤ gs.length → gs.length ≤ 3 → (∀ f ∈ gs, f.Ok) → Q (.ref p) H' := fun p H' gs s' e g1 g3 gok =>
      q p H' gs e g1 g3 gok ((B2.keep fun o e => s' _ _ e).mono (by omega)) (k12.trans (But.same s'))
    have okT : ∀ {j : Nat}, ∀ f ∈ fs.take j, f.Ok := fun f hf => ok f (List.mem_of_mem_take hf)
    have okD : ∀ {j : Nat}, ∀ f ∈ fs.drop j, f.Ok := fun f hf => ok f (List.mem_of_mem_drop hf)
    refine ⟨_, rfl, rfl, _, rfl, ite2 (fun _ => ?_) (fun _ => ?_)⟩
    · refine ⟨_, rfl, _, rfl, _, _, rfl, rfl, _, rfl, ?_⟩
      rw [ek]
      refine slA_take et2 fun p H' s' e => fin p H' _ s' e ?_ ?_ okT
      · rw [List.length_take]; omega
      · rw [List.length_take]; omega
    refine ⟨_, rfl, rfl, _, rfl, ite2 (fun _ => ?_) (fun _ => ?_)⟩
    · refine ⟨_, rfl, _, rfl, _, rfl, _, rfl, _, rfl, _, _, rfl, rfl, _, rfl, ?_⟩
      rw [ek]
      refine slA_mid hk et2 fun p H3 s3 e3 => ?_
      refine catA_of (s3 _ _ et2) e3 (by rw [List.length_take, List.length_drop]; omega) fun p4 H4 s4 e4 => ?_
      refine ⟨_, rfl, ?_⟩
      refine slA_take (k := 3) e4 fun p5 H5 s5 e5 => fin p5 H5 _ ((s3.trans s4).trans s5) e5 ?_ ?_ fun f hf => ?_
      · rw [List.length_take, List.length_append]; omega
      · rw [List.length_take]; omega
      · rcases List.mem_append.mp (List.mem_of_mem_take hf) with h | h
        · exact ok f h
        · exact okD f (List.mem_of_mem_take h)
    refine ⟨_, rfl, rfl, _, rfl, ite2 (fun _ => ?_) (fun _ => ?_)⟩
    · refine ⟨by show 2 ≤ sizeLine; exact small_size (by decide), fun m hm => ?_⟩
      have nmb := box_ne B2 hm
      refine ⟨_, rfl, b, 2, n + 2, rfl, box_new B2 hm, by omega, by decide, by decide, fun r3 H3 c0 c1 B3 k3 => ?_⟩
      obtain ⟨g, rfl, hg⟩ := draw_at (n := 2) c0 c1 rfl
      have em3 := k3 _ _ nmb upd_same
      have et3 := k3 _ _ ntb ((upd_ne (ne_of_none et2 hm)).trans et2)
      have kk3 : But b H H3 := (k12.trans (But.new hm)).trans k3
      have hfk : fs[k]? = some fs[k] := List.getElem?_eq_getElem hk
      have okk := ok _ (List.getElem_mem hk)
      obtain ⟨fl, okf, z, ez, etx, hz1⟩ := sign_of okk.1 hg
      have h9 := okk.len
      have h8 := okk.1.2.2
      refine ⟨m, _, _, .str z, rfl, rfl, .of em3, atI_nat ez, _, rfl, _, rfl, t, _, ((k : Nat) : Int), .str fs[k].tx, rfl, rfl, .of et3, atI_nat (by rw [List.getElem?_map, hfk]; rfl), ⟨_, rfl⟩, fs[k].tx, _, rfl, rfl, small_size (by omega), ?_⟩
      rw [okk.strip]
      refine ⟨_, _, rfl, rfl, small_size (by omega), ?_⟩
      rw [etx]
      refine ⟨_, rfl, _, rfl, _, rfl, ?_⟩
      refine slA_take (k := k) et3 fun p4 H4 s4 e4 => ?_
      refine ⟨_, rfl, by show 1 ≤ sizeLine; exact small_size (by decide), fun u hu => ?_⟩
      have s5 : Same H3 (upd H4 u (.tup [V.str fl.tx])) := s4.trans (Same.new hu)
      have eu : (upd H4 u (.tup [V.str fl.tx])) u = some (.tup (txs [fl])) := upd_same
      have e4' : (upd H4 u (.tup [V.str fl.tx])) p4 = some (.tup (txs (fs.take k))) := (upd_ne (ne_of_none e4 hu)).trans e4
      generalize upd H4 u (.tup [V.str fl.tx]) = H5 at s5 eu e4' ⊢
      refine catA_of e4' eu (by rw [List.length_take]; show _ + 1 ≤ _; omega) fun p6 H6 s6 e6 => ?_
      refine ⟨_, rfl, _, rfl, _, _, rfl, rfl, _, rfl, ?_⟩
      rw [ek]
      have s36 := s5.trans s6
      dsimp only [tNoPart]
      refine slA_drop (s36 _ _ et3) fun p7 H7 s7 e7 => ?_
      refine catA_of (s7 _ _ e6) e7 (by rw [List.length_append, List.length_take, List.length_drop]; show _ + 1 + _ ≤ _; omega) fun p8 H8 s8 e8 => ?_
      have s38 := (s36.trans s7).trans s8
      refine q p8 H8 _ e8 ?_ ?_ (fun f hf => ?_) ((B3.keep fun o e => s38 _ _ e).mono (by omega)) (kk3.trans (But.same s38))
      · rw [List.length_append, List.length_append]; show 1 ≤ _ + 1 + _; omega
      · rw [List.length_append, List.length_append, List.length_take, List.length_drop]; show _ + 1 + _ ≤ 3; omega
      · rcases List.mem_append.mp hf with h | h
        · rcases List.mem_append.mp h with h | h
          · exact okT f h
          · rw [List.mem_singleton.mp h]
            exact okf
        · exact okD f h
    refine ⟨_, rfl, rfl, _, rfl, ite2 (fun _ => ?_) (fun _ => ?_)⟩
    · refine ⟨_, rfl, _, rfl, _, rfl, ?_⟩
      refine slA_take (k := k) et2 fun p3 H3 s3 e3 => ?_
      have B3 := B2.keep fun o e => s3 _ _ e
      refine ⟨_, rfl, _, rfl, b, nl, 1, n + 2, ns, rfl, by decide, by decide, B3, by omega, s3 _ _ en2, m1, m100, hz, nnb, fun p4 H4 gs np4 e4 g1 g3 gok B4 k4 => ?_⟩
      have np3b : p3 ≠ b := tup_nb B3 e3
      have e3' := k4 _ _ np3b e3
      have et4 := k4 _ _ ntb (s3 _ _ et2)
      refine catA_of e3' e4 (by rw [List.length_take]; omega) fun p5 H5 s5 e5 => ?_
      refine ⟨_, rfl, _, rfl, _, _, rfl, rfl, _, rfl, ?_⟩
      rw [ek]
      dsimp only [tNoPart]
      refine slA_drop (s5 _ _ et4) fun p7 H7 s7 e7 => ?_
      refine catA_of (s7 _ _ e5) e7 (by rw [List.length_append, List.length_take, List.length_drop]; omega) fun p8 H8 s8 e8 => ?_
      have s48 := (s5.trans s7).trans s8
      refine q p8 H8 _ e8 ?_ ?_ (fun f hf => ?_) ((B4.keep fun o e => s48 _ _ e).mono (by omega)) (((k12.trans (But.same s3)).trans k4).trans (But.same s48))
      · rw [List.length_append, List.length_append]; omega
      · rw [List.length_append, List.length_append, List.length_take, List.length_drop]; omega
      · rcases List.mem_append.mp hf with h | h
        · rcases List.mem_append.mp h with h | h
          · exact okT f h
          · exact gok f h
        · exact okD f h
    · refine ⟨_, rfl, _, rfl, b, nl, 3, n + 2, ns, rfl, by decide, by decide, B2, by omega, en2, m1, m100, hz, nnb, fun p4 H4 gs np4 e4 g1 g3 gok B4 k4 => ?_⟩
      exact q p4 H4 gs e4 g1 g3 gok B4 (k12.trans k4)
end
end G
set_option Elab.async false
set_option linter.all false
set_option maxRecDepth 100000
set_option maxHeartbeats 4000000
/-! RA: repr of data of any kind; drawn dicts as data. -/
namespace G
open PySem PySem.Spec PyProof.Rows L2 NdefX StX
/-- all but lists stand for themselves; the list at the top is not counted -/
def okT : PyData → Bool
  | .list ds => okSAll ds
  | d => okS d
/-- what repr asks -/
structure Shw (d : PyData) : Prop where
  sh : d.showable = true
  dc : d.hasDict = true → okT d = true
  dp : d.depth ≤ 10
  ms : mass d ≤ 200000
def rReprA (K : PySem.W.Frag) : List V → Hp → VK → Prop := fun vs H Q => ∃ (v : V) (d : PyData), vs = [v] ∧ Rp K H v d ∧ Shw d ∧ Q (.str d.shown) H
theorem call_reprA {X : Cx} (hg : X.A.guards = some []) (hu : X.A.units + 64 < cLine) : CallR X (.builtin "repr") (rReprA X.K) := by
  intro pins s σ H xs us Q I r h
  obtain ⟨v, d, rfl, hr, k, q⟩ := h
  have hz : mass d ≤ sizeLine := Nat.le_trans k.ms (by rw [sizeLine_eq]; omega)
  cases hr with
  | non =>
    obtain ⟨u, rfl, ru⟩ := vals1 r
    obtain rfl : u = Value.none := ru
    exact PySem.P.repr_of_none ⟨.str _, H, I.tok _, ⟨_, rfl⟩, q⟩
  | bl b =>
    obtain ⟨u, rfl, ru⟩ := vals1 r
    obtain rfl : u = Value.bool b := ru
    exact PySem.P.repr_of_bool ⟨.str _, H, I.tok _, ⟨_, rfl⟩, q⟩
  | int i =>
    obtain ⟨u, rfl, t, rfl⟩ := vals1 r
    have hi : i.natAbs.log2 < 1920 := of_decide_eq_true k.sh
    exact PySem.P.repr_of_int hi ⟨.str _, H, I.tok _, ⟨_, rfl⟩, q⟩
  | str z =>
    obtain ⟨u, rfl, t, rfl⟩ := vals1 r
    exact PySem.P.repr_of_str ⟨.str _, H, I.tok _, ⟨_, rfl⟩, q⟩ hz
  | @lst a ys ds ha hs =>
    obtain rfl := Vals.ref1 r
    obtain ⟨its, rv, ⟨o, n, ho, hc, _, hdt⟩, _⟩ := I.list (.of ha)
    obtain ⟨as, q1, z1⟩ := rp_readsAll I ds _ its hs rv
    have hd := k.dp
    have hsh : PyData.showableAll ds = true := k.sh
    have hm : 3 + massAll ds ≤ sizeLine := hz
    have hz2 := Nat.le_trans (list_text_le _) (Nat.le_trans (Nat.add_le_add_left (shown_all_le ds hsh) 3) hm)
    exact repr_top ho hc hdt q1 hsh (fun z => z1 (k.dc z)) hg (by omega) hz2 fun h' u tk k => ⟨.str _, H, I.kept k, ⟨u, rfl⟩, q⟩
  | @tup a ys ds ha hs =>
    obtain rfl := Vals.ref1 r
    obtain ⟨as, q1, z1⟩ := rp_reads I _ _ _ (Rp.tup ha hs) (show RelV (.ref a) (.ref a) from rfl)
    have hd := k.dp
    exact repr_of_reads' q1 k.sh (fun z => z1 (k.dc z)) hg (by omega) (fun _ _ e => e) (fun h' u tk k => ⟨.str _, H, I.kept k, ⟨u, rfl⟩, q⟩) (Nat.le_trans (shown_le _ k.sh) hz)
  | @dic a kvs ds ha hk hv =>
    obtain rfl := Vals.ref1 r
    obtain ⟨as, q1, z1⟩ := rp_reads I _ _ _ (Rp.dic ha hk hv) (show RelV (.ref a) (.ref a) from rfl)
    have hd := k.dp
    exact repr_of_reads' q1 k.sh (fun z => z1 (k.dc z)) hg (by omega) (fun _ _ e => e) (fun h' u tk k => ⟨.str _, H, I.kept k, ⟨u, rfl⟩, q⟩) (Nat.le_trans (shown_le _ k.sh) hz)
/-! ### drawn dicts as data -/
def keyD : Key → PyData
  | .inl i => .int i
  | .inr z => .str z
def worthD : V → PyData
  | .int i => .int i
  | .bl b => .bool b
  | _ => .none
abbrev valD (kvs : List (Key × V)) : List (PyData × PyData) := kvs.map fun p => (keyD p.1, worthD p.2)
theorem name_repr {z : Str} (h : NameZ z) : (reprText z).length ≤ 200 := by
  have h1 := StrLaws.reprText_len z fun c hc => Nat.lt_of_le_of_lt (h.1 c hc).2 (by decide)
  have := h.2.2
  omega
theorem small_log {i : Int} (h1 : -999 ≤ i) (h2 : i ≤ 999) : decide (i.natAbs.log2 < 1920) = true := by
  refine decide_eq_true ?_
  have h : i.natAbs < 2 ^ 1920 := Nat.lt_of_lt_of_le (show i.natAbs < 2 ^ 10 by omega) (Nat.pow_le_pow_right (by decide) (by decide))
  by_cases e : i.natAbs = 0
  · rw [e]
    decide
  · exact (Nat.log2_lt e).mpr h
/-- an entry of a drawn dict -/
def EntOk (zs : List Str) (p : Key × V) : Prop := ∃ z, p.1 = Sum.inr z ∧ z ∈ zs ∧ ((∃ i, p.2 = .int i ∧ -999 ≤ i ∧ i ≤ 999) ∨ ∃ b, p.2 = .bl b)
theorem ents_all {K : PySem.W.Frag} {H : Hp} {zs : List Str} : ∀ {kvs : List (Key × V)}, (∀ z ∈ zs, NameZ z) → (∀ p ∈ kvs, EntOk zs p) →
    RpAll K H (kvs.map fun p => kV p.1) ((valD kvs).map (·.1)) ∧ RpAll K H (kvs.map (·.2)) ((valD kvs).map (·.2)) ∧ PyData.showableKv (valD kvs) = true ∧ okSKv (valD kvs) = true ∧ PyData.depthKv (valD kvs) = 0 ∧ massKv (valD kvs) ≤ 2200 * kvs.length
  | [], _, _ => ⟨.nil, .nil, rfl, rfl, rfl, Nat.le_refl _⟩
  | (k, v) :: kvs, hz, h => by
    obtain ⟨z, ek, hm, hv⟩ := h (k, v) List.mem_cons_self
    dsimp only at ek hv
    subst ek
    obtain ⟨r1, r2, r3, r4, r5, r6⟩ := ents_all (K := K) (H := H) (kvs := kvs) hz fun q hq => h q (List.mem_cons_of_mem _ hq)
    have m := name_repr (hz z hm)
    rcases hv with ⟨n, rfl, n1, n2⟩ | ⟨b, rfl⟩
    · refine ⟨.cons (.str z) r1, .cons (.int n) r2, ?_, ?_, ?_, ?_⟩
      · show (PyData.showable (.str z) && PyData.showable (.int n) && PyData.showableKv (valD kvs)) = true
        rw [r3]
        have e := small_log n1 n2
        show (true && decide (n.natAbs.log2 < 1920) && true) = true
        rw [e]
        rfl
      · show (okS (.str z) && okS (.int n) && okSKv (valD kvs)) = true
        rw [r4]
        rfl
      · show max (max 0 0) (PyData.depthKv (valD kvs)) = 0
        rw [r5]
        rfl
      · show (reprText z).length + 1921 + 4 + massKv (valD kvs) ≤ 2200 * (kvs.length + 1)
        omega
    · refine ⟨.cons (.str z) r1, .cons (.bl b) r2, ?_, ?_, ?_, ?_⟩
      · show (PyData.showable (.str z) && PyData.showable (.bool b) && PyData.showableKv (valD kvs)) = true
        rw [r3]
        rfl
      · show (okS (.str z) && okS (.bool b) && okSKv (valD kvs)) = true
        rw [r4]
        rfl
      · show max (max 0 0) (PyData.depthKv (valD kvs)) = 0
        rw [r5]
        rfl
      · show (reprText z).length + 5 + 4 + massKv (valD kvs) ≤ 2200 * (kvs.length + 1)
        omega
/-- a drawn dict -/
structure DOk (zs : List Str) (kvs : List (Key × V)) : Prop where
  nm : ∀ z ∈ zs, NameZ z
  is : ∀ p ∈ kvs, EntOk zs p
  nd : (kvs.map (·.1)).Nodup
  few : kvs.length ≤ 20
/-- data without lists, small -/
structure Pt (d : PyData) : Prop where
  sh : d.showable = true
  ok : okS d = true
  dp : d.depth ≤ 1
  ms : mass d ≤ 45000
theorem Pt.none : Pt .none := ⟨rfl, rfl, by decide, by decide⟩
section
variable {K : PySem.W.Frag} {H : Hp} {zs : List Str} {kvs : List (Key × V)} {d : Addr}
theorem DOk.rp (h : DOk zs kvs) (hd : H d = some (.dK kvs)) : Rp K H (.ref d) (.dict (valD kvs)) ∧ Pt (.dict (valD kvs)) := by
  obtain ⟨r1, r2, r3, r4, r5, r6⟩ := ents_all (K := K) (H := H) h.nm h.is
  have h6 := h.few
  refine ⟨.dic hd r1 r2, r3, r4, ?_, ?_⟩
  · show PyData.depthKv (valD kvs) + 1 ≤ 1
    omega
  · show 3 + massKv (valD kvs) ≤ 45000
    omega
theorem DOk.tame (h : DOk zs kvs) : TameK kvs := by
  refine ⟨by have := h.few; omega, h.nd, fun p hp z e => ?_, fun p hp => ?_⟩
  · obtain ⟨y, ey, hy, _⟩ := h.is p hp
    rw [e] at ey
    cases ey
    have := (h.nm z hy).2.2
    omega
  · obtain ⟨y, ey, hy, ⟨i, e, _⟩ | ⟨b, e⟩⟩ := h.is p hp
    · rw [e]; rfl
    · rw [e]; rfl
theorem DOk.ask (h : DOk zs kvs) (hd : H d = some (.dK kvs)) : AskOk K H (.ref d) := ⟨⟨_, (h.rp hd).1⟩, fun ks e => by
  rw [hd] at e
  cases e
  exact h.tame⟩
end
theorem AskOk.none {K : PySem.W.Frag} {H : Hp} : AskOk K H .non := ⟨⟨_, .non⟩, trivial⟩
/-- a thing that is asked whether it parts, and shown -/
structure ThingOk (K : PySem.W.Frag) (H : Hp) (v : V) : Prop where
  sh : ∃ d, Rp K H v d ∧ Shw d
  pr : ∀ T a b, v = .ref T → H T = some (.tup [a, b]) → AskOk K H a ∧ AskOk K H b
theorem ThingOk.found {K : PySem.W.Frag} {H : Hp} {v : V} (h : ThingOk K H v) : FoundOk K H v := ⟨let ⟨d, r, _⟩ := h.sh; ⟨d, r⟩, h.pr⟩
theorem ThingOk.same {K : PySem.W.Frag} {H H' : Hp} {v : V} (h : ThingOk K H v) (s : Same H H') : ThingOk K H' v := by
  obtain ⟨d, r, k⟩ := h.sh
  refine ⟨⟨d, rp_same s _ _ r, k⟩, fun T a b e eT => ?_⟩
  subst e
  cases r with
  | @lst a xs ds ea _ =>
    rw [s _ _ ea] at eT
    cases eT
  | @dic a kvs ds ea _ _ =>
    rw [s _ _ ea] at eT
    cases eT
  | @tup a xs ds ea _ =>
    have e2 := s _ _ ea
    rw [e2] at eT
    cases eT
    obtain ⟨h1, h2⟩ := h.pr _ _ _ rfl ea
    exact ⟨h1.same s, h2.same s⟩
theorem ThingOk.none {K : PySem.W.Frag} {H : Hp} : ThingOk K H .non := ⟨⟨_, .non, rfl, (fun h => nomatch h), by decide, by decide⟩, fun _ _ _ e => nomatch e⟩
section
variable {K : PySem.W.Frag} {H : Hp} {T : Addr}
theorem pts_shw : ∀ {ds : List PyData}, (∀ d ∈ ds, Pt d) → PyData.showableAll ds = true ∧ okSAll ds = true ∧ PyData.depthAll ds ≤ 1 ∧ massAll ds ≤ 45002 * ds.length
  | [], _ => ⟨rfl, rfl, by decide, Nat.le_refl _⟩
  | d :: ds, h => by
    obtain ⟨h1, h2, h3, h4⟩ := pts_shw (ds := ds) fun x hx => h x (List.mem_cons_of_mem _ hx)
    have k := h d List.mem_cons_self
    have km := k.ms
    have kd := k.dp
    refine ⟨?_, ?_, ?_, ?_⟩
    · show (d.showable && PyData.showableAll ds) = true
      rw [k.sh, h1]
      rfl
    · show (okS d && okSAll ds) = true
      rw [k.ok, h2]
      rfl
    · show max d.depth (PyData.depthAll ds) ≤ 1
      omega
    · show mass d + 2 + massAll ds ≤ 45002 * (ds.length + 1)
      omega
theorem tup_shw {ds : List PyData} (h : ∀ d ∈ ds, Pt d) (l : ds.length ≤ 4) : Shw (.tuple ds) := by
  obtain ⟨h1, h2, h3, h4⟩ := pts_shw h
  refine ⟨h1, fun _ => h2, ?_, ?_⟩
  · show PyData.depthAll ds + 1 ≤ 10
    omega
  · show 4 + massAll ds ≤ 200000
    omega
theorem lst_shw {ds : List PyData} (h : ∀ d ∈ ds, Pt d) (l : ds.length ≤ 4) : Shw (.list ds) := by
  obtain ⟨h1, h2, h3, h4⟩ := pts_shw h
  refine ⟨h1, fun _ => h2, ?_, ?_⟩
  · show PyData.depthAll ds + 1 ≤ 10
    omega
  · show 3 + massAll ds ≤ 200000
    omega
/-- a part of a thing -/
def Part (K : PySem.W.Frag) (H : Hp) (v : V) : Prop := AskOk K H v ∧ ∃ d, Rp K H v d ∧ Pt d
theorem parts_rp : ∀ {xs : List V}, (∀ v ∈ xs, Part K H v) → ∃ ds, RpAll K H xs ds ∧ (∀ d ∈ ds, Pt d) ∧ ds.length = xs.length
  | [], _ => ⟨[], .nil, (fun _ h => nomatch h), rfl⟩
  | v :: xs, h => by
    obtain ⟨ds, r, p, l⟩ := parts_rp (xs := xs) fun x hx => h x (List.mem_cons_of_mem _ hx)
    obtain ⟨_, d, rd, pd⟩ := h v List.mem_cons_self
    refine ⟨d :: ds, .cons rd r, fun x hx => ?_, by rw [List.length_cons, List.length_cons, l]⟩
    rcases List.mem_cons.mp hx with rfl | hx
    · exact pd
    · exact p x hx
theorem thing_tup {xs : List V} (h : ∀ v ∈ xs, Part K H v) (l : xs.length ≤ 4) (e : H T = some (.tup xs)) : ThingOk K H (.ref T) := by
  obtain ⟨ds, r, p, ld⟩ := parts_rp h
  refine ⟨⟨_, .tup e r, tup_shw p (by omega)⟩, fun T' a b eT ea => ?_⟩
  cases eT
  rw [e] at ea
  cases ea
  exact ⟨(h a List.mem_cons_self).1, (h b (List.mem_cons_of_mem _ List.mem_cons_self)).1⟩
theorem thing_lst {xs : List V} (h : ∀ v ∈ xs, Part K H v) (l : xs.length ≤ 4) (e : H T = some (.lst xs)) : ThingOk K H (.ref T) := by
  obtain ⟨ds, r, p, ld⟩ := parts_rp h
  refine ⟨⟨_, .lst e r, lst_shw p (by omega)⟩, fun T' a b eT ea => ?_⟩
  cases eT
  rw [e] at ea
  cases ea
theorem Part.none : Part K H .non := ⟨AskOk.none, _, .non, Pt.none⟩
theorem DOk.part {zs : List Str} {kvs : List (Key × V)} {d : Addr} (h : DOk zs kvs) (hd : H d = some (.dK kvs)) : Part K H (.ref d) := ⟨h.ask hd, _, (h.rp hd).1, (h.rp (K := K) hd).2⟩
end
end G
set_option Elab.async false
set_option linter.all false
set_option maxRecDepth 100000
set_option maxHeartbeats 8000000
/-! LT: _law_things. -/
namespace G
open PySem PySem.Spec PyProof.Rows L2 NdefX StX
abbrev sThings : Stmt := topS 49
abbrev nThings : List Str := ["_law_box_here", "_law_names_here", "_law_found", "_law_k", "_law_first", "_law_second", "_law_name", "_law_worth", "_law_one", "_law_other_here", "_law_odd"]
theorem scThings : FnScope nThings ["_law_box_here", "_law_names_here"] (defScope sThings) := ⟨rfl, rfl, rfl, by decide +kernel, rfl, by decide +kernel, by decide +kernel⟩
def spThings (K : PySem.W.Frag) : Sp := fun vs H Q _ => ∃ (b nl : Addr) (n : Nat) (ns : List Str), vs = [.ref b, .ref nl] ∧ BoxAt H b n ∧ n ≤ 70000 ∧ H nl = some (.lst (ns.map V.str)) ∧ 1 ≤ ns.length ∧ ns.length ≤ 6 ∧ (∀ y ∈ ns, NameZ y) ∧ nl ≠ b ∧
  ∀ (p : Addr) (H' : Hp) (vs : List V), H p = none → H' p = some (.lst vs) → (∀ v ∈ vs, ThingOk K H' v) → vs.length = 7 → BoxAt H' b (n + 1000) → But b H H' → Q (.ref p) H'
theorem ent_put {zs : List Str} {kvs : List (Key × V)} {z : Str} {i : Int} (h : ∀ p ∈ kvs, EntOk zs p) (hz : z ∈ zs) (h1 : -999 ≤ i) (h2 : i ≤ 999) : ∀ p ∈ putK kvs (Sum.inr z) (.int i), EntOk zs p := fun p hp => by
  rcases mem_putK hp with rfl | hp
  · exact ⟨z, rfl, hz, .inl ⟨i, rfl, h1, h2⟩⟩
  · exact h p hp
/-- two dicts being drawn -/
structure TwoD (H : Hp) (zs : List Str) (d e : Addr) (n : Nat) : Prop where
  ne : d ≠ e
  x : ∃ k, H d = some (.dK k) ∧ (∀ p ∈ k, EntOk zs p) ∧ (k.map (·.1)).Nodup ∧ k.length ≤ n
  y : ∃ k, H e = some (.dK k) ∧ (∀ p ∈ k, EntOk zs p) ∧ (k.map (·.1)).Nodup ∧ k.length ≤ n
theorem TwoD.at {H H' : Hp} {zs : List Str} {d e : Addr} {n m : Nat} (h : TwoD H zs d e n) (le : n ≤ m) (s : ∀ c k, H c = some (.dK k) → H' c = some (.dK k)) : TwoD H' zs d e m := by
  obtain ⟨k, a1, a2, a3, a4⟩ := h.x
  obtain ⟨l, b1, b2, b3, b4⟩ := h.y
  exact ⟨h.ne, ⟨k, s _ _ a1, a2, a3, Nat.le_trans a4 le⟩, ⟨l, s _ _ b1, b2, b3, Nat.le_trans b4 le⟩⟩
/-- a drawn pair of dicts -/
def PairT (H : Hp) (zs : List Str) (T : Addr) : Prop := ∃ d e k l, H T = some (.tup [.ref d, .ref e]) ∧ H d = some (.dK k) ∧ H e = some (.dK l) ∧ DOk zs k ∧ DOk zs l
theorem PairT.same {H H' : Hp} {zs : List Str} {T : Addr} (h : PairT H zs T) (s : Same H H') : PairT H' zs T := by
  obtain ⟨d, e, k, l, h1, h2, h3, h4, h5⟩ := h
  exact ⟨d, e, k, l, s _ _ h1, s _ _ h2, s _ _ h3, h4, h5⟩
theorem PairT.thing {K : PySem.W.Frag} {H : Hp} {zs : List Str} {T : Addr} (h : PairT H zs T) : ThingOk K H (.ref T) := by
  obtain ⟨d, e, k, l, h1, h2, h3, h4, h5⟩ := h
  refine thing_tup (fun v hv => ?_) (by show 2 ≤ 4; decide) h1
  simp only [List.mem_cons, List.not_mem_nil, or_false] at hv
  rcases hv with rfl | rfl
  · exact h4.part h2
  · exact h5.part h3
theorem dic_nb {H : Hp} {b c : Addr} {n : Nat} {k : List (Key × V)} (B : BoxAt H b n) (e : H c = some (.dK k)) : c ≠ b := fun z => by
  obtain ⟨_, _, _, eb, _⟩ := B
  rw [z, eb] at e
  cases e
section
variable {P : Program} {w : World} {K : PySem.W.Frag} {mg : Str → Option Value} {base : Heap}
/-- the odd one, and all of them -/
theorem things_tail {cdv : Value} {A : Around} {outer : List Env} {s : Shared} {H : Hp} {E : XK} {f fT : Addr} {fdT : FuncData} (T : Fun K "_law_take" "_law_take" sTake fT fdT) (bT : Binds K fdT ["_law_box_here", "_law_many"] []) (gT : mg "_law_take" = some (.ref fT))
    (hr : Room 1 (A.deeper (envOfC "_law_things" (defScope sThings) s.heap.objs.size f cdv))) :
    ∃ t, PSs (cxOf CX0 P w K mg base nThings "_law_things" (defScope sThings) f cdv A outer s H E).nox ((defBody sThings).drop 2) t ∧
      ∀ (De : Ends) (b nl l : Addr) (n : Nat) (ns : List Str) (Ts : List Addr) (x3 x4 x5 x6 x7 x8 x9 x10 : Option V) (H1 : Hp), BoxAt H1 b n → n ≤ 80000 → H1 nl = some (.lst (ns.map V.str)) → 1 ≤ ns.length → (∀ y ∈ ns, NameZ y) → nl ≠ b →
        H1 l = some (.lst (Ts.map V.ref)) → l ≠ b → Ts.length = 6 → (∀ T ∈ Ts, PairT H1 ns T) →
        (∀ (p : Addr) (H' : Hp) (vs : List V), H1 p = none → H' p = some (.lst vs) → (∀ v ∈ vs, ThingOk K H' v) → vs.length = 7 → BoxAt H' b (n + 1) → But b H1 H' → De.rt (.ref p) H') →
        t De [some (.ref b), some (.ref nl), some (.ref l), x3, x4, x5, x6, x7, x8, x9, x10] H1 := by
  have GT : FnOk P w K mg base CX0 1 fT fdT ["_law_box_here", "_law_many"] spTake := ok_take T
  have hu := hu_of hr
  refine ⟨_, pss_cons (ps_asg (pe_ix ix_list (pv 2) pe_int (fun _ _ => rfl)) (pg_tup (by rfl) (pgs_cons (pg_name (i := 8) scThings.nd rfl (.inl rfl)) (pgs_cons (pg_name (i := 9) scThings.nd rfl (.inl rfl)) pgs_nil))))
    (pss_cons (ps_set (i := 10) scThings.nd rfl (.inl rfl) (pe_lst (pa_cons (pe_lst (pa_cons (pv 8) (pa_cons (pv 9) pa_nil))) (pa_cons (pe_tup (pa_cons (pv 8) (pa_cons (pv 9) (pa_cons pe_dnewK pa_nil)))) (pa_cons (pe_tup (pa_cons pe_dnewK (pa_cons (pv 9) pa_nil)))
      (pa_cons (pe_tup (pa_cons (pv 8) (pa_cons pe_non pa_nil))) (pa_cons (pe_tup (pa_cons (pv 8) (pa_cons (pe_disp (pps_cons (pe_ix ix_list (pv 1) pe_int (fun _ _ => rfl)) pe_bl pps_nil) (by rfl) (by rfl) (fun z => by cases z) (by decide)) pa_nil))) (pa_cons pe_non pa_nil))))))))
    (pss_one (ps_ret (pe_op op_cat (pv 2) (pe_lst (pa_cons (pe_ix ix_list (pv 10) (pe_call GT hr rfl gT T.kp bT .nil pass0 (pa_cons (pv 0) (pa_cons pe_int pa_nil))) (fun _ _ => rfl)) pa_nil)))))), ?_⟩
  intro De b nl l n ns Ts x3 x4 x5 x6 x7 x8 x9 x10 H1 B hn hnl m1 hz nnb hl nlb l6 hT q
  obtain ⟨T0, e0⟩ : ∃ T0, Ts[0]? = some T0 := ⟨Ts[0], List.getElem?_eq_getElem (by omega)⟩
  obtain ⟨d, e, k, l_, eT, ed, ee, okk, okl⟩ := hT T0 (List.mem_of_getElem? e0)
  obtain ⟨z0, ez0⟩ : ∃ z0, ns[0]? = some z0 := ⟨ns[0], List.getElem?_eq_getElem (by omega)⟩
  have hz0 := List.mem_of_getElem? ez0
  have z2 : 2 ≤ sizeLine := small_size (by decide)
  have z3 : 3 ≤ sizeLine := small_size (by decide)
  have z6 : 6 ≤ sizeLine := small_size (by decide)
  refine ⟨_, rfl, l, _, ((0 : Nat) : Int), .ref T0, rfl, rfl, .of hl, atI_nat (j := 0) (by rw [List.getElem?_map, e0]; rfl), T0, _, rfl, .of eT, rfl, _, _, rfl, _, _, rfl, rfl, ?_⟩
  refine ⟨_, rfl, _, rfl, z2, fun p1 g1 => ?_⟩
  have s1 := Same.new (o := .lst [V.ref d, V.ref e]) g1
  have f1 : (upd H1 p1 (.lst [V.ref d, V.ref e])) p1 = some (.lst [V.ref d, V.ref e]) := upd_same
  have np1 := box_ne B g1
  generalize upd H1 p1 (.lst [V.ref d, V.ref e]) = H2 at s1 f1 ⊢
  refine ⟨_, rfl, _, rfl, fun d2 g2 => ?_⟩
  have s2 := s1.trans (Same.new (o := .dK []) g2)
  have f1' := (Same.new (o := .dK []) g2) _ _ f1
  have fd2 : (upd H2 d2 (.dK [])) d2 = some (.dK []) := upd_same
  generalize upd H2 d2 (.dK []) = H3 at s2 f1' fd2 ⊢
  refine ⟨z3, fun p2 g3 => ?_⟩
  have t3 := Same.new (o := .tup [V.ref d, V.ref e, V.ref d2]) g3
  have s3 := s2.trans t3
  have f1'' := t3 _ _ f1'
  have fd2' := t3 _ _ fd2
  have f2 : (upd H3 p2 (.tup [V.ref d, V.ref e, V.ref d2])) p2 = some (.tup [V.ref d, V.ref e, V.ref d2]) := upd_same
  generalize upd H3 p2 (.tup [V.ref d, V.ref e, V.ref d2]) = H4 at s3 f1'' fd2' f2 ⊢
  clear f1 f1' fd2 t3 s1 s2 g1 g2 g3
  intro d3 g4
  have t4 := Same.new (o := .dK []) g4
  have s4 := s3.trans t4
  have f1 := t4 _ _ f1''
  have fd2 := t4 _ _ fd2'
  have f2' := t4 _ _ f2
  have fd3 : (upd H4 d3 (.dK [])) d3 = some (.dK []) := upd_same
  generalize upd H4 d3 (.dK []) = H5 at s4 f1 fd2 f2' fd3 ⊢
  clear t4 f1'' fd2' f2 s3 g4
  refine ⟨_, rfl, z2, fun p3 g5 => ?_⟩
  have t5 := Same.new (o := .tup [V.ref d3, V.ref e]) g5
  have s5 := s4.trans t5
  have f1' := t5 _ _ f1
  have fd2' := t5 _ _ fd2
  have f2 := t5 _ _ f2'
  have fd3' := t5 _ _ fd3
  have f3 : (upd H5 p3 (.tup [V.ref d3, V.ref e])) p3 = some (.tup [V.ref d3, V.ref e]) := upd_same
  generalize upd H5 p3 (.tup [V.ref d3, V.ref e]) = H6 at s5 f1' fd2' f2 fd3' f3 ⊢
  clear t5 f1 fd2 f2' fd3 s4 g5
  refine ⟨_, rfl, z2, fun p4 g6 => ?_⟩
  have t6 := Same.new (o := .tup [V.ref d, V.non]) g6
  have s6 := s5.trans t6
  have f1 := t6 _ _ f1'
  have fd2 := t6 _ _ fd2'
  have f2' := t6 _ _ f2
  have fd3 := t6 _ _ fd3'
  have f3' := t6 _ _ f3
  have f4 : (upd H6 p4 (.tup [V.ref d, V.non])) p4 = some (.tup [V.ref d, V.non]) := upd_same
  generalize upd H6 p4 (.tup [V.ref d, V.non]) = H7 at s6 f1 fd2 f2' fd3 f3' f4 ⊢
  clear t6 f1' fd2' f2 fd3' f3 s5 g6
  refine ⟨_, rfl, fun d5 g7 => ?_⟩
  refine ⟨_, rfl, nl, _, ((0 : Nat) : Int), .str z0, rfl, rfl, .of ((upd_ne (ne_of_none (s6 _ _ hnl) g7)).trans (s6 _ _ hnl)), atI_nat (j := 0) (by rw [List.getElem?_map, ez0]; rfl), upd_same, [(Sum.inr z0, .bl true)], rfl, by show 1 ≤ 15; decide, ?_⟩
  rw [upd_upd, show mergeK [] [((Sum.inr z0 : Key), V.bl true)] = [(Sum.inr z0, V.bl true)] from rfl]
  have t7 := Same.new (o := .dK [((Sum.inr z0 : Key), V.bl true)]) g7
  have s7 := s6.trans t7
  have f1' := t7 _ _ f1
  have fd2' := t7 _ _ fd2
  have f2 := t7 _ _ f2'
  have fd3' := t7 _ _ fd3
  have f3 := t7 _ _ f3'
  have f4' := t7 _ _ f4
  have fd5 : (upd H7 d5 (.dK [((Sum.inr z0 : Key), V.bl true)])) d5 = some (.dK [(Sum.inr z0, V.bl true)]) := upd_same
  generalize upd H7 d5 (.dK [((Sum.inr z0 : Key), V.bl true)]) = H8 at s7 f1' fd2' f2 fd3' f3 f4' fd5 ⊢
  clear t7 f1 fd2 f2' fd3 f3' f4 s6 g7
  refine ⟨z2, fun p5 g8 => ?_⟩
  have t8 := Same.new (o := .tup [V.ref d, V.ref d5]) g8
  have s8 := s7.trans t8
  have f1 := t8 _ _ f1'
  have fd2 := t8 _ _ fd2'
  have f2' := t8 _ _ f2
  have fd3 := t8 _ _ fd3'
  have f3' := t8 _ _ f3
  have f4 := t8 _ _ f4'
  have fd5' := t8 _ _ fd5
  have f5 : (upd H8 p5 (.tup [V.ref d, V.ref d5])) p5 = some (.tup [V.ref d, V.ref d5]) := upd_same
  generalize upd H8 p5 (.tup [V.ref d, V.ref d5]) = H9 at s8 f1 fd2 f2' fd3 f3' f4 fd5' f5 ⊢
  clear t8 f1' fd2' f2 fd3' f3 f4' fd5 s7 g8
  refine ⟨z6, fun m g9 => ?_⟩
  have t9 := Same.new (o := .lst [V.ref p1, V.ref p2, V.ref p3, V.ref p4, V.ref p5, V.non]) g9
  have s9 := s8.trans t9
  have f1' := t9 _ _ f1
  have fd2' := t9 _ _ fd2
  have f2 := t9 _ _ f2'
  have fd3' := t9 _ _ fd3
  have f3 := t9 _ _ f3'
  have f4' := t9 _ _ f4
  have fd5 := t9 _ _ fd5'
  have f5' := t9 _ _ f5
  have em : (upd H9 m (.lst [V.ref p1, V.ref p2, V.ref p3, V.ref p4, V.ref p5, V.non])) m = some (.lst [V.ref p1, V.ref p2, V.ref p3, V.ref p4, V.ref p5, V.non]) := upd_same
  have nm : m ≠ b := box_ne (B.keep fun o e => s8 _ _ e) g9
  generalize upd H9 m (.lst [V.ref p1, V.ref p2, V.ref p3, V.ref p4, V.ref p5, V.non]) = HA at s9 f1' fd2' f2 fd3' f3 f4' fd5 f5' em ⊢
  clear t9 f1 fd2 f2' fd3 f3' f4 fd5' f5 s8 g9
  have BA : BoxAt HA b n := B.keep fun o e => s9 _ _ e
  refine ⟨_, rfl, _, rfl, _, rfl, b, 6, n, rfl, BA, by omega, by decide, by decide, fun r HB r0 r1 BB kB => ?_⟩
  obtain ⟨j, rfl, hj⟩ := draw_at (n := 6) r0 r1 rfl
  have kd := kB _ _ (dic_nb B ed) (s9 _ _ ed)
  have ke := kB _ _ (dic_nb B ee) (s9 _ _ ee)
  have k1 := kB _ _ np1 f1'
  have k2 := kB _ _ (tup_nb BA f2) f2
  have k3 := kB _ _ (tup_nb BA f3) f3
  have k4 := kB _ _ (tup_nb BA f4') f4'
  have k5 := kB _ _ (tup_nb BA f5') f5'
  have kd2 := kB _ _ (dic_nb BA fd2') fd2'
  have kd3 := kB _ _ (dic_nb BA fd3') fd3'
  have kd5 := kB _ _ (dic_nb BA fd5) fd5
  have km := kB _ _ nm em
  have okN : DOk ns [] := ⟨hz, (fun _ h => nomatch h), .nil, Nat.zero_le _⟩
  have okB : DOk ns [(Sum.inr z0, V.bl true)] := ⟨hz, fun p hp => by
    rw [List.mem_singleton.mp hp]
    exact ⟨z0, rfl, hz0, .inr ⟨true, rfl⟩⟩, by simp, by show 1 ≤ 20; decide⟩
  have two : ∀ {x y : V}, Part K HB x → Part K HB y → ∀ v ∈ [x, y], Part K HB v := fun {x y} hx hy v hv => by
    simp only [List.mem_cons, List.not_mem_nil, or_false] at hv
    rcases hv with rfl | rfl
    · exact hx
    · exact hy
  obtain ⟨v, hv, hvT⟩ : ∃ v, [V.ref p1, V.ref p2, V.ref p3, V.ref p4, V.ref p5, V.non][j]? = some v ∧ ThingOk K HB v := by
    match j, hj with
    | 0, _ => exact ⟨_, rfl, thing_lst (two (okk.part kd) (okl.part ke)) (by show 2 ≤ 4; decide) k1⟩
    | 1, _ =>
      refine ⟨_, rfl, thing_tup (fun v hv => ?_) (by show 3 ≤ 4; decide) k2⟩
      simp only [List.mem_cons, List.not_mem_nil, or_false] at hv
      rcases hv with rfl | rfl | rfl
      · exact okk.part kd
      · exact okl.part ke
      · exact okN.part kd2
    | 2, _ => exact ⟨_, rfl, thing_tup (two (okN.part kd3) (okl.part ke)) (by show 2 ≤ 4; decide) k3⟩
    | 3, _ => exact ⟨_, rfl, thing_tup (two (okk.part kd) Part.none) (by show 2 ≤ 4; decide) k4⟩
    | 4, _ => exact ⟨_, rfl, thing_tup (two (okk.part kd) (okB.part kd5)) (by show 2 ≤ 4; decide) k5⟩
    | 5, _ => exact ⟨_, rfl, ThingOk.none⟩
  refine ⟨m, _, _, v, rfl, rfl, .of km, atI_nat hv, by show 1 ≤ sizeLine; exact small_size (by decide), fun u hu => ?_⟩
  have tu := Same.new (o := .lst [v]) hu
  have kl : HB l = some (.lst (Ts.map V.ref)) := kB _ _ nlb (s9 _ _ hl)
  refine ⟨l, u, _, _, rfl, rfl, tu _ _ kl, upd_same, by rw [List.length_map, l6]; show 6 + 1 ≤ sizeLine; exact small_size (by decide), fun p hp => ?_⟩
  have tp := tu.trans (Same.new (o := .lst (Ts.map V.ref ++ [v])) hp)
  have np : H1 p = none := by
    have h1 := tu.free hp
    have : But b H1 HB := (But.same s9).trans kB
    exact free_of this (fun z => by
      obtain ⟨_, _, _, eb, _⟩ := BB
      rw [z, eb] at h1
      cases h1) h1
  refine q p _ _ np upd_same (fun x hx => ?_) (by rw [List.length_append, List.length_map, l6]; rfl) (BB.keep fun o e => tp _ _ e) (((But.same s9).trans kB).trans (But.same tp))
  rcases List.mem_append.mp hx with hx | hx
  · obtain ⟨T, hTm, rfl⟩ := List.mem_map.mp hx
    obtain ⟨d', e', k', l', h1, h2, h3, h4, h5⟩ := hT T hTm
    have h1' := kB _ _ (tup_nb B h1) (s9 _ _ h1)
    have h2' := kB _ _ (dic_nb B h2) (s9 _ _ h2)
    have h3' := kB _ _ (dic_nb B h3) (s9 _ _ h3)
    exact (show PairT HB ns T from ⟨d', e', k', l', h1', h2', h3', h4, h5⟩).thing.same tp
  · rw [List.mem_singleton.mp hx]
    exact hvT.same tp
end
end G
set_option Elab.async false
set_option linter.all false
set_option maxRecDepth 100000
set_option maxHeartbeats 8000000
/-! LT2: _law_things from its head on. -/
namespace G
open PySem PySem.Spec PyProof.Rows L2 NdefX StX
/-- all but the box and two dicts stands -/
def But3 (b d e : Addr) (H H' : Hp) : Prop := ∀ c o, c ≠ b → c ≠ d → c ≠ e → H c = some o → H' c = some o
section
variable {P : Program} {w : World} {K : PySem.W.Frag} {mg : Str → Option Value} {base : Heap}
theorem dok_of {zs : List Str} {H : Hp} {d e : Addr} {n : Nat} (h : TwoD H zs d e n) (hz : ∀ y ∈ zs, NameZ y) (hn : n ≤ 20) : ∃ k l, H d = some (.dK k) ∧ H e = some (.dK l) ∧ DOk zs k ∧ DOk zs l := by
  obtain ⟨k, a1, a2, a3, a4⟩ := h.x
  obtain ⟨l, b1, b2, b3, b4⟩ := h.y
  exact ⟨k, l, a1, b1, ⟨hz, a2, a3, Nat.le_trans a4 hn⟩, ⟨hz, b2, b3, Nat.le_trans b4 hn⟩⟩
theorem ok_things {f fT : Addr} {fd fdT : FuncData} (F : Fun K "_law_things" "_law_things" sThings f fd) (T : Fun K "_law_take" "_law_take" sTake fT fdT) (bT : Binds K fdT ["_law_box_here", "_law_many"] []) (gT : mg "_law_take" = some (.ref fT))
    (mr : mg "range" = none) : FnOk P w K mg base CX0 2 f fd ["_law_box_here", "_law_names_here"] (spThings K) := by
  have GT : FnOk P w K mg base CX0 1 fT fdT ["_law_box_here", "_law_many"] spTake := ok_take T
  refine F.ok scThings (fun vs H Q E h => ?_) (fun cdv A outer s H vs Q E hr h => ?_)
  · obtain ⟨b, nl, n, ns, rfl, _⟩ := h
    rfl
  · obtain ⟨b, nl, n, ns, rfl, B, hn, hnl, m1, m6, hz, nnb, q⟩ := h
    have hu := hu_of hr
    obtain ⟨tz, pz, qz⟩ := things_tail (P := P) (w := w) (K := K) (mg := mg) (base := base) (cdv := cdv) (A := A) (outer := outer) (s := s) (H := H) (E := E) (f := f) T bT gT hr
    refine ⟨_, pss_cons (ps_set (i := 2) scThings.nd rfl (.inl rfl) (pe_lst pa_nil))
      (pss_cons (ps_for PassesOwn.never rfl (pi_range1 rfl mr (pa_cons pe_int pa_nil)) (pg_name (i := 3) scThings.nd rfl (.inl rfl))
        (pss_cons (ps_par (i := 4) (j := 5) (by rfl) scThings.nd rfl rfl (by decide) rfl rfl
            (pa_cons (pe_disp (pps_cons (pe_ix ix_list (pv 1) pe_int (fun _ _ => rfl)) (pe_call GT hr rfl gT T.kp bT .nil pass0 (pa_cons (pv 0) (pa_cons pe_int pa_nil))) pps_nil) (by rfl) (by rfl) (fun z => by cases z) (by decide))
            (pa_cons (pe_disp (pps_cons (pe_ix ix_list (pv 1) pe_int (fun _ _ => rfl)) (pe_call GT hr rfl gT T.kp bT .nil pass0 (pa_cons (pv 0) (pa_cons pe_int pa_nil))) pps_nil) (by rfl) (by rfl) (fun z => by cases z) (by decide)) pa_nil)) (by rfl))
        (pss_cons (ps_for PassesOwn.never rfl (pi_list (pv 1)) (pg_name (i := 6) scThings.nd rfl (.inl rfl))
          (pss_one (ps_for PassesOwn.never rfl (pi_list (pe_lst (pa_cons (pv 4) (pa_cons (pv 5) pa_nil)))) (pg_name (i := 7) scThings.nd rfl (.inl rfl))
            (pss_one (ps_if (pt_cmpR op_gt (pe_call GT hr rfl gT T.kp bT .nil pass0 (pa_cons (pv 0) (pa_cons pe_int pa_nil))) pe_int (nomark _))
              (pss_one (ps_dput hu (pv 7) (pv 6) (pe_ix (r := rIxL K) ix_list (pe_lst (pa_cons pe_int (pa_cons pe_int (pa_cons (pe_un un_neg pe_int) pa_nil)))) (pe_call GT hr rfl gT T.kp bT .nil pass0 (pa_cons (pv 0) (pa_cons pe_int pa_nil))) (fun _ _ => rfl)) rfl)) pss_nil)))))
        (pss_one (ps_expr (pe_bm PySem.F.plainAttrs_list PySem.F.slot_list_append PySem.F.type_list_append mt_append (pv 2) (pa_cons (pe_tup (pa_cons (pv 4) (pa_cons (pv 5) pa_nil))) pa_nil))))))) pz), ?_⟩
    obtain ⟨z0, ez0⟩ : ∃ z0, ns[0]? = some z0 := ⟨ns[0], List.getElem?_eq_getElem (by omega)⟩
    have hz0 := List.mem_of_getElem? ez0
    refine ⟨by show 0 ≤ sizeLine; exact Nat.zero_le _, fun l hl => ?_⟩
    have nlb := box_ne B hl
    have nnl : nl ≠ l := ne_of_none hnl hl
    refine ⟨6, rfl, by decide, by decide, ?_⟩
    refine for_range (lo := 0) (n := 6) (fun i σ H1 => ∃ (Ts : List Addr) (x3 x4 x5 x6 x7 : Option V), σ = [some (.ref b), some (.ref nl), some (.ref l), x3, x4, x5, x6, x7, none, none, none] ∧ H1 l = some (.lst (Ts.map V.ref)) ∧ Ts.length = i ∧ (∀ T ∈ Ts, PairT H1 ns T) ∧ H1 nl = some (.lst (ns.map V.str)) ∧ BoxAt H1 b (n + 26 * i) ∧ But b H H1) ?_ ?_ ?_
    · exact ⟨[], _, _, _, _, _, rfl, upd_same, rfl, (fun _ h => nomatch h), (upd_ne nnl).trans hnl, box_new B hl, But.new hl⟩
    · rintro i σ H1 hi ⟨Ts, x3, x4, x5, x6, x7, rfl, e1, l1, hT, en1, B1, k1⟩
      -- the two dicts
      intro d hd
      have ndb := box_ne B1 hd
      refine ⟨_, rfl, nl, _, ((0 : Nat) : Int), .str z0, rfl, rfl, .of ((upd_ne (ne_of_none en1 hd)).trans en1), atI_nat (j := 0) (by rw [List.getElem?_map, ez0]; rfl), ?_⟩
      refine ⟨_, rfl, b, 2, _, rfl, box_new B1 hd, by omega, by decide, by decide, fun r H2 r0 r1 B2 k2 => ?_⟩
      obtain ⟨j, rfl, hj⟩ := draw_at (n := 2) r0 r1 rfl
      have ed2 := k2 _ _ ndb upd_same
      refine ⟨ed2, [(Sum.inr z0, .int (j : Int))], rfl, by show 1 ≤ 15; decide, ?_⟩
      rw [show mergeK [] [((Sum.inr z0 : Key), V.int (j : Int))] = [(Sum.inr z0, V.int (j : Int))] from rfl]
      have k12 : But b H1 (upd H2 d (.dK [(Sum.inr z0, V.int (j : Int))])) := but_upd ((But.new hd).trans k2) hd
      have B2' : BoxAt (upd H2 d (.dK [(Sum.inr z0, V.int (j : Int))])) b (n + 26 * i + 1) := box_upd B2 ndb
      have ed : (upd H2 d (.dK [((Sum.inr z0 : Key), V.int (j : Int))])) d = some (.dK [(Sum.inr z0, V.int (j : Int))]) := upd_same
      generalize upd H2 d (.dK [((Sum.inr z0 : Key), V.int (j : Int))]) = H3 at k12 B2' ed ⊢
      clear k2 B2 ed2 r0 r1
      intro e he
      have neb := box_ne B2' he
      have nde : d ≠ e := ne_of_none ed he
      have en3 := k12 _ _ nnb en1
      refine ⟨_, rfl, nl, _, ((0 : Nat) : Int), .str z0, rfl, rfl, .of ((upd_ne (ne_of_none en3 he)).trans en3), atI_nat (j := 0) (by rw [List.getElem?_map, ez0]; rfl), ?_⟩
      refine ⟨_, rfl, b, 2, _, rfl, box_new B2' he, by omega, by decide, by decide, fun r H4 r0 r1 B4 k4 => ?_⟩
      obtain ⟨j2, rfl, hj2⟩ := draw_at (n := 2) r0 r1 rfl
      have ee4 := k4 _ _ neb upd_same
      refine ⟨ee4, [(Sum.inr z0, .int (j2 : Int))], rfl, by show 1 ≤ 15; decide, ?_⟩
      rw [show mergeK [] [((Sum.inr z0 : Key), V.int (j2 : Int))] = [(Sum.inr z0, V.int (j2 : Int))] from rfl]
      have fe : H1 e = none := free_of k12 neb he
      have k14 : But b H1 (upd H4 e (.dK [(Sum.inr z0, V.int (j2 : Int))])) := but_upd ((k12.trans (But.new he)).trans k4) fe
      have B5 : BoxAt (upd H4 e (.dK [(Sum.inr z0, V.int (j2 : Int))])) b (n + 26 * i + 2) := box_upd B4 neb
      have ee : (upd H4 e (.dK [((Sum.inr z0 : Key), V.int (j2 : Int))])) e = some (.dK [(Sum.inr z0, V.int (j2 : Int))]) := upd_same
      have ed' : (upd H4 e (.dK [((Sum.inr z0 : Key), V.int (j2 : Int))])) d = some (.dK [(Sum.inr z0, V.int (j : Int))]) := (upd_ne nde).trans (k4 _ _ ndb ((upd_ne nde).trans ed))
      generalize upd H4 e (.dK [((Sum.inr z0 : Key), V.int (j2 : Int))]) = H5 at k14 B5 ee ed' ⊢
      clear k4 B4 ee4 r0 r1 k12 B2' ed
      have two5 : TwoD H5 ns d e 1 := ⟨nde, ⟨_, ed', fun p hp => by rw [List.mem_singleton.mp hp]; exact ⟨z0, rfl, hz0, .inl ⟨_, rfl, by omega, by omega⟩⟩, by simp, Nat.le_refl _⟩,
        ⟨_, ee, fun p hp => by rw [List.mem_singleton.mp hp]; exact ⟨z0, rfl, hz0, .inl ⟨_, rfl, by omega, by omega⟩⟩, by simp, Nat.le_refl _⟩⟩
      have en5 := k14 _ _ nnb en1
      refine ⟨_, _, rfl, ?_⟩
      refine ⟨_, rfl, nl, rfl, ⟨_, .of en5⟩, ?_⟩
      refine for_list (xs := ns.map V.str) (fun i2 σ H6 => ∃ (y6 y7 : Option V), σ = [some (.ref b), some (.ref nl), some (.ref l), some (.int (0 + (i : Nat))), some (.ref d), some (.ref e), y6, y7, none, none, none] ∧ TwoD H6 ns d e (1 + 2 * i2) ∧ BoxAt H6 b (n + 26 * i + 2 + 4 * i2) ∧ But3 b d e H5 H6) ?_ ?_ ?_ ?_
      · exact ⟨_, _, rfl, two5, B5, fun _ _ _ _ _ h => h⟩
      · rintro i2 σ H6 _ ⟨_, _, _, _, _, k6⟩
        exact .of (k6 _ _ nnb (ne_of en5 ed' (fun z => nomatch z)) (ne_of en5 ee (fun z => nomatch z)) en5)
      · rintro i2 x σ H6 hx ⟨y6, y7, rfl, tw, B6, k6⟩
        rw [List.getElem?_map] at hx
        obtain ⟨z, hzx, rfl⟩ := Option.map_eq_some_iff.mp hx
        have hzm := List.mem_of_getElem? hzx
        have hi2 : i2 < ns.length := (List.getElem?_eq_some_iff.mp hzx).1
        refine ⟨_, rfl, _, rfl, by show 2 ≤ sizeLine; exact small_size (by decide), fun p hp => ⟨p, rfl, ⟨_, .of upd_same⟩, ?_⟩⟩
        have npb := box_ne B6 hp
        have tp := Same.new (o := .lst [V.ref d, V.ref e]) hp
        have ep : (upd H6 p (.lst [V.ref d, V.ref e])) p = some (.lst [V.ref d, V.ref e]) := upd_same
        have tw' : TwoD (upd H6 p (.lst [V.ref d, V.ref e])) ns d e (1 + 2 * i2) := tw.at (Nat.le_refl _) fun c k e => tp _ _ e
        have B6' := B6.keep fun o e => tp _ _ e
        have k6' : But3 b d e H5 (upd H6 p (.lst [V.ref d, V.ref e])) := fun c o c1 c2 c3 ec => tp _ _ (k6 c o c1 c2 c3 ec)
        have npd : p ≠ d := fun z => by
          obtain ⟨k, ek, _⟩ := tw.x
          rw [z, ek] at hp
          cases hp
        have npe : p ≠ e := fun z => by
          obtain ⟨k, ek, _⟩ := tw.y
          rw [z, ek] at hp
          cases hp
        generalize upd H6 p (.lst [V.ref d, V.ref e]) = H6a at ep tw' B6' k6' ⊢
        refine for_list (xs := [V.ref d, V.ref e]) (fun i3 σ H7 => ∃ y7 : Option V, σ = [some (.ref b), some (.ref nl), some (.ref l), some (.int (0 + (i : Nat))), some (.ref d), some (.ref e), some (.str z), y7, none, none, none] ∧ TwoD H7 ns d e (1 + 2 * i2 + i3) ∧ BoxAt H7 b (n + 26 * i + 2 + 4 * i2 + 2 * i3) ∧ H7 p = some (.lst [V.ref d, V.ref e]) ∧ But3 b d e H5 H7) ?_ ?_ ?_ ?_
        · exact ⟨_, rfl, tw', B6', ep, k6'⟩
        · exact fun _ _ _ _ ⟨_, _, _, _, ep, _⟩ => .of ep
        · rintro i3 x σ H7 hx3 ⟨y7, rfl, tw7, B7, ep7, k7⟩
          have hi3 : i3 < 2 := (List.getElem?_eq_some_iff.mp hx3).1
          refine ⟨_, rfl, b, 3, _, rfl, B7, by omega, by decide, by decide, fun r H8 r0 r1 B8 k8 => ?_⟩
          obtain ⟨kx, ex, hx1, hx2, hx4⟩ := tw7.x
          obtain ⟨ky, ey, hy1, hy2, hy4⟩ := tw7.y
          have ex8 := k8 _ _ (dic_nb B7 ex) ex
          have ey8 := k8 _ _ (dic_nb B7 ey) ey
          have tw8 : TwoD H8 ns d e (1 + 2 * i2 + (i3 + 1)) := ⟨tw7.ne, ⟨kx, ex8, hx1, hx2, by omega⟩, ⟨ky, ey8, hy1, hy2, by omega⟩⟩
          have ep8 := k8 _ _ npb ep7
          have k58 : But3 b d e H5 H8 := fun c o c1 c2 c3 ec => k8 _ _ c1 (k7 c o c1 c2 c3 ec)
          refine ⟨_, _, rfl, rfl, _, rfl, ite2 (fun _ => ?_) (fun _ => ?_)⟩
          · refine ⟨_, rfl, by show 3 ≤ sizeLine; exact small_size (by decide), fun m hm => ?_⟩
            have nmb := box_ne B8 hm
            refine ⟨_, rfl, b, 3, _, rfl, box_new B8 hm, by omega, by decide, by decide, fun r3 H9 c0 c1 B9 k9 => ?_⟩
            obtain ⟨g, rfl, hg⟩ := draw_at (n := 3) c0 c1 rfl
            have em := k9 _ _ nmb upd_same
            have car : ∀ c o, c ≠ b → H8 c = some o → H9 c = some o := fun c o nc ec => k9 _ _ nc ((upd_ne (ne_of_none ec hm)).trans ec)
            have ex9 := car _ _ (dic_nb B7 ex) ex8
            have ey9 := car _ _ (dic_nb B7 ey) ey8
            have ep9 := car _ _ npb ep8
            obtain ⟨w_, ew, w1, w2⟩ : ∃ w_ : Int, ([V.int 0, V.int 1, V.int (-1)] : List V)[g]? = some (.int w_) ∧ -999 ≤ w_ ∧ w_ ≤ 999 := by
              match g, hg with
              | 0, _ => exact ⟨_, rfl, by decide, by decide⟩
              | 1, _ => exact ⟨_, rfl, by decide, by decide⟩
              | 2, _ => exact ⟨_, rfl, by decide, by decide⟩
            refine ⟨m, _, _, .int w_, rfl, rfl, .of em, atI_nat ew, ?_⟩
            have B10 : ∀ (c : Addr) (o : HO), c ≠ b → BoxAt (upd H9 c o) b (n + 26 * i + 2 + 4 * i2 + 2 * (i3 + 1)) := fun c o nc => (box_upd B9 nc).mono (by omega)
            match i3, hi3, hx3 with
            | 0, _, hx3 =>
              cases (Option.some.inj hx3)
              refine ⟨_, rfl, _, rfl, d, _, rfl, DPut.k (k := Sum.inr z) ex9 (small1000 (by omega)), ?_⟩
              refine ⟨_, rfl, ⟨nde, ⟨_, upd_same, ent_put hx1 hzm w1 w2, nodup_put hx2 _ _, ?_⟩, ⟨ky, (upd_ne nde.symm).trans ey9, hy1, hy2, by omega⟩⟩, B10 _ _ ndb, (upd_ne npd).trans ep9, fun c o c1 c2 c3 ec => (upd_ne c2).trans (car _ _ c1 (k58 c o c1 c2 c3 ec))⟩
              have := length_putK kx (Sum.inr z : Key) (.int w_)
              omega
            | 1, _, hx3 =>
              cases (Option.some.inj hx3)
              refine ⟨_, rfl, _, rfl, e, _, rfl, DPut.k (k := Sum.inr z) ey9 (small1000 (by omega)), ?_⟩
              refine ⟨_, rfl, ⟨nde, ⟨kx, (upd_ne nde).trans ex9, hx1, hx2, by omega⟩, ⟨_, upd_same, ent_put hy1 hzm w1 w2, nodup_put hy2 _ _, ?_⟩⟩, B10 _ _ neb, (upd_ne npe).trans ep9, fun c o c1 c2 c3 ec => (upd_ne c3).trans (car _ _ c1 (k58 c o c1 c2 c3 ec))⟩
              have := length_putK ky (Sum.inr z : Key) (.int w_)
              omega
          · exact ⟨_, rfl, tw8, B8.mono (by omega), ep8, k58⟩
        · rintro σ H7 ⟨y7, rfl, tw7, B7, ep7, k7⟩
          exact ⟨_, _, rfl, tw7.at (by show 1 + 2 * i2 + 2 ≤ _; omega) fun _ _ e => e, B7.mono (by show n + 26 * i + 2 + 4 * i2 + 2 * 2 ≤ _; omega), k7⟩
      · rintro σ H6 ⟨y6, y7, rfl, tw, B6, k6⟩
        rw [List.length_map] at tw B6
        obtain ⟨k, k', ek, ek', okk, okk'⟩ := dok_of tw hz (by omega)
        have el5 := k14 _ _ nlb e1
        have el6 := k6 _ _ nlb (ne_of el5 ed' (fun z => nomatch z)) (ne_of el5 ee (fun z => nomatch z)) el5
        have en6 := k6 _ _ nnb (ne_of en5 ed' (fun z => nomatch z)) (ne_of en5 ee (fun z => nomatch z)) en5
        have fd : H1 d = none := hd
        refine ⟨_, rfl, .inl ⟨rfl, _, .of el6⟩, _, rfl, _, rfl, by show 2 ≤ sizeLine; exact small_size (by decide), fun T hT6 => ?_⟩
        have tT := Same.new (o := .tup [V.ref d, V.ref e]) hT6
        have nlT : l ≠ T := ne_of_none el6 hT6
        refine ⟨l, _, _, rfl, rfl, tT _ _ el6, by rw [List.length_map, l1]; exact small1000 (by omega), ?_⟩
        have nld : l ≠ d := ne_of el6 ek (fun z => nomatch z)
        have nle : l ≠ e := ne_of el6 ek' (fun z => nomatch z)
        have nTb := box_ne B6 hT6
        have k16 : But b H1 (upd (upd H6 T (.tup [V.ref d, V.ref e])) l (.lst (Ts.map V.ref ++ [V.ref T]))) → True := fun _ => trivial
        have base_ : ∀ c o, c ≠ b → c ≠ l → H1 c = some o → (upd (upd H6 T (.tup [V.ref d, V.ref e])) l (.lst (Ts.map V.ref ++ [V.ref T]))) c = some o := fun c o nb nl ec => by
          rw [upd_ne nl]
          refine tT _ _ (k6 c o nb (ne_of_none ec fd) (ne_of_none ec fe) (k14 _ _ nb ec))
        refine ⟨Ts ++ [T], _, _, _, _, _, rfl, ?_, ?_, fun T' hT' => ?_, (upd_ne (ne_of_none hnl hl)).trans (tT _ _ en6), ?_, ?_⟩
        · rw [upd_same, List.map_append]
          rfl
        · rw [List.length_append, l1]
          rfl
        · rcases List.mem_append.mp hT' with h | h
          · obtain ⟨d', e', u, v, h1, h2, h3, h4, h5⟩ := hT T' h
            refine ⟨d', e', u, v, base_ _ _ (tup_nb B1 h1) (ne_of h1 e1 (fun z => nomatch z)) h1, base_ _ _ (dic_nb B1 h2) (ne_of h2 e1 (fun z => nomatch z)) h2, base_ _ _ (dic_nb B1 h3) (ne_of h3 e1 (fun z => nomatch z)) h3, h4, h5⟩
          · rw [List.mem_singleton.mp h]
            refine ⟨d, e, k, k', (upd_ne nlT.symm).trans upd_same, (upd_ne nld.symm).trans (tT _ _ ek), (upd_ne nle.symm).trans (tT _ _ ek'), okk, okk'⟩
        · exact (box_upd (B6.keep fun o e => tT _ _ e) nlb).mono (by omega)
        · intro c o nc ec
          refine base_ c o nc (ne_of_none ec hl) (k1 c o nc ec)
    · rintro σ H1 ⟨Ts, x3, x4, x5, x6, x7, rfl, e1, l1, hT, en1, B1, k1⟩
      refine qz _ b nl l _ ns Ts _ _ _ _ _ _ _ _ H1 B1 (by omega) en1 m1 hz nnb e1 nlb l1 hT fun p H' vs np ep hv lv B' k' => ?_
      have fp : H p = none := free_of k1 (fun z => by
        obtain ⟨_, _, _, eb, _⟩ := B1
        rw [z, eb] at np
        cases np) np
      exact q p H' vs fp ep hv lv (B'.mono (by omega)) (k1.trans k')
end
end G
set_option Elab.async false
set_option linter.all false
set_option maxRecDepth 100000
set_option maxHeartbeats 8000000
/-! LR: _law_right, from what was found on. -/
namespace G
open PySem PySem.Spec PyProof.Rows L2 NdefX StX
abbrev sRight : Stmt := topS 50
abbrev nRight : List Str := ["_law_box_here", "_law_one", "_law_other_here", "_law_things_here", "_law_orders", "_law_plain_here", "_law_due", "_law_found", "_law_thing", "_law_told", "_law_stood", "_law_order_here"]
theorem scRight : FnScope nRight ["_law_box_here", "_law_one", "_law_other_here", "_law_things_here"] (defScope sRight) := ⟨rfl, rfl, rfl, by decide +kernel, rfl, by decide +kernel, by decide +kernel⟩
theorem ne_same {A B : Prop} {x y : V} (e : x = y) (h : B) : if (!decide (x = y)) = true then A else B := by
  rw [decide_eq_true e, if_neg (by simp)]
  exact h
theorem fine_parts {H : Hp} {fs gs : List Fld} (hf : ∀ f ∈ fs, f.Ok) (hg : ∀ f ∈ gs, f.Ok) (h : fineB (plain fs) (plain gs) = true) (v : V) : partsV H fs gs v = false := by
  cases v with
  | ref T =>
    show (match H T with | some (.tup [a, b]) => pairB H fs gs a b | _ => false) = false
    split
    · rename_i a b _
      unfold pairB
      cases e : ltI (ansL gs (kvsV H a)) (ansL gs (kvsV H b)) with
      | false => rw [Bool.false_and, Bool.and_false, Bool.and_false]
      | true =>
        rw [plain_lt] at e
        have := fine_lt (plain_ok hf) (plain_ok hg) h _ _ e
        rw [← plain_lt] at this
        rw [this]
        simp
    · rfl
  | _ => rfl
theorem lowB_of {c : Nat} (h1 : 97 ≤ c) (h2 : c ≤ 122) : lowB c = true := decide_eq_true (by
  have e : abc.cps.toList = (List.range 26).map (97 + ·) := by decide +kernel
  rw [e]
  exact List.mem_map.mpr ⟨c - 97, List.mem_range.mpr (by omega), by omega⟩)
theorem nameB_of {z : Str} (h : NameZ z) : nameB z = true := by
  unfold nameB
  rw [decide_eq_true h.2.1, decide_eq_true h.2.2, List.all_eq_true.mpr fun c hc => lowB_of (h.1 c hc).1 (h.1 c hc).2]
  rfl
section
variable {g : Fld → Int} {l : List Fld}
theorem fold_dok (h9 : ∀ f, -999 ≤ g f ∧ g f ≤ 999) (ok : ∀ f ∈ l, f.Ok) (l1 : 1 ≤ l.length) (l2 : l.length ≤ 2) : DOk (l.map (·.nm)) (l.foldl (putF g) []) ∧ valB (l.foldl (putF g) []) = true := by
  have nm : ∀ z ∈ l.map (·.nm), NameZ z := fun z hz => by
    obtain ⟨f, hf, rfl⟩ := List.mem_map.mp hz
    exact (ok f hf).1
  have hv := fold_val g h9 l [] (l.map (·.nm)) (fun p hp => nomatch hp) fun f hf => List.mem_map.mpr ⟨f, hf, rfl⟩
  have hl := fold_len g l []
  have hp := fold_pos g l [] (.inr l1)
  rw [List.length_nil] at hl
  have nd : ∀ (l : List Fld) (acc : List (Key × V)), (acc.map (·.1)).Nodup → ((l.foldl (putF g) acc).map (·.1)).Nodup := by
    intro l
    induction l with
    | nil => exact fun acc h => h
    | cons f l ih => exact fun acc h => ih _ (nodup_put h _ _)
  refine ⟨⟨nm, fun p hp => ?_, nd l [] .nil, by omega⟩, ?_⟩
  · obtain ⟨z, i, rfl, hz, h1, h2⟩ := hv p hp
    exact ⟨z, rfl, hz, .inl ⟨i, rfl, h1, h2⟩⟩
  · unfold valB
    rw [decide_eq_true hp, decide_eq_true (show (l.foldl (putF g) []).length ≤ 6 by omega), List.all_eq_true.mpr fun p hp => ?_]
    · rfl
    · obtain ⟨z, i, rfl, hz, h1, h2⟩ := hv p hp
      show (nameB z && (decide (-999 ≤ i) && decide (i ≤ 999))) = true
      rw [nameB_of (nm z hz), decide_eq_true h1, decide_eq_true h2]
      rfl
end
/-- what was found parts the orders -/
theorem found_parts {K : PySem.W.Frag} {H : Hp} {fs gs : List Fld} {i : Nat} {T d e : Addr} (hf : ∀ f ∈ fs, f.Ok) (hg : ∀ f ∈ gs, f.Ok) (p : PartsAt (plain fs) (plain gs) i) (tw : TwoAt H T d e [] (lesK (ascOf (plain fs) (plain gs) i)) (greK (ascOf (plain fs) (plain gs) i))) :
    ThingOk K H (.ref T) ∧ partsV H fs gs (.ref T) = true := by
  have okA := plain_ok hf
  have okB := plain_ok hg
  have l2 := asc_len (plain fs) (plain gs) i
  have l1 : 1 ≤ (ascOf (plain fs) (plain gs) i).length := by
    unfold ascOf
    rw [List.getElem?_eq_getElem p.lt, List.length_append]
    show 1 ≤ 1 + _
    omega
  have okL : ∀ f ∈ ascOf (plain fs) (plain gs) i, f.Ok := fun f hf => by
    unfold ascOf at hf
    rcases List.mem_append.mp hf with hf | hf
    · rw [Option.mem_toList] at hf
      exact okB f (List.mem_of_getElem? hf)
    · obtain ⟨a, ha, rfl⟩ := List.mem_map.mp hf
      rw [Option.mem_toList] at ha
      exact opp_ok (okA a (List.mem_of_getElem? ha))
  have b1 : ∀ f, -999 ≤ lesN f ∧ lesN f ≤ 999 := fun f => by unfold lesN; split <;> decide
  have b2 : ∀ f, -999 ≤ 1 - lesN f ∧ 1 - lesN f ≤ 999 := fun f => by unfold lesN; split <;> decide
  obtain ⟨x1, x2⟩ := fold_dok (g := lesN) b1 okL l1 l2
  obtain ⟨y1, y2⟩ := fold_dok (g := fun f => 1 - lesN f) b2 okL l1 l2
  have tx : H d = some (.dK ((ascOf (plain fs) (plain gs) i).foldl (putF lesN) [])) := tw.x
  have ty : H e = some (.dK ((ascOf (plain fs) (plain gs) i).foldl (putF fun f => 1 - lesN f) [])) := tw.y
  refine ⟨thing_tup (fun v hv => ?_) (by show 2 ≤ 4; decide) tw.t, ?_⟩
  · simp only [List.mem_cons, List.not_mem_nil, or_false] at hv
    rcases hv with rfl | rfl
    · exact x1.part tx
    · exact y1.part ty
  · show (match H T with | some (.tup [a, b]) => pairB H fs gs a b | _ => false) = true
    rw [tw.t]
    show pairB H fs gs (.ref d) (.ref e) = true
    have v1 : valV' H (.ref d) = true := by
      show (match H d with | some (.dK kvs) => valB kvs | _ => false) = true
      rw [tx]
      exact x2
    have v2 : valV' H (.ref e) = true := by
      show (match H e with | some (.dK kvs) => valB kvs | _ => false) = true
      rw [ty]
      exact y2
    have k1 : kvsV H (.ref d) = lesK (ascOf (plain fs) (plain gs) i) := by
      show (match H d with | some (.dK kvs) => kvs | _ => []) = _
      rw [tx]
      rfl
    have k2 : kvsV H (.ref e) = greK (ascOf (plain fs) (plain gs) i) := by
      show (match H e with | some (.dK kvs) => kvs | _ => []) = _
      rw [ty]
      rfl
    obtain ⟨h1, h2⟩ := parts_lt okA okB (pl_nodup fs []).1 (pl_nodup gs []).1 p
    unfold pairB
    rw [v1, v2, k1, k2, plain_lt _ _ gs, plain_lt _ _ fs, h1, h2]
    rfl
theorem parts_same {K : PySem.W.Frag} {H H' : Hp} {fs gs : List Fld} {v : V} (h : FoundOk K H v) (s : Same H H') : partsV H' fs gs v = partsV H fs gs v := by
  obtain ⟨d, r⟩ := h.rp
  cases r with
  | non => rfl
  | bl b => rfl
  | int i => rfl
  | str z => rfl
  | @lst T xs ds e _ =>
    show (match H' T with | some (.tup [a, b]) => pairB H' fs gs a b | _ => false) = (match H T with | some (.tup [a, b]) => pairB H fs gs a b | _ => false)
    rw [e, s _ _ e]
  | @dic T kvs ds e _ _ =>
    show (match H' T with | some (.tup [a, b]) => pairB H' fs gs a b | _ => false) = (match H T with | some (.tup [a, b]) => pairB H fs gs a b | _ => false)
    rw [e, s _ _ e]
  | @tup T xs ds e _ =>
    show (match H' T with | some (.tup [a, b]) => pairB H' fs gs a b | _ => false) = (match H T with | some (.tup [a, b]) => pairB H fs gs a b | _ => false)
    rw [e, s _ _ e]
    split
    · rename_i a b e2
      cases e2
      obtain ⟨ha, hb⟩ := h.pr T a b rfl e
      obtain ⟨da, ra⟩ := ha.rp
      obtain ⟨db, rb⟩ := hb.rp
      have kv : ∀ {x : V} {d : PyData}, Rp K H x d → kvsV H' x = kvsV H x := fun {x d} r => by
        cases r with
        | non => rfl
        | bl b => rfl
        | int i => rfl
        | str z => rfl
        | @lst c ys ds ec _ =>
          show (match H' c with | some (.dK kvs) => kvs | _ => []) = (match H c with | some (.dK kvs) => kvs | _ => [])
          rw [ec, s _ _ ec]
        | @tup c ys ds ec _ =>
          show (match H' c with | some (.dK kvs) => kvs | _ => []) = (match H c with | some (.dK kvs) => kvs | _ => [])
          rw [ec, s _ _ ec]
        | @dic c ys ds ec _ _ =>
          show (match H' c with | some (.dK kvs) => kvs | _ => []) = (match H c with | some (.dK kvs) => kvs | _ => [])
          rw [ec, s _ _ ec]
      unfold pairB
      rw [val_same s ra, val_same s rb, kv ra, kv rb]
    · rfl
end G
set_option Elab.async false
set_option linter.all false
set_option maxRecDepth 100000
set_option maxHeartbeats 8000000
/-! LR2: _law_right. -/
namespace G
open PySem PySem.Spec PyProof.Rows L2 NdefX StX
theorem fine_self (A : List Fld) : fineB A A = true := by
  unfold fineB
  rw [List.take_length]
  exact decide_eq_true rfl
theorem shw_bool (b : Bool) : Shw (.bool b) := ⟨rfl, (fun h => nomatch h), by show 0 ≤ 10; decide, by show 5 ≤ 200000; decide⟩
theorem shw_bools2 (a b : Bool) : Shw (.list [.bool a, .bool b]) := ⟨rfl, (fun h => by cases h), by show max 0 (max 0 0) + 1 ≤ 10; decide, by show 3 + (5 + 2 + (5 + 2 + 0)) ≤ 200000; decide⟩
theorem lay_flds {fs : List Fld} (h : ∀ f ∈ fs, f.Ok) : lay (.tuple ((tx fs).map PyData.str)) := by
  obtain ⟨h1, h2, h3⟩ := lay_all (ds := (tx fs).map PyData.str) fun d hd => by
    obtain ⟨z, hz, rfl⟩ := List.mem_map.mp hd
    obtain ⟨f, hf, rfl⟩ := List.mem_map.mp hz
    exact (h f hf).lay
  refine ⟨h1, h2, ?_⟩
  have h4 : PyData.depthAll ((tx fs).map PyData.str) = 0 := by
    generalize tx fs = zs
    induction zs with
    | nil => rfl
    | cons z zs ih =>
      show max 0 (PyData.depthAll (zs.map PyData.str)) = 0
      rw [ih]
      rfl
  show PyData.depthAll ((tx fs).map PyData.str) + 1 ≤ 60
  omega
def spRight (K : PySem.W.Frag) : Sp := fun vs H Q _ => ∃ (bv : V) (t u th : Addr) (fs gs : List Fld) (xs : List V), vs = [bv, .ref t, .ref u, .ref th] ∧ H t = some (.tup (txs fs)) ∧ 1 ≤ fs.length ∧ fs.length ≤ 3 ∧ (∀ f ∈ fs, f.Ok) ∧
  H u = some (.tup (txs gs)) ∧ 1 ≤ gs.length ∧ gs.length ≤ 3 ∧ (∀ f ∈ gs, f.Ok) ∧ H th = some (.lst xs) ∧ (∀ v ∈ xs, ThingOk K H v) ∧ xs.length = 7 ∧ ∀ H', Same H H' → Q (.bl true) H'
section
variable {P : Program} {w : World} {K : PySem.W.Frag} {mg : Str → Option Value} {base : Heap}
theorem right_loop {cdv : Value} {A : Around} {outer : List Env} {s : Shared} {H : Hp} {E : XK} {f C fI fL p1 f1 : Addr} {fdI fdL fd1 : FuncData} (c : ByC K C)
    (GI : FnOk P w K mg base CX0 4 fI fdI ["one", "other", "found"] (spIsPart K C)) (gI : mg "is_order_parting" = some (.ref fI)) (kI : PySem.W.keepIn K (.ref fI) = true) (bI : Binds K fdI ["one", "other", "found"] [])
    (GL : FnOk P w K mg base CX0 3 fL fdL ["_law_one", "_law_other_here", "_law_found"] (spLParts K)) (gL : mg "_law_parts" = some (.ref fL)) (kL : PySem.W.keepIn K (.ref fL) = true) (bL : Binds K fdL ["_law_one", "_law_other_here", "_law_found"] [])
    (P1 : PropOf K C "fields" p1 f1) (G1 : FnOk P w K mg base CX0 1 f1 fd1 ["self"] (spByF C)) (b1 : Binds K fd1 ["self"] []) (mp : mg "repr" = none)
    (hg : A.guards = some []) (hr : Room 5 (A.deeper (envOfC "_law_right" (defScope sRight) s.heap.objs.size f cdv))) :
    ∃ tm, PSs (cxOf CX0 P w K mg base nRight "_law_right" (defScope sRight) f cdv A outer s H E).nox ((defBody sRight).drop 5) tm ∧
      ∀ (De : Ends) (bv v : V) (t u th o o1 o2 a1 a2 : Addr) (fs gs : List Fld) (xs : List V) (x5 x8 x9 x10 x11 : Option V) (due : Bool) (H1 : Hp),
        H1 t = some (.tup (txs fs)) → H1 u = some (.tup (txs gs)) → H1 th = some (.lst xs) → (∀ v ∈ xs, ThingOk K H1 v) → xs.length = 7 → H1 o = some (.lst [.ref o1, .ref o2]) → OrdOk C H1 o1 a1 fs → OrdOk C H1 o2 a2 gs →
        due = fineB (plain fs) (plain gs) → ThingOk K H1 v →
        (∀ H', Same H1 H' → De.rt (.bl true) H') →
        tm De [some bv, some (.ref t), some (.ref u), some (.ref th), some (.ref o), x5, some (.bl due), some v, x8, x9, x10, x11] H1 := by
  have hr3 := hr.mono (show 3 ≤ 5 by decide)
  have hr4 := hr.mono (show 4 ≤ 5 by decide)
  have hr2 := hr.mono (show 2 ≤ 5 by decide)
  refine ⟨_, pss_cons (ps_for PassesOwn.never rfl (pi_list (pe_op op_cat (pv 3) (pe_lst (pa_cons (pv 7) pa_nil)))) (pg_name (i := 8) scRight.nd rfl (.inl rfl))
      (pss_cons (ps_par (i := 9) (j := 10) (by rfl) scRight.nd rfl rfl (by decide) rfl rfl (pa_cons (pe_call GI hr4 rfl gI kI bI .nil pass0 (pa_cons (pe_ix ix_list (pv 4) pe_int (fun _ _ => rfl)) (pa_cons (pe_ix ix_list (pv 4) pe_int (fun _ _ => rfl)) (pa_cons (pv 8) pa_nil))))
          (pa_cons (pe_callB (call_reprA hg hr.units) (by rfl) mp (by decide +kernel) (pa_cons (pv 8) pa_nil)) pa_nil)) (by rfl))
      (pss_one (ps_if (PW.pt (pw_or (pt_cmpR op_ne (pe_callB (call_reprA hg hr.units) (by rfl) mp (by decide +kernel) (pa_cons (pv 9) pa_nil)) (pe_callB (call_reprA hg hr.units) (by rfl) mp (by decide +kernel) (pa_cons (pe_call GL hr3 rfl gL kL bL .nil pass0 (pa_cons (pv 1) (pa_cons (pv 2) (pa_cons (pv 8) pa_nil)))) pa_nil)) (nomark _))
          (pw_or (PW.pt (pw_and (pt_val (pv 6)) (pw_and1 (pt_val (pv 9)))))
            (pw_or1 (pt_cmpR op_ne (pe_callB (call_reprA hg hr.units) (by rfl) mp (by decide +kernel) (pa_cons (pv 8) pa_nil)) (pv 10) (nomark _)))))) (pss_one (ps_ret pe_bl)) pss_nil))))
    (pss_one (ps_ret (pe_cmpR (op_eqD hr.units) (by exact pe_lc (own := [("_law_order_here", 11)]) (g := gName 11) (tt := tYes) (by rfl) scRight.nd (pi_list (pv 4)) (blkOk_by (own := [("_law_order_here", 11)]) (N := nRight) (sc := defScope sRight) (by decide +kernel)) (fun _ _ _ _ _ => pg_name (i := 11) scRight.nd rfl (.inl rfl)) (fun _ _ _ _ _ => pts_nil) (fun _ _ _ _ _ => pe_prop (pv 11) c.cl P1 G1 hr2 b1 .nil pass0 rfl)) (pe_lst (pa_cons (pv 1) (pa_cons (pv 2) pa_nil))) (nomark _)))), ?_⟩
  intro De bv v t u th o o1 o2 a1 a2 fs gs xs x5 x8 x9 x10 x11 due H1 ht hu hth hxs l7 ho oa ob hdue hv q
  refine ⟨_, rfl, _, rfl, by show 1 ≤ sizeLine; exact small_size (by decide), fun m hm => ?_⟩
  have tm := Same.new (o := .lst [v]) hm
  refine ⟨th, m, _, _, rfl, rfl, tm _ _ hth, upd_same, by rw [l7]; show 7 + 1 ≤ sizeLine; exact small_size (by decide), fun p hp => ?_⟩
  have sp := tm.trans (Same.new (o := .lst (xs ++ [v])) hp)
  have ep : (upd (upd H1 m (.lst [v])) p (.lst (xs ++ [v]))) p = some (.lst (xs ++ [v])) := upd_same
  generalize upd (upd H1 m (.lst [v])) p (.lst (xs ++ [v])) = H2 at sp ep ⊢
  have hall : ∀ x ∈ xs ++ [v], ThingOk K H1 x := fun x hx => by
    rcases List.mem_append.mp hx with h | h
    · exact hxs x h
    · rw [List.mem_singleton.mp h]
      exact hv
  refine ⟨p, rfl, ⟨_, .of ep⟩, ?_⟩
  refine for_list (xs := xs ++ [v]) (fun i σ H3 => Same H1 H3 ∧ H3 p = some (.lst (xs ++ [v])) ∧ ∃ y8 y9 y10 : Option V, σ = [some bv, some (.ref t), some (.ref u), some (.ref th), some (.ref o), x5, some (.bl due), some v, y8, y9, y10, x11]) ?_ ?_ ?_ ?_
  · exact ⟨sp, ep, _, _, _, rfl⟩
  · exact fun _ _ _ _ h => .of h.2.1
  · rintro i x σ H3 hx ⟨s3, ep3, y8, y9, y10, rfl⟩
    have hx1 := hall x (List.mem_of_getElem? hx)
    have hx3 := hx1.same s3
    obtain ⟨d, rd, kd⟩ := id hx3.sh
    have o3 := s3 _ _ ho
    refine ⟨_, rfl, o, _, ((0 : Nat) : Int), .ref o1, rfl, rfl, .of o3, atI_nat (j := 0) rfl, _, rfl, o, _, ((1 : Nat) : Int), .ref o2, rfl, rfl, .of o3, atI_nat (j := 1) rfl, _, rfl, o1, a1, o2, a2, fs, gs, x, rfl, oa.same s3, ob.same s3, hx3.found, fun H4 s4 => ?_⟩
    have hx4 := hx3.same s4
    have rd4 := rp_same s4 _ _ rd
    refine ⟨_, rfl, x, d, rfl, rd4, kd, ?_⟩
    refine ⟨_, _, rfl, ?_⟩
    have s34 := s3.trans s4
    refine ⟨_, rfl, _, _, rfl, .bl _, shw_bool _, ?_⟩
    refine ⟨_, rfl, _, rfl, _, rfl, t, u, fs, gs, x, rfl, s34 _ _ ht, s34 _ _ hu, oa.l3, ob.l3, oa.ok, ob.ok, hx4.found, fun H5 s5 => ?_⟩
    rw [parts_same hx3.found s4]
    refine ⟨_, _, rfl, .bl _, shw_bool _, rfl, _, rfl, ne_same rfl ?_⟩
    have s35 := s34.trans s5
    have no : (due && partsV H3 fs gs x) = false := by
      cases due with
      | false => rfl
      | true => rw [fine_parts oa.ok ob.ok hdue.symm x]; rfl
    have fin : ∀ (k : Prop) [Decidable k] {A B : Prop}, ¬ k → B → if k then A else B := fun k _ {A B} h b => by rw [if_neg h]; exact b
    have last : ∀ {Z : V → Hp → Prop}, Z (.str d.shown) H5 → rReprA K [x] H5 Z := fun {Z} z => ⟨x, d, rfl, rp_same s5 _ _ rd4, kd, z⟩
    refine ⟨_, rfl, _, rfl, ?_⟩
    cases due with
    | false =>
      refine iteF ?_
      refine ⟨_, rfl, x, d, rfl, rp_same s5 _ _ rd4, kd, _, rfl, rfl, _, rfl, ne_same rfl ?_⟩
      exact ⟨s35, (s5 _ _ (s4 _ _ ep3)), _, _, _, rfl⟩
    | true =>
      refine iteT ⟨_, rfl, _, rfl, ?_⟩
      have no : partsV H3 fs gs x = false := no
      rw [no]
      refine iteF ?_
      refine ⟨_, rfl, x, d, rfl, rp_same s5 _ _ rd4, kd, _, rfl, rfl, _, rfl, ne_same rfl ?_⟩
      exact ⟨s35, (s5 _ _ (s4 _ _ ep3)), _, _, _, rfl⟩
  · rintro σ H3 ⟨s3, _, y8, y9, y10, rfl⟩
    have o3 := s3 _ _ ho
    refine ⟨_, rfl, o, rfl, ⟨_, .of o3⟩, fun D hD => ?_⟩
    refine lc_list (xs := [.ref o1, .ref o2]) (fun i H4 => Same H3 H4 ∧ H4 D = some (.lst ([V.ref a1, V.ref a2].take i))) ?_ ?_ ?_ ?_
    · exact ⟨Same.new hD, upd_same⟩
    · exact fun _ _ _ h => .of (h.1 _ _ o3)
    · rintro i x H4 hx ⟨s4, e4⟩
      refine ⟨rfl, ?_⟩
      unfold tYes
      dsimp only
      rw [if_pos rfl]
      match i, hx with
      | 0, hx =>
        cases (Option.some.inj hx)
        obtain ⟨dx, ea, et⟩ := id ((oa.same s3).same s4).at_
        refine ⟨_, rfl, o1, dx, _, rfl, ea, o1, a1, fs, rfl, ((oa.same s3).same s4).at_, _, e4, by show 0 < sizeLine; decide, fun c o e => (upd_ne (ne_of_none e hD)).trans (s4 _ _ e), upd_same⟩
      | 1, hx =>
        cases (Option.some.inj hx)
        obtain ⟨dx, ea, et⟩ := id ((ob.same s3).same s4).at_
        refine ⟨_, rfl, o2, dx, _, rfl, ea, o2, a2, gs, rfl, ((ob.same s3).same s4).at_, _, e4, by show 1 < sizeLine; decide, fun c o e => (upd_ne (ne_of_none e hD)).trans (s4 _ _ e), upd_same⟩
      | i + 2, hx => cases hx
    · rintro H4 ⟨s4, e4⟩
      have e4 : H4 D = some (.lst [V.ref a1, V.ref a2]) := e4
      refine ⟨_, rfl, _, rfl, by show 2 ≤ sizeLine; exact small_size (by decide), fun m2 hm2 => ?_⟩
      have s5 := Same.new (o := .lst [V.ref t, V.ref u]) hm2
      have s35 := (s3.trans s4).trans s5
      obtain ⟨_, _, et1⟩ := id ((oa.same s3).same s4).at_
      obtain ⟨_, _, et2⟩ := id ((ob.same s3).same s4).at_
      have okf := oa.ok
      have okg := ob.ok
      have dpT : ∀ {a : Addr} {hs : List Fld} {H : Hp}, H a = some (.tup (txs hs)) → Dp K H (.ref a) (.tuple ((tx hs).map PyData.str)) := fun {a hs H} e => .tup (.of (by rw [e, txs_tx])) (dp_strs _)
      refine ⟨.list [.tuple ((tx fs).map PyData.str), .tuple ((tx gs).map PyData.str)], .list [.tuple ((tx fs).map PyData.str), .tuple ((tx gs).map PyData.str)], .lst (.of (s5 _ _ e4)) (.cons (dpT (s5 _ _ et1)) (.cons (dpT (s5 _ _ et2)) .nil)), .lst (.of upd_same) (.cons (dpT (s35 _ _ ht)) (.cons (dpT (s35 _ _ hu)) .nil)), ?_, ?_, ?_⟩
      · exact lay_list fun d hd => by
          simp only [List.mem_cons, List.not_mem_nil, or_false] at hd
          rcases hd with rfl | rfl
          · exact lay_flds okf
          · exact lay_flds okg
      · exact lay_list fun d hd => by
          simp only [List.mem_cons, List.not_mem_nil, or_false] at hd
          rcases hd with rfl | rfl
          · exact lay_flds okf
          · exact lay_flds okg
      · have e1 : PyData.eqv (.list [.tuple ((tx fs).map PyData.str), .tuple ((tx gs).map PyData.str)]) (.list [.tuple ((tx fs).map PyData.str), .tuple ((tx gs).map PyData.str)]) = true := by
          simp only [PyData.eqv, PyData.eqvAll, eqv_strs, decide_true, Bool.and_true]
        rw [e1]
        exact q _ s35
end
end G
set_option Elab.async false
set_option linter.all false
set_option maxRecDepth 100000
set_option maxHeartbeats 8000000
/-! LR3: _law_right, the law. -/
namespace G
open PySem PySem.Spec PyProof.Rows L2 NdefX StX
section
variable {P : Program} {w : World} {K : PySem.W.Frag} {mg : Str → Option Value} {base : Heap}
theorem right_tail {cdv : Value} {A : Around} {outer : List Env} {s : Shared} {H : Hp} {E : XK} {f C fI fL p1 f1 : Addr} {fdI fdL fd1 : FuncData} (c : ByC K C)
    (GI : FnOk P w K mg base CX0 4 fI fdI ["one", "other", "found"] (spIsPart K C)) (gI : mg "is_order_parting" = some (.ref fI)) (kI : PySem.W.keepIn K (.ref fI) = true) (bI : Binds K fdI ["one", "other", "found"] [])
    (GL : FnOk P w K mg base CX0 3 fL fdL ["_law_one", "_law_other_here", "_law_found"] (spLParts K)) (gL : mg "_law_parts" = some (.ref fL)) (kL : PySem.W.keepIn K (.ref fL) = true) (bL : Binds K fdL ["_law_one", "_law_other_here", "_law_found"] [])
    (P1 : PropOf K C "fields" p1 f1) (G1 : FnOk P w K mg base CX0 1 f1 fd1 ["self"] (spByF C)) (b1 : Binds K fd1 ["self"] []) (mp : mg "repr" = none)
    (hg : A.guards = some []) (hr : Room 5 (A.deeper (envOfC "_law_right" (defScope sRight) s.heap.objs.size f cdv))) :
    ∃ tm, PSs (cxOf CX0 P w K mg base nRight "_law_right" (defScope sRight) f cdv A outer s H E).nox ((defBody sRight).drop 4) tm ∧
      ∀ (De : Ends) (bv v : V) (t u th o o1 o2 a1 a2 : Addr) (fs gs : List Fld) (xs : List V) (x5 x8 x9 x10 x11 : Option V) (due : Bool) (H1 : Hp),
        H1 t = some (.tup (txs fs)) → H1 u = some (.tup (txs gs)) → H1 th = some (.lst xs) → (∀ v ∈ xs, ThingOk K H1 v) → xs.length = 7 → H1 o = some (.lst [.ref o1, .ref o2]) → OrdOk C H1 o1 a1 fs → OrdOk C H1 o2 a2 gs →
        due = fineB (plain fs) (plain gs) → ThingOk K H1 v → ((v = .non ∧ due = true) ∨ (v ≠ .non ∧ due = false ∧ partsV H1 fs gs v = true)) →
        (∀ H', Same H1 H' → De.rt (.bl true) H') →
        tm De [some bv, some (.ref t), some (.ref u), some (.ref th), some (.ref o), x5, some (.bl due), some v, x8, x9, x10, x11] H1 := by
  have hr3 := hr.mono (show 3 ≤ 5 by decide)
  obtain ⟨tz, pz, qz⟩ := right_loop (P := P) (w := w) (K := K) (mg := mg) (base := base) (cdv := cdv) (A := A) (outer := outer) (s := s) (H := H) (E := E) (f := f) c GI gI kI bI GL gL kL bL P1 G1 b1 mp hg hr
  refine ⟨_, pss_cons (ps_if (PW.pt (pw_or (pt_cmpR op_ne (pe_cmpR op_isN (pv 7) pe_non (nomark _)) (pv 6) (nomark _))
        (pw_or1 (PW.pt (pw_and (pt_cmpR op_notN (pv 7) pe_non (nomark _)) (pw_and1 (pt_not (pt_val (pe_call GL hr3 rfl gL kL bL .nil pass0 (pa_cons (pv 1) (pa_cons (pv 2) (pa_cons (pv 7) pa_nil)))))))))))) (pss_one (ps_ret pe_bl)) pss_nil) pz, ?_⟩
  intro De bv v t u th o o1 o2 a1 a2 fs gs xs x5 x8 x9 x10 x11 due H1 ht hu hth hxs l7 ho oa ob hdue hv hcase q
  have go : ∀ H2, Same H1 H2 → tz De [some bv, some (.ref t), some (.ref u), some (.ref th), some (.ref o), x5, some (.bl due), some v, x8, x9, x10, x11] H2 := fun H2 s2 =>
    qz De bv v t u th o o1 o2 a1 a2 fs gs xs _ _ _ _ _ due H2 (s2 _ _ ht) (s2 _ _ hu) (s2 _ _ hth) (fun x hx => (hxs x hx).same s2) l7 (s2 _ _ ho) (oa.same s2) (ob.same s2) hdue (hv.same s2) fun H' s' => q H' (s2.trans s')
  rcases hcase with ⟨rfl, rfl⟩ | ⟨nv, rfl, hp⟩
  · refine ⟨_, rfl, rfl, _, rfl, rfl, _, rfl, ne_same rfl ?_⟩
    refine ⟨_, rfl, rfl, _, rfl, ?_⟩
    exact iteF (go H1 (.refl _))
  · have e1 : decide (v = V.non) = false := decide_eq_false nv
    refine ⟨_, rfl, rfl, _, rfl, rfl, _, rfl, ?_⟩
    rw [e1]
    refine ne_same rfl ?_
    refine ⟨_, rfl, rfl, _, rfl, ?_⟩
    rw [e1]
    refine iteT ?_
    refine ⟨_, rfl, _, rfl, _, rfl, t, u, fs, gs, v, rfl, ht, hu, oa.l3, ob.l3, oa.ok, ob.ok, hv.found, fun H2 s2 => ⟨_, rfl, ?_⟩⟩
    rw [hp]
    exact iteF (go H2 s2)
theorem ok_right {f C fO fQ fF fP fI fL p1 f1 : Addr} {fd fdO fdQ fdF fdP fdI fdL fd1 : FuncData} (F : Fun K "_law_right" "_law_right" sRight f fd) (c : ByC K C)
    (GO : FnOk P w K mg base CX0 5 fO fdO ["_law_fields_here"] (spOrder C)) (gO : mg "_law_order" = some (.ref fO)) (kO : PySem.W.keepIn K (.ref fO) = true) (bO : Binds K fdO ["_law_fields_here"] [])
    (GQ : FnOk P w K mg base CX0 1 fQ fdQ ["_law_fields_here"] spPl) (gQ : mg "_law_plain" = some (.ref fQ)) (kQ : PySem.W.keepIn K (.ref fQ) = true) (bQ : Binds K fdQ ["_law_fields_here"] [])
    (mF : Meth K C "is_as_fine" fF) (GF : FnOk P w K mg base CX0 2 fF fdF ["self", "other"] (spFine C)) (bF : Binds K fdF ["self", "other"] [])
    (GP : FnOk P w K mg base CX0 3 fP fdP ["one", "other"] (spPart C)) (gP : mg "order_parting" = some (.ref fP)) (kP : PySem.W.keepIn K (.ref fP) = true) (bP : Binds K fdP ["one", "other"] [])
    (GI : FnOk P w K mg base CX0 4 fI fdI ["one", "other", "found"] (spIsPart K C)) (gI : mg "is_order_parting" = some (.ref fI)) (kI : PySem.W.keepIn K (.ref fI) = true) (bI : Binds K fdI ["one", "other", "found"] [])
    (GL : FnOk P w K mg base CX0 3 fL fdL ["_law_one", "_law_other_here", "_law_found"] (spLParts K)) (gL : mg "_law_parts" = some (.ref fL)) (kL : PySem.W.keepIn K (.ref fL) = true) (bL : Binds K fdL ["_law_one", "_law_other_here", "_law_found"] [])
    (P1 : PropOf K C "fields" p1 f1) (G1 : FnOk P w K mg base CX0 1 f1 fd1 ["self"] (spByF C)) (b1 : Binds K fd1 ["self"] []) (mp : mg "repr" = none) (ml : mg "len" = none) :
    FnG P w K mg base CX0 6 f fd ["_law_box_here", "_law_one", "_law_other_here", "_law_things_here"] (spRight K) := by
  refine FnG.of_body F scRight (fun vs H Q E h => ?_) (fun cdv A outer s H vs Q E hg hr h => ?_)
  · obtain ⟨bv, t, u, th, fs, gs, xs, rfl, _⟩ := h
    rfl
  · obtain ⟨bv, t, u, th, fs, gs, xs, rfl, ht, f1_, f3, okf, hu, g1, g3, okg, hth, hxs, l7, q⟩ := h
    have hr1 := hr.mono (show 1 ≤ 5 by decide)
    have hr2 := hr.mono (show 2 ≤ 5 by decide)
    have hr3 := hr.mono (show 3 ≤ 5 by decide)
    obtain ⟨tz, pz, qz⟩ := right_tail (P := P) (w := w) (K := K) (mg := mg) (base := base) (cdv := cdv) (A := A) (outer := outer) (s := s) (H := H) (E := E) (f := f) c GI gI kI bI GL gL kL bL P1 G1 b1 mp hg hr
    refine ⟨_, pss_cons (ps_par (i := 4) (j := 5) (by rfl) scRight.nd rfl rfl (by decide) rfl rfl (pa_cons (pe_lst (pa_cons (pe_call GO hr rfl gO kO bO .nil pass0 (pa_cons (pv 1) pa_nil)) (pa_cons (pe_call GO hr rfl gO kO bO .nil pass0 (pa_cons (pv 2) pa_nil)) pa_nil))) (pa_cons (pe_call GQ hr1 rfl gQ kQ bQ .nil pass0 (pa_cons (pv 2) pa_nil)) pa_nil)) (by rfl))
      (pss_cons (ps_set (i := 6) scRight.nd rfl (.inl rfl) (pe_cmpR (op_eqD hr.units) (pe_slice sl_tupA (pe_call GQ hr1 rfl gQ kQ bQ .nil pass0 (pa_cons (pv 1) pa_nil)) po_none (po_some (pe_callB call_len_seq (by rfl) ml PySem.boot_len (pa_cons (pv 5) pa_nil)))) (pv 5) (nomark _)))
      (pss_cons (ps_if (pt_cmpR op_ne (pe_callB (call_reprA hg hr.units) (by rfl) mp (by decide +kernel) (pa_cons (pe_lst (pa_cons (pe_meth (pe_ix ix_list (pv 4) pe_int (fun _ _ => rfl)) c.cl mF GF hr2 bF .nil pass0 (pa_cons (pe_ix ix_list (pv 4) pe_int (fun _ _ => rfl)) pa_nil))
            (pa_cons (pe_meth (pe_ix ix_list (pv 4) pe_int (fun _ _ => rfl)) c.cl mF GF hr2 bF .nil pass0 (pa_cons (pe_ix ix_list (pv 4) pe_int (fun _ _ => rfl)) pa_nil)) pa_nil))) pa_nil))
          (pe_callB (call_reprA hg hr.units) (by rfl) mp (by decide +kernel) (pa_cons (pe_lst (pa_cons (pv 6) (pa_cons pe_bl pa_nil))) pa_nil)) (nomark _)) (pss_one (ps_ret pe_bl)) pss_nil)
      (pss_cons (ps_set (i := 7) scRight.nd rfl (.inl rfl) (pe_call GP hr3 rfl gP kP bP .nil pass0 (pa_cons (pe_ix ix_list (pv 4) pe_int (fun _ _ => rfl)) (pa_cons (pe_ix ix_list (pv 4) pe_int (fun _ _ => rfl)) pa_nil)))) pz))), ?_⟩
    refine ⟨_, rfl, t, fs, rfl, ht, f1_, f3, okf, fun o1 a1 H1 n1 m1 b1_ s1 => ?_⟩
    refine ⟨_, rfl, u, gs, rfl, s1 _ _ hu, g1, g3, okg, fun o2 a2 H2 n2 m2 b2_ s2 => ?_⟩
    refine ⟨by show 2 ≤ sizeLine; exact small_size (by decide), fun o ho => ?_⟩
    have so := Same.new (o := .lst [V.ref o1, V.ref o2]) ho
    have s3 := (s1.trans s2).trans so
    have oa : OrdOk C (upd H2 o (.lst [V.ref o1, V.ref o2])) o1 a1 fs := ⟨(b1_.same s2).same so, f1_, f3, okf⟩
    have ob : OrdOk C (upd H2 o (.lst [V.ref o1, V.ref o2])) o2 a2 gs := ⟨b2_.same so, g1, g3, okg⟩
    have eo : (upd H2 o (.lst [V.ref o1, V.ref o2])) o = some (.lst [V.ref o1, V.ref o2]) := upd_same
    generalize upd H2 o (.lst [V.ref o1, V.ref o2]) = H3 at s3 oa ob eo ⊢
    have okA := plain_ok okf
    have okB := plain_ok okg
    refine ⟨_, rfl, u, gs, rfl, s3 _ _ hu, g3, okg, fun pg H4 s4 npg epg => ?_⟩
    refine ⟨_, _, rfl, ?_⟩
    refine ⟨_, rfl, t, fs, rfl, s4 _ _ (s3 _ _ ht), f3, okf, fun pf H5 s5 npf epf => ?_⟩
    have epg5 := s5 _ _ epg
    refine ⟨_, rfl, pg, _, rfl, .inr (.of epg5), _, rfl, ?_⟩
    rw [List.length_map]
    refine slA_take epf fun p6 H6 s6 e6 => ?_
    have epg6 := s6 _ _ epg5
    rw [txs_tx] at e6 epg6
    refine ⟨_, rfl, .tuple ((tx ((plain fs).take (plain gs).length)).map PyData.str), .tuple ((tx (plain gs)).map PyData.str), .tup (.of e6) (dp_strs _), .tup (.of epg6) (dp_strs _), sh_tx fun f hf => okA f (List.mem_of_mem_take hf), sh_tx okB, ?_⟩
    rw [eqv_tstr]
    have hdue : decide (tx ((plain fs).take (plain gs).length) = tx (plain gs)) = fineB (plain fs) (plain gs) := rfl
    rw [hdue]
    have s36 := (s4.trans s5).trans s6
    have o6 := s36 _ _ eo
    have oa6 := oa.same s36
    have ob6 := ob.same s36
    obtain ⟨dx1, i1, _⟩ := id oa6.at_
    refine ⟨_, rfl, o, _, ((0 : Nat) : Int), .ref o1, rfl, rfl, .of o6, atI_nat (j := 0) rfl, o1, dx1, _, rfl, i1, rfl, _, rfl, o, _, ((1 : Nat) : Int), .ref o2, rfl, rfl, .of o6, atI_nat (j := 1) rfl, o1, a1, o2, a2, fs, gs, rfl, oa6, ob6, fun H7 s7 => ?_⟩
    have o7 := s7 _ _ o6
    have oa7 := oa6.same s7
    obtain ⟨dx2, i2, _⟩ := id oa7.at_
    refine ⟨_, rfl, o, _, ((0 : Nat) : Int), .ref o1, rfl, rfl, .of o7, atI_nat (j := 0) rfl, o1, dx2, _, rfl, i2, rfl, _, rfl, o, _, ((0 : Nat) : Int), .ref o1, rfl, rfl, .of o7, atI_nat (j := 0) rfl, o1, a1, o1, a1, fs, fs, rfl, oa7, oa7, fun H8 s8 => ?_⟩
    rw [fine_self]
    refine ⟨by show 2 ≤ sizeLine; exact small_size (by decide), fun m hm => ?_⟩
    have sm := Same.new (o := .lst [V.bl (fineB (plain fs) (plain gs)), V.bl true]) hm
    have em : (upd H8 m (.lst [V.bl (fineB (plain fs) (plain gs)), V.bl true])) m = some (.lst [V.bl (fineB (plain fs) (plain gs)), V.bl true]) := upd_same
    refine ⟨.ref m, .list [.bool (fineB (plain fs) (plain gs)), .bool true], rfl, .lst em (.cons (.bl _) (.cons (.bl _) .nil)), shw_bools2 _ _, ?_⟩
    generalize upd H8 m (.lst [V.bl (fineB (plain fs) (plain gs)), V.bl true]) = H9 at sm em ⊢
    refine ⟨_, rfl, by show 2 ≤ sizeLine; exact small_size (by decide), fun m2 hm2 => ?_⟩
    have sm2 := Same.new (o := .lst [V.bl (fineB (plain fs) (plain gs)), V.bl true]) hm2
    refine ⟨.ref m2, .list [.bool (fineB (plain fs) (plain gs)), .bool true], rfl, .lst upd_same (.cons (.bl _) (.cons (.bl _) .nil)), shw_bools2 _ _, rfl, _, rfl, ne_same rfl ?_⟩
    generalize upd H9 m2 (.lst [V.bl (fineB (plain fs) (plain gs)), V.bl true]) = HA at sm2 ⊢
    have s6A := ((s7.trans s8).trans sm).trans sm2
    have sA := s3.trans (s36.trans s6A)
    have oA := s6A _ _ o6
    have oaA := oa6.same s6A
    have obA := ob6.same s6A
    refine ⟨_, rfl, o, _, ((0 : Nat) : Int), .ref o1, rfl, rfl, .of oA, atI_nat (j := 0) rfl, _, rfl, o, _, ((1 : Nat) : Int), .ref o2, rfl, rfl, .of oA, atI_nat (j := 1) rfl, o1, a1, o2, a2, fs, gs, rfl, oaA, obA, fun hf HB sB => ?_, fun i pa T d e HB sB nde tw => ?_⟩
    · refine qz _ bv .non t u th o o1 o2 a1 a2 fs gs xs _ _ _ _ _ _ HB (sB _ _ (sA _ _ ht)) (sB _ _ (sA _ _ hu)) (sB _ _ (sA _ _ hth)) (fun x hx => (hxs x hx).same (sA.trans sB)) l7 (sB _ _ oA) (oaA.same sB) (obA.same sB) rfl ThingOk.none (.inl ⟨rfl, hf⟩) fun H' s' => q H' ((sA.trans sB).trans s')
    · obtain ⟨th_, pt_⟩ := found_parts (K := K) okf okg pa tw
      have nf : fineB (plain fs) (plain gs) = false := by
        cases hf : fineB (plain fs) (plain gs) with
        | false => rfl
        | true =>
          rw [fine_parts okf okg hf] at pt_
          cases pt_
      refine qz _ bv (.ref T) t u th o o1 o2 a1 a2 fs gs xs _ _ _ _ _ _ HB (sB _ _ (sA _ _ ht)) (sB _ _ (sA _ _ hu)) (sB _ _ (sA _ _ hth)) (fun x hx => (hxs x hx).same (sA.trans sB)) l7 (sB _ _ oA) (oaA.same sB) (obA.same sB) rfl th_ (.inr ⟨(fun z => nomatch z), nf, pt_⟩) fun H' s' => q H' ((sA.trans sB).trans s')
end
end G
set_option Elab.async false
set_option linter.all false
set_option maxRecDepth 100000
set_option maxHeartbeats 8000000
/-! LL: the law. -/
namespace G
open PySem PySem.Spec PyProof.Rows L2 NdefX StX
abbrev sLaw : Stmt := topS 51
abbrev nLaw : List Str := ["_law_script", "_law_k", "_law_box_here", "_law_names_here", "_law_fields_here", "_law_other_here", "_law_things_here"]
theorem scLaw : FnScope nLaw ["_law_script"] (defScope sLaw) := ⟨rfl, rfl, rfl, by decide +kernel, rfl, by decide +kernel, by decide +kernel⟩
def spLaw (K : PySem.W.Frag) : Sp := fun vs H Q _ => ∃ (a : Addr) (ns : List Int), vs = [.ref a] ∧ SqL K H a (ns.map V.int) ∧ ns.length ≤ 63 ∧ ∀ H', Q (.bl true) H'
theorem sqL_samek {K : PySem.W.Frag} {H H' : Hp} {a : Addr} {xs : List V} (e : Same H H') (h : SqL K H a xs) : SqL K H' a xs := by
  rcases h with (h | ⟨o, h⟩) | h
  · exact .inl (.inl (e _ _ h))
  · exact .inl (.inr ⟨o, e _ _ h⟩)
  · exact .inr h
section
variable {P : Program} {w : World} {K : PySem.W.Frag} {mg : Str → Option Value} {base : Heap}
theorem ok_law {f fc fb fT fn fF fO fG fR : Addr} {fd fdc fdb fdT fdn fdF fdO fdG fdR : FuncData} (F : Fun K "law" "law" sLaw f fd)
    (Fc : Fun K "_law_cell" "_law_cell" sCell fc fdc) (bc : Binds K fdc ["_law_script", "_law_k"] []) (gc : mg "_law_cell" = some (.ref fc))
    (Fb : Fun K "_law_box" "_law_box" sBox fb fdb) (bb : Binds K fdb ["_law_cell_here"] []) (gb : mg "_law_box" = some (.ref fb))
    (Tk : Fun K "_law_take" "_law_take" sTake fT fdT) (bT : Binds K fdT ["_law_box_here", "_law_many"] []) (gT : mg "_law_take" = some (.ref fT))
    (kn : PySem.W.keepIn K (.ref fn) = true) (bn : Binds K fdn ["_law_box_here", "_law_many"] []) (gn : mg "_law_names" = some (.ref fn)) (Gn : FnOk P w K mg base CX0 3 fn fdn ["_law_box_here", "_law_many"] spNames)
    (GF : FnOk P w K mg base CX0 2 fF fdF ["_law_box_here", "_law_names_here", "_law_most"] spFields) (gF : mg "_law_fields" = some (.ref fF)) (kF : PySem.W.keepIn K (.ref fF) = true) (bF : Binds K fdF ["_law_box_here", "_law_names_here", "_law_most"] [])
    (GO : FnOk P w K mg base CX0 3 fO fdO ["_law_box_here", "_law_fields_here", "_law_names_here"] spOther) (gO : mg "_law_other" = some (.ref fO)) (kO : PySem.W.keepIn K (.ref fO) = true) (bO : Binds K fdO ["_law_box_here", "_law_fields_here", "_law_names_here"] [])
    (GG : FnOk P w K mg base CX0 2 fG fdG ["_law_box_here", "_law_names_here"] (spThings K)) (gG : mg "_law_things" = some (.ref fG)) (kG : PySem.W.keepIn K (.ref fG) = true) (bG : Binds K fdG ["_law_box_here", "_law_names_here"] [])
    (GR : FnG P w K mg base CX0 6 fR fdR ["_law_box_here", "_law_one", "_law_other_here", "_law_things_here"] (spRight K)) (gR : mg "_law_right" = some (.ref fR)) (kR : PySem.W.keepIn K (.ref fR) = true) (bR : Binds K fdR ["_law_box_here", "_law_one", "_law_other_here", "_law_things_here"] [])
    (mr : mg "range" = none) (mmx : mg "max" = none) (mmn : mg "min" = none) (ml : mg "len" = none) : FnG P w K mg base CX0 7 f fd ["_law_script"] (spLaw K) := by
  have Gc : FnOk P w K mg base CX0 1 fc fdc ["_law_script", "_law_k"] (spCell' K) := ok_cell Fc ml
  have Gb : FnOk P w K mg base CX0 1 fb fdb ["_law_cell_here"] spBox := ok_box Fb mmx
  have GT : FnOk P w K mg base CX0 1 fT fdT ["_law_box_here", "_law_many"] spTake := ok_take Tk
  refine FnG.of_body F scLaw (fun vs H Q E h => ?_) (fun cdv A outer s H vs Q E hg hr h => ?_)
  · obtain ⟨a, ns, rfl, _⟩ := h
    rfl
  · obtain ⟨a, ns, rfl, hS, hl, q⟩ := h
    have hr1 := hr.mono (show 1 ≤ 6 by decide)
    have hr2 := hr.mono (show 2 ≤ 6 by decide)
    have hr3 := hr.mono (show 3 ≤ 6 by decide)
    refine ⟨_, pss_cons (ps_for PassesOwn.never rfl (pi_range1 rfl mr (pa_cons (pe_callB (call_max2 rfl) (by rfl) mmx (by decide +kernel) (pa_cons pe_int (pa_cons (pe_callB (call_min2 rfl) (by rfl) mmn (by decide +kernel)
          (pa_cons (pe_callB call_len_seq (by rfl) ml PySem.boot_len (pa_cons (pv 0) pa_nil)) (pa_cons pe_int pa_nil))) pa_nil))) pa_nil)) (pg_name (i := 1) scLaw.nd rfl (.inl rfl))
        (pss_cons (ps_set (i := 2) scLaw.nd rfl (.inl rfl) (pe_call Gb hr1 rfl gb Fb.kp bb .nil pass0 (pa_cons (pe_call Gc hr1 rfl gc Fc.kp bc .nil pass0 (pa_cons (pv 0) (pa_cons (pv 1) pa_nil))) pa_nil)))
        (pss_cons (ps_set (i := 3) scLaw.nd rfl (.inl rfl) (pe_call Gn hr3 rfl gn kn bn .nil pass0 (pa_cons (pv 2) (pa_cons (pe_op op_add pe_int (pe_call GT hr1 rfl gT Tk.kp bT .nil pass0 (pa_cons (pv 2) (pa_cons pe_int pa_nil)))) pa_nil))))
        (pss_cons (ps_set (i := 4) scLaw.nd rfl (.inl rfl) (pe_call GF hr2 rfl gF kF bF .nil pass0 (pa_cons (pv 2) (pa_cons (pv 3) (pa_cons pe_int pa_nil)))))
        (pss_cons (ps_set (i := 5) scLaw.nd rfl (.inl rfl) (pe_call GO hr3 rfl gO kO bO .nil pass0 (pa_cons (pv 2) (pa_cons (pv 4) (pa_cons (pv 3) pa_nil)))))
        (pss_cons (ps_set (i := 6) scLaw.nd rfl (.inl rfl) (pe_call GG hr2 rfl gG kG bG .nil pass0 (pa_cons (pv 2) (pa_cons (pv 3) pa_nil))))
        (pss_one (ps_if (PW.pt (pw_or (pt_not (pt_val (pe_callG GR hg hr rfl gR kR bR .nil pass0 (pa_cons (pv 2) (pa_cons (pv 4) (pa_cons (pv 5) (pa_cons (pv 6) pa_nil)))))))
          (pw_or1 (pt_not (pt_val (pe_callG GR hg hr rfl gR kR bR .nil pass0 (pa_cons (pv 2) (pa_cons (pv 5) (pa_cons (pv 4) (pa_cons (pv 6) pa_nil)))))))))) (pss_one (ps_ret pe_bl)) pss_nil))))))))
      (pss_one (ps_ret pe_bl)), ?_⟩
    refine ⟨_, rfl, a, _, rfl, .inl hS, _, _, rfl, _, _, rfl, ?_⟩
    generalize hm : (if (if (6 : Int) < ((ns.map V.int).length : Int) then (6 : Int) else ((ns.map V.int).length : Int)) > 2 then (if (6 : Int) < ((ns.map V.int).length : Int) then (6 : Int) else ((ns.map V.int).length : Int)) else 2) = m
    have hm8 : 0 ≤ m ∧ m ≤ 6 := by
      rw [← hm]
      split <;> split at * <;> omega
    refine ⟨m, rfl, by omega, by omega, ?_⟩
    refine for_range (lo := 0) (n := m.toNat) (fun i σ H' => Same H H' ∧ ∃ x1 x2 x3 x4 x5 x6 : Option V, σ = [some (.ref a), x1, x2, x3, x4, x5, x6]) ?_ ?_ ?_
    · exact ⟨.refl H, _, _, _, _, _, _, rfl⟩
    · rintro i σ H1 hi ⟨s1, x1, x2, x3, x4, x5, x6, rfl⟩
      refine ⟨_, rfl, _, rfl, a, ns, 0 + i, rfl, sqL_samek s1 hS, by omega, by omega, fun cell => ⟨cell, rfl, fun b H2 nb s2 B2 => ?_⟩⟩
      refine ⟨_, rfl, _, rfl, b, 6, 0, rfl, B2, by decide, by decide, by decide, fun r H3 r0 r1 B3 k3 => ?_⟩
      obtain ⟨j, rfl, hj⟩ := draw_at (n := 6) r0 r1 rfl
      refine ⟨_, _, rfl, rfl, b, 1 + j, _, (by show [V.ref b, V.int (1 + (j : Int))] = _; rw [show (1 + (j : Int) : Int) = ((1 + j : Nat) : Int) from by omega]), B3, by omega, by omega, fun p H4 zs lz zn np e4 B4 k4 => ?_⟩
      have npb := box_ne B3 np
      refine ⟨_, rfl, _, rfl, b, p, 3, _, zs, rfl, by decide, by decide, B4, by omega, e4, by omega, by omega, zn, npb, fun t H5 fs nt e5 f1 f3 okf B5 k5 => ?_⟩
      have e45 := k5 _ _ npb e4
      refine ⟨_, rfl, _, rfl, _, rfl, b, t, p, _, fs, zs, rfl, B5, by omega, e5, f1, f3, okf, e45, by omega, by omega, zn, npb, fun u H6 gs e6 g1 g3 okg B6 k6 => ?_⟩
      have e46 := k6 _ _ npb e45
      have e56 := k6 _ _ (tup_nb B5 e5) e5
      refine ⟨_, rfl, _, rfl, b, p, _, zs, rfl, B6, by omega, e46, by omega, by omega, zn, npb, fun th H7 xs nth e7 hxs l7 B7 k7 => ?_⟩
      have e57 := k7 _ _ (tup_nb B6 e56) e56
      have e67 := k7 _ _ (tup_nb B6 e6) e6
      refine ⟨_, rfl, _, rfl, _, rfl, _, rfl, .ref b, t, u, th, fs, gs, xs, rfl, e57, f1, f3, okf, e67, g1, g3, okg, e7, hxs, l7, fun H8 s8 => ⟨_, rfl, iteF ?_⟩⟩
      refine ⟨_, rfl, _, rfl, _, rfl, _, rfl, .ref b, u, t, th, gs, fs, xs, rfl, s8 _ _ e67, g1, g3, okg, s8 _ _ e57, f1, f3, okf, s8 _ _ e7, (fun x hx => (hxs x hx).same s8), l7, fun H9 s9 => ⟨_, rfl, iteF ?_⟩⟩
      refine ⟨s1.trans fun c o e => ?_, _, _, _, _, _, _, rfl⟩
      have n1 : c ≠ b := fun z => by
        rw [z, nb] at e
        cases e
      exact s9 _ _ (s8 _ _ (k7 c o n1 (k6 c o n1 (k5 c o n1 (k4 c o n1 (k3 c o n1 (s2 _ _ e)))))))
    · rintro σ H1 ⟨s1, x1, x2, x3, x4, x5, x6, rfl⟩
      exact q H1
end
end G
set_option Elab.async false
set_option linter.all false
set_option maxRecDepth 100000
set_option maxHeartbeats 2000000
/-! HK: the head's facts by a Hook of our own: methods that capture __class__, properties, instances that are called; the law's end over it. -/
namespace G
open PySem PySem.Spec PyProof.Rows L2 NdefX StX He

/-! ### defs by where they stand -/
/-- a def of the text: where it stands, its names, its statement, the names that it captures -/
structure Dp where
  at_ : PySem.W.Frag → Addr
  name : Str
  qual : Str
  st : Stmt
  clo : List Str
abbrev FnY : Type := Option (Str × Str × Arguments × FuncBody × Scope × Addr × List Str × Addr)
def fnY (K : PySem.W.Frag) (a : Addr) : FnY := match K.lookup a with
  | some ⟨_, _, .func fd, _⟩ => some (fd.name, fd.qualname, fd.params, fd.body, fd.scope, fd.globals, fd.closure.map (·.1), fd.builtins)
  | _ => none
def Dp.val (d : Dp) : FnY := some (d.name, d.qual, defArgs d.st, .stmts (defBody d.st), defScope d.st, mainGlobals, d.clo, builtinsNs)
def noneB : Value → Bool
  | .none => true
  | _ => false
/-- the def's code, no positional defaults -/
def codB (K : PySem.W.Frag) (a : Addr) (q : Str) : Bool := match K.lookup a with
  | some ⟨_, _, .func fd, _⟩ => PySem.W.codeIn K fd.code q && noneB fd.defaults
  | _ => false
def plainB (K : PySem.W.Frag) (a : Addr) (q : Str) : Bool := PySem.W.keepIn K (.ref a) && codB K a q
theorem fun_of {K : PySem.W.Frag} {a : Addr} {d : Dp} (e : fnY K a = d.val) (hc : d.clo = []) (c : plainB K a d.qual = true) : ∃ fd, Fun K d.name d.qual d.st a fd := by
  obtain ⟨kp, c2⟩ := ba c
  unfold fnY Dp.val at e
  rw [hc] at e
  unfold codB at c2
  cases q : K.lookup a with
  | none =>
    rw [q] at c2
    cases c2
  | some o =>
    obtain ⟨oc, od, dt, osl⟩ := o
    rw [q] at c2 e
    cases dt with
    | func fd =>
      obtain ⟨n1, n2, n3, n4, n5, n6, n7, n8, n9, n10, n11, n12, n13, n14, n15⟩ := fd
      have e2 : (some (n1, n2, n3, n4, n5, n6, n7.map (·.1), n15) : FnY) = some (d.name, d.qual, defArgs d.st, .stmts (defBody d.st), defScope d.st, mainGlobals, [], builtinsNs) := e
      simp only [Option.some.injEq, Prod.mk.injEq] at e2
      obtain ⟨h1, h2, h3, h4, h5, h6, h7, h8⟩ := e2
      have h7' : n7 = [] := List.map_eq_nil_iff.mp h7
      subst h1 h2 h3 h4 h5 h6 h7' h8
      have c3 : (PySem.W.codeIn K n13 d.qual && noneB n8) = true := c2
      obtain ⟨k1, k2⟩ := ba c3
      cases n8 with
      | none => exact ⟨_, ⟨oc, od, n9, n10, n11, n12, n13, n14, osl, rfl, q, k1⟩, kp⟩
      | _ => cases k2
    | _ => cases c2
/-- a def with one positional default, a thing in the heap -/
def dflD (K : PySem.W.Frag) (v : Value) : Bool := match v with
  | .ref T => (match K.lookup T with
    | some ⟨_, _, .seq its _, _⟩ => (match its.toList with
      | [.ref _] => true
      | _ => false)
    | _ => false)
  | _ => false
theorem dflD_ok {K : PySem.W.Frag} {v : Value} (h : dflD K v = true) : ∃ E : Addr, DflV K v [.ref E] := by
  unfold dflD at h
  split at h
  · rename_i T
    split at h
    · rename_i x1 x2 its n x3 ho
      split at h
      · rename_i E hE
        refine ⟨E, .inr ⟨(fun z => nomatch z), T, _, [.ref E], n, rfl, ho, ?_, .cons rfl .nil⟩⟩
        show Data.seq its n = _
        rw [← hE]
      · cases h
    · cases h
  · cases h
def codD (K : PySem.W.Frag) (a : Addr) (q : Str) : Bool := match K.lookup a with
  | some ⟨_, _, .func fd, _⟩ => PySem.W.codeIn K fd.code q && dflD K fd.defaults
  | _ => false
theorem fund_of {K : PySem.W.Frag} {a : Addr} {d : Dp} (e : fnY K a = d.val) (hc : d.clo = []) (c : (PySem.W.keepIn K (.ref a) && codD K a d.qual) = true) :
    ∃ (E : Addr) (fd : FuncData), FunD K d.name d.qual (defArgs d.st) (defBody d.st) (defScope d.st) [.ref E] [] a fd := by
  obtain ⟨kp, c2⟩ := ba c
  unfold fnY Dp.val at e
  rw [hc] at e
  unfold codD at c2
  cases q : K.lookup a with
  | none =>
    rw [q] at c2
    cases c2
  | some o =>
    obtain ⟨oc, od, dt, osl⟩ := o
    rw [q] at c2 e
    cases dt with
    | func fd =>
      obtain ⟨n1, n2, n3, n4, n5, n6, n7, n8, n9, n10, n11, n12, n13, n14, n15⟩ := fd
      have e2 : (some (n1, n2, n3, n4, n5, n6, n7.map (·.1), n15) : FnY) = some (d.name, d.qual, defArgs d.st, .stmts (defBody d.st), defScope d.st, mainGlobals, [], builtinsNs) := e
      simp only [Option.some.injEq, Prod.mk.injEq] at e2
      obtain ⟨h1, h2, h3, h4, h5, h6, h7, h8⟩ := e2
      have h7' : n7 = [] := List.map_eq_nil_iff.mp h7
      subst h1 h2 h3 h4 h5 h6 h7' h8
      have c3 : (PySem.W.codeIn K n13 d.qual && dflD K n8) = true := c2
      obtain ⟨k1, k2⟩ := ba c3
      obtain ⟨E, hE⟩ := dflD_ok k2
      exact ⟨E, _, ⟨oc, od, n8, n9, n10, n11, n12, n13, n14, osl, rfl, q, k1, hE, .inl rfl⟩, kp⟩
    | _ => cases c2
/-- a def with one keyword-only default, None -/
def kwN (K : PySem.W.Frag) (v : Value) (x : Str) : Bool := match v with
  | .ref D => eqO (PySem.W.nsIn K D x) (some (some .none))
  | _ => false
def codK (K : PySem.W.Frag) (a : Addr) (q x : Str) : Bool := match K.lookup a with
  | some ⟨_, _, .func fd, _⟩ => PySem.W.codeIn K fd.code q && (noneB fd.defaults && kwN K fd.kwdefaults x)
  | _ => false
theorem funk_of {K : PySem.W.Frag} {a : Addr} {d : Dp} {x : Str} (e : fnY K a = d.val) (hc : d.clo = []) (c : (PySem.W.keepIn K (.ref a) && codK K a d.qual x) = true) :
    ∃ fd : FuncData, FunD K d.name d.qual (defArgs d.st) (defBody d.st) (defScope d.st) [] [(x, .non)] a fd := by
  obtain ⟨kp, c2⟩ := ba c
  unfold fnY Dp.val at e
  rw [hc] at e
  unfold codK at c2
  cases q : K.lookup a with
  | none =>
    rw [q] at c2
    cases c2
  | some o =>
    obtain ⟨oc, od, dt, osl⟩ := o
    rw [q] at c2 e
    cases dt with
    | func fd =>
      obtain ⟨n1, n2, n3, n4, n5, n6, n7, n8, n9, n10, n11, n12, n13, n14, n15⟩ := fd
      have e2 : (some (n1, n2, n3, n4, n5, n6, n7.map (·.1), n15) : FnY) = some (d.name, d.qual, defArgs d.st, .stmts (defBody d.st), defScope d.st, mainGlobals, [], builtinsNs) := e
      simp only [Option.some.injEq, Prod.mk.injEq] at e2
      obtain ⟨h1, h2, h3, h4, h5, h6, h7, h8⟩ := e2
      have h7' : n7 = [] := List.map_eq_nil_iff.mp h7
      subst h1 h2 h3 h4 h5 h6 h7' h8
      have c3 : (PySem.W.codeIn K n13 d.qual && (noneB n8 && kwN K n9 x)) = true := c2
      obtain ⟨k1, k2⟩ := ba c3
      obtain ⟨k2, k3⟩ := ba k2
      cases n8 with
      | none =>
        cases n9 with
        | ref D =>
          refine ⟨_, ⟨oc, od, .none, .ref D, n10, n11, n12, n13, n14, osl, rfl, q, k1, .inl ⟨rfl, rfl⟩, .inr ⟨D, rfl, fun p hp => ?_⟩⟩, kp⟩
          rw [List.mem_singleton.mp hp]
          exact ⟨.none, eqO_ok k3, rfl⟩
        | _ => cases k3
      | _ => cases k2
    | _ => cases c2
/-- a method that captures __class__ -/
def celC (K : PySem.W.Frag) (cc C : Addr) : Bool := match K.lookup cc with
  | some ⟨_, _, .cell (some (.ref D)), _⟩ => decide (D = C)
  | _ => false
def cloB (K : PySem.W.Frag) (a C : Addr) : Bool := match K.lookup a with
  | some ⟨_, _, .func fd, _⟩ => (match fd.closure with
    | [(_, cc)] => celC K cc C
    | _ => false)
  | _ => false
/-- .. its code object's file -/
def filC (K : PySem.W.Frag) (c : Addr) (file : Str) : Bool := match K.lookup c with
  | some ⟨_, _, .fields vs, _⟩ => (match vs.toList[2]? with
    | some (Value.str fl _) => file == fl
    | _ => false)
  | _ => false
def filV (K : PySem.W.Frag) (v : Value) (file : Str) : Bool := match v with
  | .ref c => filC K c file
  | _ => false
def filB (K : PySem.W.Frag) (a : Addr) (file : Str) : Bool := match K.lookup a with
  | some ⟨_, _, .func fd, _⟩ => filV K fd.code file
  | _ => false
def kwV (K : PySem.W.Frag) (a : Addr) : Value := match K.lookup a with
  | some ⟨_, _, .func fd, _⟩ => fd.kwdefaults
  | _ => .none
/-- what FunX and SupOf want of the def at a, of the class at C -/
structure ClsDef (P : Program) (K : PySem.W.Frag) (d : Dp) (a C : Addr) : Prop where
  ex : ∃ (oc : Value) (od : Option Addr) (doc pm ct : Value) (an : Option Addr) (osl : Array (Option Value)) (cda cc : Addr) (oc3 : Value) (od3 : Option Addr) (sl3 : Array (Option Value)) (oc2 : Value) (od2 : Option Addr) (vs : Array Value) (sl2 : Array (Option Value)) (fl : Str) (tf : Tok),
    K.lookup a = some ⟨oc, od, .func (PySem.W.ksFn d.name d.qual (defArgs d.st) (defBody d.st) (defScope d.st) .none (kwV K a) doc pm an (.ref cda) ct cc), osl⟩ ∧ PySem.W.codeIn K (.ref cda) d.qual = true ∧
    K.lookup cc = some ⟨oc3, od3, .cell (some (.ref C)), sl3⟩ ∧ K.lookup cda = some ⟨oc2, od2, .fields vs, sl2⟩ ∧ vs.toList[2]? = some (Value.str fl tf) ∧ ((P.main.file : Str) == fl) = true
theorem clsdef_of {P : Program} {K : PySem.W.Frag} {a C : Addr} {d : Dp} (e : fnY K a = d.val) (hc : d.clo = [("__class__" : Str)]) (c : (codB K a d.qual && (cloB K a C && filB K a P.main.file)) = true) : ClsDef P K d a C := by
  obtain ⟨c1, c23⟩ := ba c
  obtain ⟨c2, c3⟩ := ba c23
  unfold fnY Dp.val at e
  rw [hc] at e
  unfold codB at c1
  unfold cloB at c2
  unfold filB at c3
  cases q : K.lookup a with
  | none =>
    rw [q] at c1
    cases c1
  | some o =>
    obtain ⟨oc, od, dt, osl⟩ := o
    rw [q] at c1 c2 c3 e
    cases dt with
    | func fd =>
      have ekw : kwV K a = fd.kwdefaults := by
        unfold kwV
        rw [q]
      obtain ⟨n1, n2, n3, n4, n5, n6, n7, n8, n9, n10, n11, n12, n13, n14, n15⟩ := fd
      have e2 : (some (n1, n2, n3, n4, n5, n6, n7.map (·.1), n15) : FnY) = some (d.name, d.qual, defArgs d.st, .stmts (defBody d.st), defScope d.st, mainGlobals, [("__class__" : Str)], builtinsNs) := e
      simp only [Option.some.injEq, Prod.mk.injEq] at e2
      obtain ⟨h1, h2, h3, h4, h5, h6, h7, h8⟩ := e2
      obtain ⟨cc, rfl⟩ : ∃ cc, n7 = [(("__class__" : Str), cc)] := by
        match n7, h7 with
        | [(y, cc)], h7 =>
          have : y = ("__class__" : Str) := by
            have h9 : [y] = [("__class__" : Str)] := h7
            exact List.head_eq_of_cons_eq h9
          exact ⟨cc, by rw [this]⟩
      subst h1 h2 h3 h4 h5 h6 h8
      have c4 : (PySem.W.codeIn K n13 d.qual && noneB n8) = true := c1
      obtain ⟨k1, k2⟩ := ba c4
      have c5 : celC K cc C = true := c2
      unfold celC at c5
      have c6 : filV K n13 P.main.file = true := c3
      obtain ⟨oc3, od3, sl3, hcell⟩ : ∃ oc3 od3 sl3, K.lookup cc = some ⟨oc3, od3, .cell (some (.ref C)), sl3⟩ := by
        split at c5
        · rename_i x1 x2 D x3 ho
          rw [of_decide_eq_true c5] at ho
          exact ⟨_, _, _, ho⟩
        · cases c5
      cases n13 with
      | ref cda =>
        have c7 : filC K cda P.main.file = true := c6
        unfold filC at c7
        obtain ⟨oc2, od2, vs, sl2, fl, tf, w1, w2, w3⟩ : ∃ oc2 od2 vs sl2 fl tf, K.lookup cda = some ⟨oc2, od2, .fields vs, sl2⟩ ∧ vs.toList[2]? = some (Value.str fl tf) ∧ ((P.main.file : Str) == fl) = true := by
          split at c7
          · rename_i x1 x2 vs x3 ho
            split at c7
            · rename_i fl tf hv
              exact ⟨_, _, vs, _, fl, tf, ho, hv, c7⟩
            · cases c7
          · cases c7
        cases n8 with
        | none =>
          refine ⟨oc, od, n10, n11, n14, n12, osl, cda, cc, oc3, od3, sl3, oc2, od2, vs, sl2, fl, tf, ?_, k1, hcell, w1, w2, w3⟩
          rw [ekw]
          exact q
        | _ => cases k2
      | _ => cases c6
    | _ => cases c1
/-- what super() rests on besides -/
def supB (K : PySem.W.Frag) (C f2 : Addr) : Bool := PySem.W.isClsIn K C && (decide (PySem.W.mroIn K C (.ref C) = some true) && (eqO (PySem.W.nsIn K cStatics "thirdparty.any") (some none) && (eqO (PySem.W.ks_superIn K C C "__init__") (some (some (.ref f2))) &&
  (decide (PySem.W.typeIn K (.ref f2) = some (.type "function")) && PySem.W.fnIn K f2))))
/-! ### properties, calls -/
def getr (K : PySem.W.Frag) (p : Addr) : Addr := match PySem.W.recIn K p "property" with
  | some (.ref g :: _) => g
  | _ => 0
def proB (K : PySem.W.Frag) (C : Addr) (f : Str) : Bool := eqO (PySem.W.findIn K (.ref C) f) (some (some (.ref (ma K C f)))) && (eqO (PySem.W.specialIn K (.ref (ma K C f)) "__get__") (some (some (.builtin "property.__get__"))) &&
  (decide (PySem.W.takesIn K (.ref (ma K C f)) = some true) && (match PySem.W.recIn K (ma K C f) "property" with
    | some (.ref _ :: _) => true
    | _ => false)))
theorem pro_ok {K : PySem.W.Frag} {C : Addr} {f : Str} (h : proB K C f = true) : PropOf K C f (ma K C f) (getr K (ma K C f)) := by
  obtain ⟨c1, c⟩ := ba h
  obtain ⟨c2, c⟩ := ba c
  obtain ⟨c3, c4⟩ := ba c
  refine ⟨eqO_ok c1, eqO_ok c2, of_decide_eq_true c3, ?_⟩
  unfold getr
  split at c4
  · rename_i g rest e
    rw [e]
    exact ⟨rest, rfl⟩
  · cases c4
def calB (K : PySem.W.Frag) (C : Addr) : Bool := eqO (PySem.W.findIn K (.ref C) "__call__") (some (some (.ref (ma K C "__call__")))) && (PySem.W.isFn K (.ref (ma K C "__call__")) && PySem.W.fnIn K (ma K C "__call__"))
theorem cal_ok {K : PySem.W.Frag} {C : Addr} (h : calB K C = true) : CallO K C (ma K C "__call__") := by
  obtain ⟨c1, c⟩ := ba h
  obtain ⟨c2, c3⟩ := ba c
  exact ⟨eqO_ok c1, c2, c3⟩
/-! ### the Hook -/
/-- what an object names, as far as the facts ask -/
def refsQ (o : Obj) : List Addr := match o.data with
  | .dict es _ => es.toList.flatMap fun e => refV e.val
  | .func fd => refV fd.code ++ (refV fd.defaults ++ (refV fd.kwdefaults ++ fd.closure.map (·.2)))
  | .cls cd => [cd.ns]
  | .fields vs => (match o.cls with
    | .type n => (match decide (n = "property") with
      | true => vs.toList.flatMap refV
      | false => [])
    | _ => [])
  | _ => []
def frL {α : Type} : List Addr → (List Addr → α) → α
  | [], k => k []
  | a :: r, k => HandSHeadRun.frNat a fun a => frL r fun r => k (a :: r)
theorem frL_eq {α : Type} : ∀ (l : List Addr) (k : List Addr → α), frL l k = k l
  | [], _ => rfl
  | a :: r, k => by
    show (HandSHeadRun.frNat a fun a => frL r fun r => k (a :: r)) = _
    rw [HandSHeadRun.frNat_eq, frL_eq r]
def lvl (g : Addr → Option Obj) (as : List Addr) : List Addr := as.flatMap fun a => match g a with
  | some o => refsQ o
  | none => []
def asQ {α : Type} (g : Addr → Option Obj) : Nat → List Addr → List Addr → (List Addr → α) → α
  | 0, fr, acc, k => k (acc ++ fr)
  | n + 1, fr, acc, k => frL (lvl g fr) fun f2 => asQ g n f2 (acc ++ fr) k
theorem asQ_ex {g : Addr → Option Obj} : ∀ (n : Nat) (fr acc : List Addr), ∃ as : List Addr, ∀ (α : Type) (k : List Addr → α), asQ g n fr acc k = k as
  | 0, fr, acc => ⟨acc ++ fr, fun _ _ => rfl⟩
  | n + 1, fr, acc => by
    obtain ⟨as, h⟩ := asQ_ex (g := g) n (lvl g fr) (acc ++ fr)
    refine ⟨as, fun α k => ?_⟩
    show (frL (lvl g fr) fun f2 => asQ g n f2 (acc ++ fr) k) = _
    rw [frL_eq]
    exact h α k
def frK {α : Type} (g : Addr → Option Obj) : List Addr → (PySem.W.Frag → α) → α
  | [], k => k []
  | a :: r, k => match g a with
    | some o => frK g r fun K => k ((a, o) :: K)
    | none => frK g r k
theorem frK_eq {α : Type} {g : Addr → Option Obj} : ∀ (as : List Addr) (k : PySem.W.Frag → α), frK g as k = k (frG g as)
  | [], _ => rfl
  | a :: r, k => by
    unfold frK frG
    rw [List.filterMap_cons]
    cases g a with
    | some o =>
      show (frK g r fun K => k ((a, o) :: K)) = _
      rw [frK_eq r]
      rfl
    | none =>
      show frK g r k = _
      rw [frK_eq r]
      rfl
abbrev AlP : Type := Bool × List FnY
abbrev Ck : Type := PySem.W.Frag → Bool
def obsP (cs : List Ck) (fn : List Dp) (K : PySem.W.Frag) : AlP := (cs.all fun c => c K, fn.map fun d => fnY K (d.at_ K))
def valP (fn : List Dp) : AlP := (true, fn.map Dp.val)
def SaysP (cs : List Ck) (fn : List Dp) (K : PySem.W.Frag) : Prop := obsP cs fn K = valP fn
def obsPG (n : Nat) (cs : List Ck) (fn : List Dp) (g : Addr → Option Obj) : AlP := asQ g n [mainGlobals, cStatics] [] fun as => frK g as fun K => obsP cs fn K
theorem obsPG_ex (n : Nat) (cs : List Ck) (fn : List Dp) (g : Addr → Option Obj) : ∃ as, obsPG n cs fn g = obsP cs fn (frG g as) := by
  obtain ⟨as, h⟩ := asQ_ex (g := g) n [mainGlobals, cStatics] []
  refine ⟨as, ?_⟩
  unfold obsPG
  rw [h, frK_eq]
def hookP (n : Nat) (cs : List Ck) (fn : List Dp) : PySem.W.Hook where
  α := AlP
  obs := fun s => obsPG n cs fn s.heap.get?
  val := fun _ => valP fn
  says := fun _ h => ∃ K : PySem.W.Frag, K.In h ∧ SaysP cs fn K
  of := fun _ s e => by
    obtain ⟨as, h⟩ := obsPG_ex n cs fn s.heap.get?
    rw [h] at e
    exact ⟨_, frG_in, e⟩
  keeps := fun _ _ _ ⟨K, hK, c⟩ k => ⟨K, PySem.W.Frag.In.keeps hK k, c⟩
theorem obsPG_eq {n : Nat} {cs : List Ck} {fn : List Dp} {g : Addr → Option Obj} {s : Shared} (h : ∀ a, g a = s.heap.get? a) : obsPG n cs fn g = (hookP n cs fn).obs s := by
  have e : g = s.heap.get? := funext h
  rw [e] <;> rfl
section
variable {cs : List Ck} {fn : List Dp} {K : PySem.W.Frag}
theorem SaysP.ck (c : SaysP cs fn K) (i : Nat) {f : Ck} (h : cs[i]? = some f := by rfl) : f K = true :=
  List.all_eq_true.mp (show (cs.all fun c => c K) = true from congrArg (fun z : AlP => z.1) c) f (List.mem_of_getElem? h)
theorem SaysP.at_ (c : SaysP cs fn K) (i : Nat) {d : Dp} (h : fn[i]? = some d := by rfl) : fnY K (d.at_ K) = d.val := by
  have e : fn.map (fun d => fnY K (d.at_ K)) = fn.map Dp.val := congrArg (fun z : AlP => z.2) c
  have e2 : (fn.map fun d => fnY K (d.at_ K))[i]? = (fn.map Dp.val)[i]? := by rw [e]
  rw [List.getElem?_map, List.getElem?_map, h] at e2
  exact Option.some.inj e2
end
/-! ### the law's end -/
theorem walk_goE {l : PySem.W.OpenLaw} {n k : Nat} {q : Program} {loose : List Str} {XP : (Str → Option Value) → Heap → Prop} {YP : World → Heap → Prop} {d : DefRec} {x : Str}
    (most : l.most = some n) (few : n ≤ sizeLine) (nodf : d.params.defaults = []) (hr : Room k callerA)
    (F : ∀ (w : World) (mg : Str → Option Value) (fa : Addr) (h : Heap), YP w h → h.Ns mainGlobals mg → mg d.name = some (.ref fa) →
      ∃ (K : PySem.W.Frag) (fd : FuncData) (sp : Sp), K.In h ∧ (∀ (s : Shared) (u : Value), BindsTo s fd ⟨[u], []⟩ [(x, u)]) ∧
        (∀ (H : Hp) (a : Addr) (ns : List Int), ns.length ≤ n → Only H → SqL K H a (ns.map V.int) → sp [.ref a] H (fun v _ => v = .bl true) fun _ _ _ => False) ∧
        ∀ base : Heap, K.In base → base.Ns mainGlobals mg → FnG l.prog w K mg base CX0 k fa fd [x] sp) :
    PySem.W.WalkO q loose XP YP l.row.toRowW d [] (fun f vs => PySem.call f vs) := by
  refine Att.attach_call most nodf
    fun w _ s₁ mg mb fa _ _ _ _ a vs ns top Y _ _ _ atF obj allInt len noG => ?_
  obtain ⟨K, fd, sp, inK, binds, hsp, keeps⟩ := F w mg fa _ Y top.T.g atF
  exact law_go inK top.T.g top.T.b top.T.builtins top.T.nolimit noG obj allInt (Nat.le_trans len few) hr keeps binds
    fun H hO hS => hsp H a ns len hO hS
end G
set_option Elab.async false
set_option linter.all false
set_option maxRecDepth 100000
set_option maxHeartbeats 8000000
/-! XA: what the top has written. -/
namespace G
open PySem PySem.Spec PyProof.Rows L2 NdefX StX
open He in
def bycB (K : PySem.W.Frag) (C : Addr) : Bool := eqO (PySem.W.findIn K (.ref C) "__class__") (some (some (.builtin "object.__class__"))) && (eqO (PySem.W.specialIn K (.builtin "object.__class__") "__get__") (some (some (.builtin "getset_descriptor.__get__"))) &&
  (decide (PySem.W.takesIn K (.builtin "object.__class__") = some true) && (decide (PySem.W.mroIn K C (.type "object") = some true) && decide (PySem.W.kitOne K (.ref C) (.ref C) = some true))))
open He in
theorem byc_ok {K : PySem.W.Frag} {C : Addr} (h : bycB K C = true) (cl : Cls K C) (n1 : NoAttr K C "signed_fields") : ByC K C := by
  obtain ⟨c1, h⟩ := ba h
  obtain ⟨c2, h⟩ := ba h
  obtain ⟨c3, h⟩ := ba h
  obtain ⟨c4, c5⟩ := ba h
  exact ⟨cl, n1, eqO_ok c1, eqO_ok c2, of_decide_eq_true c3, of_decide_eq_true c4, of_decide_eq_true c5⟩
abbrev PX : Program := PySem.W.OpenLaw.prog PySem.Challenge.rw_listviews_k19_whole_finer_orders_or_part
def cks0 : List Ck := [
  fun K => He.Fa.ok K (.free "isinstance"),
  fun K => He.Fa.ok K (.free "int"),
  fun K => He.Fa.ok K (.free "bool"),
  fun K => He.Fa.ok K (.free "str"),
  fun K => He.Fa.ok K (.free "dict"),
  fun K => He.Fa.ok K (.free "len"),
  fun K => He.Fa.ok K (.free "all"),
  fun K => He.Fa.ok K (.free "list"),
  fun K => He.Fa.ok K (.free "range"),
  fun K => He.Fa.ok K (.free "min"),
  fun K => He.Fa.ok K (.free "max"),
  fun K => He.Fa.ok K (.free "tuple"),
  fun K => He.Fa.ok K (.free "zip"),
  fun K => He.Fa.ok K (.free "enumerate"),
  fun K => He.Fa.ok K (.free "repr"),
  fun K => He.Fa.ok K (.str "LETTERS" "abcdefghijklmnopqrstuvwxyz"),
  fun K => He.Fa.ok K (.int "MOST_LETTERS" 8),
  fun K => He.Fa.ok K (.int "MOST_FIELDS" 6),
  fun K => He.Fa.ok K (.int "GREATEST" 999),
  fun K => He.Fa.ok K (.int "MOST_IN_ORDER" 3),
  fun K => He.Fa.ok K (.int "MISSING" (-1000)),
  fun K => plainB K (He.ga K "is_integer") "is_integer",
  fun K => He.Fa.ok K (.glo "is_integer"),
  fun K => plainB K (He.ga K "is_name") "is_name",
  fun K => He.Fa.ok K (.glo "is_name"),
  fun K => plainB K (He.ga K "is_value") "is_value",
  fun K => He.Fa.ok K (.glo "is_value"),
  fun K => plainB K (He.ga K "is_signed_field") "is_signed_field",
  fun K => He.Fa.ok K (.glo "is_signed_field"),
  fun K => plainB K (He.ga K "is_negative") "is_negative"]
def cks1 : List Ck := [
  fun K => He.Fa.ok K (.glo "is_negative"),
  fun K => plainB K (He.ga K "opposite") "opposite",
  fun K => He.Fa.ok K (.glo "opposite"),
  fun K => plainB K (He.ga K "number_for") "number_for",
  fun K => He.Fa.ok K (.glo "number_for"),
  fun K => plainB K (He.ga K "telling_fields") "telling_fields",
  fun K => He.Fa.ok K (.glo "telling_fields"),
  fun K => plainB K (He.ga K "need_order") "need_order",
  fun K => He.Fa.ok K (.glo "need_order"),
  fun K => plainB K (He.ga K "order_parting") "order_parting",
  fun K => He.Fa.ok K (.glo "order_parting"),
  fun K => plainB K (He.ga K "is_order_parting") "is_order_parting",
  fun K => He.Fa.ok K (.glo "is_order_parting"),
  fun K => plainB K (He.ga K "_law_cell") "_law_cell",
  fun K => He.Fa.ok K (.glo "_law_cell"),
  fun K => plainB K (He.ga K "_law_box") "_law_box",
  fun K => He.Fa.ok K (.glo "_law_box"),
  fun K => plainB K (He.ga K "_law_take") "_law_take",
  fun K => He.Fa.ok K (.glo "_law_take"),
  fun K => plainB K (He.ga K "_law_mixed") "_law_mixed",
  fun K => He.Fa.ok K (.glo "_law_mixed"),
  fun K => plainB K (He.ga K "_law_names") "_law_names",
  fun K => He.Fa.ok K (.glo "_law_names"),
  fun K => plainB K (He.ga K "_law_is_name") "_law_is_name",
  fun K => He.Fa.ok K (.glo "_law_is_name"),
  fun K => plainB K (He.ga K "_law_is_number") "_law_is_number",
  fun K => He.Fa.ok K (.glo "_law_is_number"),
  fun K => plainB K (He.ga K "_law_is_value") "_law_is_value",
  fun K => He.Fa.ok K (.glo "_law_is_value"),
  fun K => plainB K (He.ga K "_law_fields") "_law_fields"]
def cks2 : List Ck := [
  fun K => He.Fa.ok K (.glo "_law_fields"),
  fun K => plainB K (He.ga K "_law_answer") "_law_answer",
  fun K => He.Fa.ok K (.glo "_law_answer"),
  fun K => plainB K (He.ga K "_law_plain") "_law_plain",
  fun K => He.Fa.ok K (.glo "_law_plain"),
  fun K => plainB K (He.ga K "_law_order") "_law_order",
  fun K => He.Fa.ok K (.glo "_law_order"),
  fun K => plainB K (He.ga K "_law_other") "_law_other",
  fun K => He.Fa.ok K (.glo "_law_other"),
  fun K => plainB K (He.ga K "_law_parts") "_law_parts",
  fun K => He.Fa.ok K (.glo "_law_parts"),
  fun K => plainB K (He.ga K "_law_things") "_law_things",
  fun K => He.Fa.ok K (.glo "_law_things"),
  fun K => plainB K (He.ga K "_law_right") "_law_right",
  fun K => He.Fa.ok K (.glo "_law_right"),
  fun K => plainB K (He.ga K "law") "law",
  fun K => He.Fa.ok K (.glo "law"),
  fun K => He.Fa.ok K (.glo "By"),
  fun K => He.Fa.ok K (.cls "By"),
  fun K => He.Fa.ok K (.noat "By" "signed_fields"),
  fun K => He.Fa.ok K (.mkr "By"),
  fun K => plainB K (He.ma K (He.ga K "By") "__init__") "By.__init__",
  fun K => plainB K (getr K (He.ma K (He.ga K "By") "fields")) "By.fields",
  fun K => proB K (He.ga K "By") "fields",
  fun K => plainB K (He.ma K (He.ga K "By") "answer_for") "By.answer_for",
  fun K => He.Fa.ok K (.meth "By" "answer_for"),
  fun K => plainB K (He.ma K (He.ga K "By") "is_as_fine") "By.is_as_fine",
  fun K => He.Fa.ok K (.meth "By" "is_as_fine"),
  fun K => bycB K (He.ga K "By")]
abbrev cks : List Ck := cks0 ++ cks1 ++ cks2
def fns0 : List Dp := [
  ⟨fun K => He.ga K "is_integer", "is_integer", "is_integer", sIsInt, []⟩,
  ⟨fun K => He.ga K "is_name", "is_name", "is_name", sIsName, []⟩,
  ⟨fun K => He.ga K "is_value", "is_value", "is_value", sIsValue, []⟩,
  ⟨fun K => He.ga K "is_signed_field", "is_signed_field", "is_signed_field", sSigned, []⟩,
  ⟨fun K => He.ga K "is_negative", "is_negative", "is_negative", sNegative, []⟩,
  ⟨fun K => He.ga K "opposite", "opposite", "opposite", sOpposite, []⟩,
  ⟨fun K => He.ga K "number_for", "number_for", "number_for", sNumberFor, []⟩,
  ⟨fun K => He.ga K "telling_fields", "telling_fields", "telling_fields", sTell, []⟩,
  ⟨fun K => He.ga K "need_order", "need_order", "need_order", sNeedO, []⟩,
  ⟨fun K => He.ga K "order_parting", "order_parting", "order_parting", sPart, []⟩,
  ⟨fun K => He.ga K "is_order_parting", "is_order_parting", "is_order_parting", sIsPart, []⟩,
  ⟨fun K => He.ga K "_law_cell", "_law_cell", "_law_cell", sCell, []⟩,
  ⟨fun K => He.ga K "_law_box", "_law_box", "_law_box", sBox, []⟩,
  ⟨fun K => He.ga K "_law_take", "_law_take", "_law_take", sTake, []⟩,
  ⟨fun K => He.ga K "_law_mixed", "_law_mixed", "_law_mixed", sMixed, []⟩,
  ⟨fun K => He.ga K "_law_names", "_law_names", "_law_names", sNames, []⟩,
  ⟨fun K => He.ga K "_law_is_name", "_law_is_name", "_law_is_name", sLIsName, []⟩,
  ⟨fun K => He.ga K "_law_is_number", "_law_is_number", "_law_is_number", sLIsNum, []⟩,
  ⟨fun K => He.ga K "_law_is_value", "_law_is_value", "_law_is_value", sLIsVal, []⟩,
  ⟨fun K => He.ga K "_law_fields", "_law_fields", "_law_fields", sFields, []⟩]
def fns1 : List Dp := [
  ⟨fun K => He.ga K "_law_answer", "_law_answer", "_law_answer", sAnswer, []⟩,
  ⟨fun K => He.ga K "_law_plain", "_law_plain", "_law_plain", sPl, []⟩,
  ⟨fun K => He.ga K "_law_order", "_law_order", "_law_order", sOrder, []⟩,
  ⟨fun K => He.ga K "_law_other", "_law_other", "_law_other", sOther, []⟩,
  ⟨fun K => He.ga K "_law_parts", "_law_parts", "_law_parts", sLParts, []⟩,
  ⟨fun K => He.ga K "_law_things", "_law_things", "_law_things", sThings, []⟩,
  ⟨fun K => He.ga K "_law_right", "_law_right", "_law_right", sRight, []⟩,
  ⟨fun K => He.ga K "law", "law", "law", sLaw, []⟩,
  ⟨fun K => He.ma K (He.ga K "By") "__init__", "__init__", "By.__init__", (sBy 0), []⟩,
  ⟨fun K => getr K (He.ma K (He.ga K "By") "fields"), "fields", "By.fields", (sBy 1), []⟩,
  ⟨fun K => He.ma K (He.ga K "By") "answer_for", "answer_for", "By.answer_for", (sBy 3), []⟩,
  ⟨fun K => He.ma K (He.ga K "By") "is_as_fine", "is_as_fine", "By.is_as_fine", (sBy 10), []⟩]
abbrev fns : List Dp := fns0 ++ fns1
theorem facts {w : World} {K : PySem.W.Frag} {h : Heap} {mg : Str → Option Value} {fa : Addr} (X : K.In h) (G : h.Ns mainGlobals mg) (hfa : mg "law" = some (.ref fa)) (c : SaysP cks fns K) :
    ∃ fd : FuncData, (∀ (s : Shared) (u : Value), BindsTo s fd ⟨[u], []⟩ [("_law_script", u)]) ∧ ∀ base : Heap, K.In base → base.Ns mainGlobals mg → FnG PX w K mg base CX0 7 fa fd ["_law_script"] (spLaw K) := by
  have m_isinstance : mg "isinstance" = none := He.free_ok X G (c.ck 0 rfl)
  have m_int : mg "int" = none := He.free_ok X G (c.ck 1 rfl)
  have m_bool : mg "bool" = none := He.free_ok X G (c.ck 2 rfl)
  have m_str : mg "str" = none := He.free_ok X G (c.ck 3 rfl)
  have m_dict : mg "dict" = none := He.free_ok X G (c.ck 4 rfl)
  have m_len : mg "len" = none := He.free_ok X G (c.ck 5 rfl)
  have m_all : mg "all" = none := He.free_ok X G (c.ck 6 rfl)
  have m_list : mg "list" = none := He.free_ok X G (c.ck 7 rfl)
  have m_range : mg "range" = none := He.free_ok X G (c.ck 8 rfl)
  have m_min : mg "min" = none := He.free_ok X G (c.ck 9 rfl)
  have m_max : mg "max" = none := He.free_ok X G (c.ck 10 rfl)
  have m_tuple : mg "tuple" = none := He.free_ok X G (c.ck 11 rfl)
  have m_zip : mg "zip" = none := He.free_ok X G (c.ck 12 rfl)
  have m_enumerate : mg "enumerate" = none := He.free_ok X G (c.ck 13 rfl)
  have m_repr : mg "repr" = none := He.free_ok X G (c.ck 14 rfl)
  obtain ⟨tcLet, gcLet⟩ := He.str_ok X G (x := "LETTERS") (c.ck 15 rfl)
  obtain ⟨tcML, gcML⟩ := He.int_ok X G (x := "MOST_LETTERS") (c.ck 16 rfl)
  obtain ⟨tcMF, gcMF⟩ := He.int_ok X G (x := "MOST_FIELDS") (c.ck 17 rfl)
  obtain ⟨tcG, gcG⟩ := He.int_ok X G (x := "GREATEST") (c.ck 18 rfl)
  obtain ⟨tcM3, gcM3⟩ := He.int_ok X G (x := "MOST_IN_ORDER") (c.ck 19 rfl)
  obtain ⟨tcMI, gcMI⟩ := He.int_ok X G (x := "MISSING") (c.ck 20 rfl)
  obtain ⟨fd1, F1⟩ : ∃ fd, Fun K "is_integer" "is_integer" sIsInt (He.ga K "is_integer") fd := fun_of (c.at_ 0 rfl) rfl (c.ck 21 rfl)
  have b1 := F1.binds (ps := ["value", "low", "high"]) fun _ _ _ _ _ _ us hl => match us, hl with | [_, _, _], _ => rfl
  have g1 : mg "is_integer" = some (.ref (He.ga K "is_integer")) := He.glo_ok X G (c.ck 22 rfl)
  have k1 := F1.kp
  obtain ⟨fd2, F2⟩ : ∃ fd, Fun K "is_name" "is_name" sIsName (He.ga K "is_name") fd := fun_of (c.at_ 1 rfl) rfl (c.ck 23 rfl)
  have b2 := F2.binds (ps := ["value"]) fun _ _ _ _ _ _ us hl => match us, hl with | [_], _ => rfl
  have g2 : mg "is_name" = some (.ref (He.ga K "is_name")) := He.glo_ok X G (c.ck 24 rfl)
  have k2 := F2.kp
  obtain ⟨fd3, F3⟩ : ∃ fd, Fun K "is_value" "is_value" sIsValue (He.ga K "is_value") fd := fun_of (c.at_ 2 rfl) rfl (c.ck 25 rfl)
  have b3 := F3.binds (ps := ["value"]) fun _ _ _ _ _ _ us hl => match us, hl with | [_], _ => rfl
  have g3 : mg "is_value" = some (.ref (He.ga K "is_value")) := He.glo_ok X G (c.ck 26 rfl)
  have k3 := F3.kp
  obtain ⟨fdsg, Fsg⟩ : ∃ fd, Fun K "is_signed_field" "is_signed_field" sSigned (He.ga K "is_signed_field") fd := fun_of (c.at_ 3 rfl) rfl (c.ck 27 rfl)
  have bsg := Fsg.binds (ps := ["value"]) fun _ _ _ _ _ _ us hl => match us, hl with | [_], _ => rfl
  have gsg : mg "is_signed_field" = some (.ref (He.ga K "is_signed_field")) := He.glo_ok X G (c.ck 28 rfl)
  have ksg := Fsg.kp
  obtain ⟨fdng, Fng⟩ : ∃ fd, Fun K "is_negative" "is_negative" sNegative (He.ga K "is_negative") fd := fun_of (c.at_ 4 rfl) rfl (c.ck 29 rfl)
  have bng := Fng.binds (ps := ["field"]) fun _ _ _ _ _ _ us hl => match us, hl with | [_], _ => rfl
  have gng : mg "is_negative" = some (.ref (He.ga K "is_negative")) := He.glo_ok X G (c.ck 30 rfl)
  have kng := Fng.kp
  obtain ⟨fdop, Fop⟩ : ∃ fd, Fun K "opposite" "opposite" sOpposite (He.ga K "opposite") fd := fun_of (c.at_ 5 rfl) rfl (c.ck 31 rfl)
  have bop := Fop.binds (ps := ["field"]) fun _ _ _ _ _ _ us hl => match us, hl with | [_], _ => rfl
  have gop : mg "opposite" = some (.ref (He.ga K "opposite")) := He.glo_ok X G (c.ck 32 rfl)
  have kop := Fop.kp
  obtain ⟨fdnf, Fnf⟩ : ∃ fd, Fun K "number_for" "number_for" sNumberFor (He.ga K "number_for") fd := fun_of (c.at_ 6 rfl) rfl (c.ck 33 rfl)
  have bnf := Fnf.binds (ps := ["field", "value"]) fun _ _ _ _ _ _ us hl => match us, hl with | [_, _], _ => rfl
  have gnf : mg "number_for" = some (.ref (He.ga K "number_for")) := He.glo_ok X G (c.ck 34 rfl)
  have knf := Fnf.kp
  obtain ⟨fdtf, Ftf⟩ : ∃ fd, Fun K "telling_fields" "telling_fields" sTell (He.ga K "telling_fields") fd := fun_of (c.at_ 7 rfl) rfl (c.ck 35 rfl)
  have btf := Ftf.binds (ps := ["fields"]) fun _ _ _ _ _ _ us hl => match us, hl with | [_], _ => rfl
  have gtf : mg "telling_fields" = some (.ref (He.ga K "telling_fields")) := He.glo_ok X G (c.ck 36 rfl)
  have ktf := Ftf.kp
  obtain ⟨fdno, Fno⟩ : ∃ fd, Fun K "need_order" "need_order" sNeedO (He.ga K "need_order") fd := fun_of (c.at_ 8 rfl) rfl (c.ck 37 rfl)
  have bno := Fno.binds (ps := ["value"]) fun _ _ _ _ _ _ us hl => match us, hl with | [_], _ => rfl
  have gno : mg "need_order" = some (.ref (He.ga K "need_order")) := He.glo_ok X G (c.ck 38 rfl)
  have kno := Fno.kp
  obtain ⟨fdpa, Fpa⟩ : ∃ fd, Fun K "order_parting" "order_parting" sPart (He.ga K "order_parting") fd := fun_of (c.at_ 9 rfl) rfl (c.ck 39 rfl)
  have bpa := Fpa.binds (ps := ["one", "other"]) fun _ _ _ _ _ _ us hl => match us, hl with | [_, _], _ => rfl
  have gpa : mg "order_parting" = some (.ref (He.ga K "order_parting")) := He.glo_ok X G (c.ck 40 rfl)
  have kpa := Fpa.kp
  obtain ⟨fdip, Fip⟩ : ∃ fd, Fun K "is_order_parting" "is_order_parting" sIsPart (He.ga K "is_order_parting") fd := fun_of (c.at_ 10 rfl) rfl (c.ck 41 rfl)
  have bip := Fip.binds (ps := ["one", "other", "found"]) fun _ _ _ _ _ _ us hl => match us, hl with | [_, _, _], _ => rfl
  have gip : mg "is_order_parting" = some (.ref (He.ga K "is_order_parting")) := He.glo_ok X G (c.ck 42 rfl)
  have kip := Fip.kp
  obtain ⟨fd8, F8⟩ : ∃ fd, Fun K "_law_cell" "_law_cell" sCell (He.ga K "_law_cell") fd := fun_of (c.at_ 11 rfl) rfl (c.ck 43 rfl)
  have b8 := F8.binds (ps := ["_law_script", "_law_k"]) fun _ _ _ _ _ _ us hl => match us, hl with | [_, _], _ => rfl
  have g8 : mg "_law_cell" = some (.ref (He.ga K "_law_cell")) := He.glo_ok X G (c.ck 44 rfl)
  have k8 := F8.kp
  obtain ⟨fd9, F9⟩ : ∃ fd, Fun K "_law_box" "_law_box" sBox (He.ga K "_law_box") fd := fun_of (c.at_ 12 rfl) rfl (c.ck 45 rfl)
  have b9 := F9.binds (ps := ["_law_cell_here"]) fun _ _ _ _ _ _ us hl => match us, hl with | [_], _ => rfl
  have g9 : mg "_law_box" = some (.ref (He.ga K "_law_box")) := He.glo_ok X G (c.ck 46 rfl)
  have k9 := F9.kp
  obtain ⟨fdA, FA⟩ : ∃ fd, Fun K "_law_take" "_law_take" sTake (He.ga K "_law_take") fd := fun_of (c.at_ 13 rfl) rfl (c.ck 47 rfl)
  have bA := FA.binds (ps := ["_law_box_here", "_law_many"]) fun _ _ _ _ _ _ us hl => match us, hl with | [_, _], _ => rfl
  have gA : mg "_law_take" = some (.ref (He.ga K "_law_take")) := He.glo_ok X G (c.ck 48 rfl)
  have kA := FA.kp
  obtain ⟨fdB, FB⟩ : ∃ fd, Fun K "_law_mixed" "_law_mixed" sMixed (He.ga K "_law_mixed") fd := fun_of (c.at_ 14 rfl) rfl (c.ck 49 rfl)
  have bB := FB.binds (ps := ["_law_box_here", "_law_some"]) fun _ _ _ _ _ _ us hl => match us, hl with | [_, _], _ => rfl
  have gB : mg "_law_mixed" = some (.ref (He.ga K "_law_mixed")) := He.glo_ok X G (c.ck 50 rfl)
  have kB := FB.kp
  obtain ⟨fdC, FC⟩ : ∃ fd, Fun K "_law_names" "_law_names" sNames (He.ga K "_law_names") fd := fun_of (c.at_ 15 rfl) rfl (c.ck 51 rfl)
  have bC := FC.binds (ps := ["_law_box_here", "_law_many"]) fun _ _ _ _ _ _ us hl => match us, hl with | [_, _], _ => rfl
  have gC : mg "_law_names" = some (.ref (He.ga K "_law_names")) := He.glo_ok X G (c.ck 52 rfl)
  have kC := FC.kp
  obtain ⟨fdln, Fln⟩ : ∃ fd, Fun K "_law_is_name" "_law_is_name" sLIsName (He.ga K "_law_is_name") fd := fun_of (c.at_ 16 rfl) rfl (c.ck 53 rfl)
  have bln := Fln.binds (ps := ["_law_thing"]) fun _ _ _ _ _ _ us hl => match us, hl with | [_], _ => rfl
  have gln : mg "_law_is_name" = some (.ref (He.ga K "_law_is_name")) := He.glo_ok X G (c.ck 54 rfl)
  have kln := Fln.kp
  obtain ⟨fdli, Fli⟩ : ∃ fd, Fun K "_law_is_number" "_law_is_number" sLIsNum (He.ga K "_law_is_number") fd := fun_of (c.at_ 17 rfl) rfl (c.ck 55 rfl)
  have bli := Fli.binds (ps := ["_law_thing", "_law_small", "_law_great"]) fun _ _ _ _ _ _ us hl => match us, hl with | [_, _, _], _ => rfl
  have gli : mg "_law_is_number" = some (.ref (He.ga K "_law_is_number")) := He.glo_ok X G (c.ck 56 rfl)
  have kli := Fli.kp
  obtain ⟨fdlv, Flv⟩ : ∃ fd, Fun K "_law_is_value" "_law_is_value" sLIsVal (He.ga K "_law_is_value") fd := fun_of (c.at_ 18 rfl) rfl (c.ck 57 rfl)
  have blv := Flv.binds (ps := ["_law_thing"]) fun _ _ _ _ _ _ us hl => match us, hl with | [_], _ => rfl
  have glv : mg "_law_is_value" = some (.ref (He.ga K "_law_is_value")) := He.glo_ok X G (c.ck 58 rfl)
  have klv := Flv.kp
  obtain ⟨fdfd, Ffd⟩ : ∃ fd, Fun K "_law_fields" "_law_fields" sFields (He.ga K "_law_fields") fd := fun_of (c.at_ 19 rfl) rfl (c.ck 59 rfl)
  have bfd := Ffd.binds (ps := ["_law_box_here", "_law_names_here", "_law_most"]) fun _ _ _ _ _ _ us hl => match us, hl with | [_, _, _], _ => rfl
  have gfd : mg "_law_fields" = some (.ref (He.ga K "_law_fields")) := He.glo_ok X G (c.ck 60 rfl)
  have kfd := Ffd.kp
  obtain ⟨fdaw, Faw⟩ : ∃ fd, Fun K "_law_answer" "_law_answer" sAnswer (He.ga K "_law_answer") fd := fun_of (c.at_ 20 rfl) rfl (c.ck 61 rfl)
  have baw := Faw.binds (ps := ["_law_fields_here", "_law_worth"]) fun _ _ _ _ _ _ us hl => match us, hl with | [_, _], _ => rfl
  have gaw : mg "_law_answer" = some (.ref (He.ga K "_law_answer")) := He.glo_ok X G (c.ck 62 rfl)
  have kaw := Faw.kp
  obtain ⟨fdpl, Fpl⟩ : ∃ fd, Fun K "_law_plain" "_law_plain" sPl (He.ga K "_law_plain") fd := fun_of (c.at_ 21 rfl) rfl (c.ck 63 rfl)
  have bpl := Fpl.binds (ps := ["_law_fields_here"]) fun _ _ _ _ _ _ us hl => match us, hl with | [_], _ => rfl
  have gpl : mg "_law_plain" = some (.ref (He.ga K "_law_plain")) := He.glo_ok X G (c.ck 64 rfl)
  have kpl := Fpl.kp
  obtain ⟨fdor, For⟩ : ∃ fd, Fun K "_law_order" "_law_order" sOrder (He.ga K "_law_order") fd := fun_of (c.at_ 22 rfl) rfl (c.ck 65 rfl)
  have bor := For.binds (ps := ["_law_fields_here"]) fun _ _ _ _ _ _ us hl => match us, hl with | [_], _ => rfl
  have gor : mg "_law_order" = some (.ref (He.ga K "_law_order")) := He.glo_ok X G (c.ck 66 rfl)
  have kor := For.kp
  obtain ⟨fdot, Fot⟩ : ∃ fd, Fun K "_law_other" "_law_other" sOther (He.ga K "_law_other") fd := fun_of (c.at_ 23 rfl) rfl (c.ck 67 rfl)
  have bot := Fot.binds (ps := ["_law_box_here", "_law_fields_here", "_law_names_here"]) fun _ _ _ _ _ _ us hl => match us, hl with | [_, _, _], _ => rfl
  have got : mg "_law_other" = some (.ref (He.ga K "_law_other")) := He.glo_ok X G (c.ck 68 rfl)
  have kot := Fot.kp
  obtain ⟨fdlp, Flp⟩ : ∃ fd, Fun K "_law_parts" "_law_parts" sLParts (He.ga K "_law_parts") fd := fun_of (c.at_ 24 rfl) rfl (c.ck 69 rfl)
  have blp := Flp.binds (ps := ["_law_one", "_law_other_here", "_law_found"]) fun _ _ _ _ _ _ us hl => match us, hl with | [_, _, _], _ => rfl
  have glp : mg "_law_parts" = some (.ref (He.ga K "_law_parts")) := He.glo_ok X G (c.ck 70 rfl)
  have klp := Flp.kp
  obtain ⟨fdth, Fth⟩ : ∃ fd, Fun K "_law_things" "_law_things" sThings (He.ga K "_law_things") fd := fun_of (c.at_ 25 rfl) rfl (c.ck 71 rfl)
  have bth := Fth.binds (ps := ["_law_box_here", "_law_names_here"]) fun _ _ _ _ _ _ us hl => match us, hl with | [_, _], _ => rfl
  have gth : mg "_law_things" = some (.ref (He.ga K "_law_things")) := He.glo_ok X G (c.ck 72 rfl)
  have kth := Fth.kp
  obtain ⟨fdri, Fri⟩ : ∃ fd, Fun K "_law_right" "_law_right" sRight (He.ga K "_law_right") fd := fun_of (c.at_ 26 rfl) rfl (c.ck 73 rfl)
  have bri := Fri.binds (ps := ["_law_box_here", "_law_one", "_law_other_here", "_law_things_here"]) fun _ _ _ _ _ _ us hl => match us, hl with | [_, _, _, _], _ => rfl
  have gri : mg "_law_right" = some (.ref (He.ga K "_law_right")) := He.glo_ok X G (c.ck 74 rfl)
  have kri := Fri.kp
  obtain ⟨fdL, FL⟩ : ∃ fd, Fun K "law" "law" sLaw (He.ga K "law") fd := fun_of (c.at_ 27 rfl) rfl (c.ck 75 rfl)
  have bL := FL.binds (ps := ["_law_script"]) fun _ _ _ _ _ _ us hl => match us, hl with | [_], _ => rfl
  have gL : mg "law" = some (.ref (He.ga K "law")) := He.glo_ok X G (c.ck 76 rfl)
  have kL := FL.kp
  have gBy : mg "By" = some (.ref (He.ga K "By")) := He.glo_ok X G (c.ck 77 rfl)
  have cBy : Cls K (He.ga K "By") := He.cls_ok (c.ck 78 rfl)
  have nBy_signed_fields : NoAttr K (He.ga K "By") "signed_fields" := He.noat_ok (c.ck 79 rfl)
  have MBy : Mk K (He.ga K "By") (He.ma K (He.ga K "By") "__init__") := He.mkr_ok (c.ck 80 rfl)
  obtain ⟨fdbi, Fbi⟩ : ∃ fd, Fun K "__init__" "By.__init__" (sBy 0) (He.ma K (He.ga K "By") "__init__") fd := fun_of (c.at_ 28 rfl) rfl (c.ck 81 rfl)
  obtain ⟨fdfi, Ffi⟩ : ∃ fd, Fun K "fields" "By.fields" (sBy 1) (getr K (He.ma K (He.ga K "By") "fields")) fd := fun_of (c.at_ 29 rfl) rfl (c.ck 82 rfl)
  have bfi := Ffi.binds (ps := ["self"]) fun _ _ _ _ _ _ us hl => match us, hl with | [_], _ => rfl
  have Pfi : PropOf K (He.ga K "By") "fields" (He.ma K (He.ga K "By") "fields") (getr K (He.ma K (He.ga K "By") "fields")) := pro_ok (c.ck 83 rfl)
  obtain ⟨fdan, Fan⟩ : ∃ fd, Fun K "answer_for" "By.answer_for" (sBy 3) (He.ma K (He.ga K "By") "answer_for") fd := fun_of (c.at_ 30 rfl) rfl (c.ck 84 rfl)
  have ban := Fan.binds (ps := ["self", "value"]) fun _ _ _ _ _ _ us hl => match us, hl with | [_, _], _ => rfl
  have Man : Meth K (He.ga K "By") "answer_for" (He.ma K (He.ga K "By") "answer_for") := He.meth_ok (c.ck 85 rfl)
  obtain ⟨fdaf, Faf⟩ : ∃ fd, Fun K "is_as_fine" "By.is_as_fine" (sBy 10) (He.ma K (He.ga K "By") "is_as_fine") fd := fun_of (c.at_ 31 rfl) rfl (c.ck 86 rfl)
  have baf := Faf.binds (ps := ["self", "other"]) fun _ _ _ _ _ _ us hl => match us, hl with | [_, _], _ => rfl
  have Maf : Meth K (He.ga K "By") "is_as_fine" (He.ma K (He.ga K "By") "is_as_fine") := He.meth_ok (c.ck 87 rfl)
  have cc : ByC K (He.ga K "By") := byc_ok (c.ck 88 rfl) cBy nBy_signed_fields
  have e := hfa.symm.trans gL
  cases e
  obtain ⟨_, _, _, _, _, _, _, _, _, hfd, _, _⟩ := FL.ex
  refine ⟨fdL, fun s u => by rw [hfd]; exact .of_eq rfl, fun base _ _ => ?_⟩
  have O2 : FnOk PX w K mg base CX0 1 _ _ ["value"] spIsName := ok_isname F2 gcML gcLet m_isinstance m_str m_len m_all
  have T1 : FnOk PX w K mg base CX0 1 _ _ ["value", "low", "high"] (spIsIntT K) := ok_isintT F1 m_isinstance m_int m_bool
  have T2 : FnOk PX w K mg base CX0 1 _ _ ["value"] (spIsNameT K) := ok_isnameT F2 gcML gcLet m_isinstance m_str m_len m_all
  have T3 : FnOk PX w K mg base CX0 2 _ _ ["value"] (spIsValT K) := ok_isvalT F3 k2 b2 g2 T2 k1 b1 g1 T1 gcMF gcG m_isinstance m_dict m_len m_all
  have U1 : FnOk PX w K mg base CX0 1 _ _ ["_law_thing", "_law_small", "_law_great"] (spIsIntT K) := ok_lisnum Fli m_isinstance m_int m_bool
  have U2 : FnOk PX w K mg base CX0 1 _ _ ["_law_thing"] (spIsNameT K) := ok_lisname Fln m_isinstance m_str m_len
  have U3 : FnOk PX w K mg base CX0 2 _ _ ["_law_thing"] (spIsValT K) := ok_lisval Flv kln bln gln U2 kli bli gli U1 m_isinstance m_dict m_len
  have Osg : FnOk PX w K mg base CX0 2 _ _ ["value"] spSigned := ok_signed Fsg F2 b2 g2 O2 m_isinstance m_str
  have Onf : FnOk PX w K mg base CX0 2 _ _ ["field", "value"] spNumberFor := ok_numfor Fnf Fng bng gng gcMI
  have OI : FnR PX w K mg base CX0 3 _ (spByR (He.ga K "By")) := ok_byinit Fbi cBy nBy_signed_fields Osg gsg ksg bsg gcM3 m_len
  have Ofi : FnOk PX w K mg base CX0 1 _ _ ["self"] (spByF (He.ga K "By")) := ok_byfields Ffi cBy nBy_signed_fields
  have Oan : FnOk PX w K mg base CX0 3 _ _ ["self", "value"] (spByA (He.ga K "By")) := ok_byans Fan cBy nBy_signed_fields Onf gnf knf bnf m_tuple
  have Otf : FnOk PX w K mg base CX0 1 _ _ ["fields"] spTell := ok_tell Ftf m_list
  have Ono : FnOk PX w K mg base CX0 1 _ _ ["value"] (spNeedO (He.ga K "By")) := ok_needO Fno cc gBy m_isinstance
  have Oop : FnOk PX w K mg base CX0 2 _ _ ["field"] spOpp := ok_opposite Fop Fng bng gng
  have Oaf : FnOk PX w K mg base CX0 2 _ _ ["self", "other"] (spFine (He.ga K "By")) := ok_fine Faf cc Ono gno kno bno Otf gtf ktf btf m_len
  have Opa : FnOk PX w K mg base CX0 3 _ _ ["one", "other"] (spPart (He.ga K "By")) := ok_part Fpa cc Ono gno kno bno Otf gtf ktf btf Maf Oaf baf Oop gop kop bop Fng bng gng m_len m_range m_zip m_int
  have Oip : FnOk PX w K mg base CX0 4 _ _ ["one", "other", "found"] (spIsPart K (He.ga K "By")) := ok_ispart Fip cc Ono gno kno bno T3 g3 k3 b3 Man ban Oan m_isinstance m_tuple m_len m_all
  have Nn : FnOk PX w K mg base CX0 3 _ _ ["_law_box_here", "_law_many"] spNames := ok_names FC FA bA gA FB bB gB m_len m_list m_range
  have Fd : FnOk PX w K mg base CX0 2 _ _ ["_law_box_here", "_law_names_here", "_law_most"] spFields := ok_fields Ffd FA bA gA m_range m_len m_tuple
  have Aw : FnOk PX w K mg base CX0 1 _ _ ["_law_fields_here", "_law_worth"] spAnswer := ok_answer Faw m_tuple
  have Pl : FnOk PX w K mg base CX0 1 _ _ ["_law_fields_here"] spPl := ok_pl Fpl m_enumerate m_tuple
  have Or : FnOk PX w K mg base CX0 5 _ _ ["_law_fields_here"] (spOrder (He.ga K "By")) := ok_order For MBy OI gBy m_len
  have Not : FnOk PX w K mg base CX0 3 _ _ ["_law_box_here", "_law_fields_here", "_law_names_here"] spOther := ok_other Fot FA bA gA Fd gfd kfd bfd m_len
  have Nlp : FnOk PX w K mg base CX0 3 _ _ ["_law_one", "_law_other_here", "_law_found"] (spLParts K) := ok_lparts Flp U3 glv klv blv Aw gaw kaw baw m_isinstance m_tuple m_len
  have Nth : FnOk PX w K mg base CX0 2 _ _ ["_law_box_here", "_law_names_here"] (spThings K) := ok_things Fth FA bA gA m_range
  have Nr : FnG PX w K mg base CX0 6 _ _ ["_law_box_here", "_law_one", "_law_other_here", "_law_things_here"] (spRight K) := ok_right Fri cc Or gor kor bor Pl gpl kpl bpl Maf Oaf baf Opa gpa kpa bpa Oip gip kip bip Nlp glp klp blp Pfi Ofi bfi m_repr m_len
  exact ok_law FL F8 b8 g8 F9 b9 g9 FA bA gA kC bC gC Nn Fd gfd kfd bfd Not got kot bot Nth gth kth bth Nr gri kri bri m_range m_max m_min m_len
end G
set_option Elab.async false
set_option linter.all false
set_option maxRecDepth 100000
set_option maxHeartbeats 8000000
/-! XB: the top's run. -/
namespace G
open PySem PySem.Spec PyProof.Rows L2 NdefX StX
abbrev hk : PySem.W.Hook := hookP 5 cks fns
def ob (s : PySem.W.SharedT) : AlP := obsPG 5 cks fns (HandSHeadRun.getT s)
theorem ob_eq (s : PySem.W.SharedT) : ob s = hk.obs s.abs := obsPG_eq (HandSHeadRun.getT_eq s)
def loose0 : List Str := ["_wall", "BoardError", "InvalidName", "InvalidValue", "InvalidOrder", "InvalidText", "TooMany", "LETTERS", "MOST_LETTERS", "MOST_FIELDS", "GREATEST", "is_integer", "is_name", "is_value", "split_words", "need_name", "need_value", "need_record", "MOST_IN_ORDER", "MISSING", "By", "is_signed_field", "is_negative", "opposite", "number_for", "fields_of", "telling_fields", "need_order", "order_parting", "is_order_parting"]
def loose1 : List Str := ["_law_cell", "_law_box", "_law_take", "_law_mixed", "_law_names", "_law_is_name", "_law_is_number", "_law_is_value", "_law_fields", "_law_answer", "_law_plain", "_law_order", "_law_other", "_law_parts", "_law_things", "_law_right"]
abbrev looseX : List Str := loose0 ++ loose1
theorem run (w : World) : HandSHeadRun.RunEq (PySem.W.OpenLaw.row PySem.Challenge.rw_listviews_k19_whole_finer_orders_or_part) (PySem.W.view PX [51]) hk ob 20000 looseX w := by
  intro os
  kernel_rfl
end G
set_option Elab.async false
set_option linter.all false
set_option maxRecDepth 100000
set_option maxHeartbeats 8000000
/-! XC: the end. -/
open PySem PySem.W PySem.Calls PyProof.Rows
set_option maxRecDepth 100000 in
set_option maxHeartbeats 0 in
theorem PySem.Challenge.cw_listviews_k19_whole_finer_orders_or_part_holds : PySem.Challenge.rw_listviews_k19_whole_finer_orders_or_part.Holds := by
  w_on; o_law
  refine HandSHeadRun.head_any (r := OpenLaw.row PySem.Challenge.rw_listviews_k19_whole_finer_orders_or_part) (q := view (OpenLaw.row PySem.Challenge.rw_listviews_k19_whole_finer_orders_or_part).prog [51]) (H := G.hk) (ob := G.ob) (M := 20000) (loose := G.looseX) (d := HandSHeadRun.topDef (OpenLaw.row PySem.Challenge.rw_listviews_k19_whole_finer_orders_or_part).prog 51) (kwd := []) G.ob_eq
    (by kernel_rfl) (fun s => by kernel_rfl) G.run (by kernel_rfl) (by kernel_rfl) (by kernel_rfl) (by rfl) (by first | assumption | decide +kernel) (by decide +kernel) ⟨rfl, rfl, rfl, rfl, rfl, by decide +kernel⟩ ?hw ?hc
  case hw => w_witness2
  case hc =>
    refine G.walk_goE (l := PySem.Challenge.rw_listviews_k19_whole_finer_orders_or_part) (n := 63) (k := 7) (x := "_law_script") rfl (by decide) (by kernel_rfl) ⟨rfl, by decide, by decide⟩ ?F
    intro w mg fa h Y GX hmg0
    obtain ⟨K, KX, c⟩ := Y
    have hmg : mg ("law" : PySem.Str) = some (.ref fa) := by
      have e : (HandSHeadRun.topDef (OpenLaw.row PySem.Challenge.rw_listviews_k19_whole_finer_orders_or_part).prog 51).name = ("law" : PySem.Str) := by kernel_rfl
      rw [← e]
      exact hmg0
    obtain ⟨fd, hb, hF⟩ := G.facts (w := w) KX GX hmg c
    exact ⟨K, fd, G.spLaw K, KX, hb, fun H a ns hl _ hS => ⟨a, ns, rfl, hS, hl, fun _ => rfl⟩, hF⟩
