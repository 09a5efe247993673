import PyProof.Rows.All
import Wide.All
import OpenK.AllK
import Wide.FinOn
import HandS.ForMost
import HandS.ForExc
import HandS.ExcInit
import HandS.ExcField
import HandS.TryMany
import HandS.IsInst
import HandS.Wide
import HandS.Small
import HandS.RaiseMore
import PyProof.ReprRoads
import KE.KSuper
import HandS.ClsMeth
import HandS.Nested
import HandS.More
import PyProof.InstNe
import HandS.SlotsOwn
import HandS.Words
import HandS.NamedTupSort
import KE.KCallOwn
import KE.KOpsOwn
import HandS.Star
import HandS.MethStar
import HandS.StrMore
import HandS.Walk
import HandS.Defaults
import HandS.MakeKwOnly
import OpenK.KMake
import KE.KOwnIter
import HandS.IterVal
import HandS.List
import HandS.TupSets
import HandS.DeepEq
import HandS.DictEq
import OpenK.KOps
import KE.KExcInit
import PyProof.ExcBaseAll.LookupError
import HandS.Iter
import HandS.Finally
import HandS.Conv
import HandS.Property
import HandS.Head0
import HandS.Head1
import HandS.Head2
import HandS.HeadHook1
import HandS.HeadHook2
import PySem.Challenge.RW_listviews_k37_records_told
set_option Elab.async false
set_option linter.all false
set_option maxRecDepth 100000
set_option maxHeartbeats 2000000
/-! G1: what a def keeps where no guard is under way; repr of data at any depth, dicts too. -/
namespace G
open PySem PySem.Spec PyProof.Rows L2

/-! ### how long a shown text is -/
mutual
def mass : PyData → Nat
  | .none => 4
  | .bool _ => 5
  | .int _ => 1921
  | .str x => (reprText x).length
  | .list xs => 3 + massAll xs
  | .tuple xs => 4 + massAll xs
  | .dict kvs => 3 + massKv kvs
def massAll : List PyData → Nat
  | [] => 0
  | x :: xs => mass x + 2 + massAll xs
def massKv : List (PyData × PyData) → Nat
  | [] => 0
  | (k, v) :: r => mass k + mass v + 4 + massKv r
end
theorem text_from_le : ∀ (ts : List Str) (k : Nat) (acc : Str), (textFrom k acc ts).length ≤ acc.length + piled ts
  | [], k, acc => by
    show acc.length ≤ acc.length + 0
    omega
  | t :: r, k, acc => by
    have h1 := text_from_le r (k + 1) (acc ++ (if k > 0 then ", " else "" : String) ++ t)
    rw [strLen_append, strLen_append] at h1
    have h2 : (((if k > 0 then ", " else "" : String) : Str)).length ≤ 2 := by
      split <;> decide
    show (textFrom (k + 1) _ r).length ≤ _
    rw [piled_cons]
    omega
theorem list_text_le (ts : List Str) : (listText ts).length ≤ 3 + piled ts := by
  unfold listText
  rw [strLen_append]
  have h1 := text_from_le ts 0 "["
  have e1 : ((("[" : String) : Str)).length = 1 := rfl
  have e2 : ((("]" : String) : Str)).length = 1 := rfl
  rw [e1] at h1
  rw [e2]
  omega
theorem join_le (ts : List Str) : (Str.join ", " ts).length ≤ piled ts := by
  by_cases h : ts = []
  · subst h
    exact Nat.le_refl 0
  · have := join_length_add ts h
    omega
theorem tuple_text_le (ts : List Str) : (tupleText ts).length ≤ 4 + piled ts := by
  unfold tupleText
  rw [strLen_append, strLen_append]
  have h1 := join_le ts
  have e1 : ((("(" : String) : Str)).length = 1 := rfl
  have e3 : (((if ts.length == 1 then ",)" else ")" : String) : Str)).length ≤ 2 := by split <;> decide
  rw [e1]
  omega
theorem dict_text_le (ts : List Str) : (dictText ts).length ≤ 3 + piled ts := by
  unfold dictText
  rw [strLen_append, strLen_append]
  have h1 := join_le ts
  have e1 : ((("{" : String) : Str)).length = 1 := rfl
  have e3 : ((("}" : String) : Str)).length = 1 := rfl
  rw [e1, e3]
  omega
mutual
theorem shown_le : ∀ d : PyData, d.showable = true → d.shown.length ≤ mass d
  | .none, _ => by decide
  | .bool b, _ => by cases b <;> decide
  | .int i, h => by
    have h' : i.natAbs.log2 < 1920 := by simpa [PyData.showable] using h
    have h2 := int_text_length_le (by decide) h'
    show (Str.ofString (toString i)).length ≤ 1921
    rw [PySem.ofString_length]
    exact h2
  | .str x, _ => by
    simp only [PyData.shown, mass]
    exact Nat.le_refl _
  | .list xs, h => by
    have h' : PyData.showableAll xs = true := by simpa [PyData.showable] using h
    have h1 := list_text_le (PyData.shownAll xs)
    have h2 := shown_all_le xs h'
    simp only [PyData.shown, mass]
    omega
  | .tuple xs, h => by
    have h' : PyData.showableAll xs = true := by simpa [PyData.showable] using h
    have h1 := tuple_text_le (PyData.shownAll xs)
    have h2 := shown_all_le xs h'
    simp only [PyData.shown, mass]
    omega
  | .dict kvs, h => by
    have h' : PyData.showableKv kvs = true := by simpa [PyData.showable] using h
    have h1 := dict_text_le (PyData.shownKv kvs)
    have h2 := shown_kv_le kvs h'
    simp only [PyData.shown, mass]
    omega
theorem shown_all_le : ∀ xs : List PyData, PyData.showableAll xs = true → piled (PyData.shownAll xs) ≤ massAll xs
  | [], _ => by
    simp only [PyData.shownAll, massAll, piled_nil]
    exact Nat.le_refl _
  | x :: xs, h => by
    simp only [PyData.showableAll, Bool.and_eq_true] at h
    have h1 := shown_le x h.1
    have h2 := shown_all_le xs h.2
    simp only [PyData.shownAll, massAll, piled_cons]
    omega
theorem shown_kv_le : ∀ xs : List (PyData × PyData), PyData.showableKv xs = true → piled (PyData.shownKv xs) ≤ massKv xs
  | [], _ => by
    simp only [PyData.shownKv, massKv, piled_nil]
    exact Nat.le_refl _
  | (k, v) :: xs, h => by
    simp only [PyData.showableKv, Bool.and_eq_true] at h
    have h1 := shown_le k h.1.1
    have h2 := shown_le v h.1.2
    have h3 := shown_kv_le xs h.2
    have e : (((": " : String) : Str)).length = 2 := rfl
    simp only [PyData.shownKv, massKv, piled_cons, strLen_append, e]
    omega
end

/-! ### data that stands in the heap: lists, tuples, dicts by int and text keys -/
mutual
inductive Rp (K : PySem.W.Frag) (H : Hp) : V → PyData → Prop
  | non : Rp K H .non .none
  | bl (b : Bool) : Rp K H (.bl b) (.bool b)
  | int (i : Int) : Rp K H (.int i) (.int i)
  | str (x : Str) : Rp K H (.str x) (.str x)
  | lst {a : Addr} {xs : List V} {ds : List PyData} : H a = some (.lst xs) → RpAll K H xs ds → Rp K H (.ref a) (.list ds)
  | tup {a : Addr} {xs : List V} {ds : List PyData} : H a = some (.tup xs) → RpAll K H xs ds → Rp K H (.ref a) (.tuple ds)
  | dic {a : Addr} {kvs : List (Key × V)} {ds : List (PyData × PyData)} : H a = some (.dK kvs) → RpAll K H (kvs.map fun p => kV p.1) (ds.map (·.1)) → RpAll K H (kvs.map (·.2)) (ds.map (·.2)) → Rp K H (.ref a) (.dict ds)
inductive RpAll (K : PySem.W.Frag) (H : Hp) : List V → List PyData → Prop
  | nil : RpAll K H [] []
  | cons {v : V} {vs : List V} {d : PyData} {ds : List PyData} : Rp K H v d → RpAll K H vs ds → RpAll K H (v :: vs) (d :: ds)
end

/-! ### .. and how it is read -/
mutual
/-- no list in it: each address that a reading of it counts is a dict's -/
def okS : PyData → Bool
  | .none | .bool _ | .int _ | .str _ => true
  | .list _ => false
  | .tuple xs => okSAll xs
  | .dict kvs => okSKv kvs
def okSAll : List PyData → Bool
  | [] => true
  | x :: xs => okS x && okSAll xs
def okSKv : List (PyData × PyData) → Bool
  | [] => true
  | (k, v) :: r => okS k && okS v && okSKv r
end
theorem okSKv_split : ∀ {kvs : List (PyData × PyData)}, okSKv kvs = true → okSAll (kvs.map (·.1)) = true ∧ okSAll (kvs.map (·.2)) = true
  | [], _ => ⟨rfl, rfl⟩
  | (k, v) :: r, h => by
    simp only [okSKv, Bool.and_eq_true] at h
    obtain ⟨h1, h2⟩ := okSKv_split h.2
    simp only [List.map_cons, okSAll, Bool.and_eq_true]
    exact ⟨⟨h.1.1, h1⟩, h.1.2, h2⟩
theorem pairs_vals {P : Program} {w : World} : ∀ {kvs : List (Key × V)} {vs : List (Key × Value)} {es : List DictEntry}, KV kvs vs → Pairs (mixKind P w) es vs →
    Vals (kvs.map fun p => kV p.1) (es.map (·.key)) ∧ Vals (kvs.map (·.2)) (es.map (·.val))
  | _, _, _, .nil, .nil => ⟨.nil, .nil⟩
  | _, _, _, .cons r t, .cons hk hv p => by
    obtain ⟨h1, h2⟩ := pairs_vals t p
    refine ⟨.cons ?_ h1, .cons ?_ h2⟩
    · dsimp only
      rw [r.1]
      rcases keyIs_shape hk with ⟨i, tk, e1, e2⟩ | ⟨x, tk, e1, e2⟩
      · rw [e1, e2]
        exact ⟨tk, rfl⟩
      · rw [e1, e2]
        exact ⟨tk, rfl⟩
    · dsimp only
      rw [hv]
      exact r.2
section
variable {X : Cx} {pins : List (Addr × Obj)} {σ : L2.St} {H : Hp} {s : Shared}
mutual
theorem rp_reads (I : Inv X pins σ H s) : ∀ (d : PyData) (v : V) (u : Value), Rp X.K H v d → RelV v u → ∃ as, Reads s.heap u d as ∧ (okS d = true → sysModules ∉ as)
  | .none, _, _, h, r => by
    cases h
    cases r
    exact ⟨_, Reads.none, fun _ => by simp⟩
  | .bool b, _, _, h, r => by
    cases h
    cases r
    exact ⟨_, Reads.bool b, fun _ => by simp⟩
  | .int i, _, _, h, r => by
    cases h
    obtain ⟨t, rfl⟩ := r
    exact ⟨_, Reads.int i t, fun _ => by simp⟩
  | .str x, _, _, h, r => by
    cases h
    obtain ⟨t, rfl⟩ := r
    exact ⟨_, Reads.str x t, fun _ => by simp⟩
  | .list ds, _, _, h, r => by
    cases h with
    | lst hs ha =>
      cases r
      obtain ⟨its, rv, ⟨o, n, ho, hc, _, hd⟩, _⟩ := I.list (.of hs)
      obtain ⟨as, hr, _⟩ := rp_readsAll I ds _ its ha rv
      exact ⟨_, Reads.list ho hc hd hr, fun z => by simp [okS] at z⟩
  | .tuple ds, _, _, h, r => by
    cases h with
    | tup hs ha =>
      cases r
      obtain ⟨its, rv, ⟨o, ho, hc, n, hd⟩, _⟩ := I.tuple (.of hs)
      obtain ⟨as, hr, q⟩ := rp_readsAll I ds _ its ha rv
      exact ⟨_, Reads.tuple ho hc hd hr, fun z => q (by simpa [okS] using z)⟩
  | .dict ds, _, _, h, r => by
    cases h with
    | dic hs hk hv =>
      cases r
      obtain ⟨_, hm, vs, rel, o, es, ep, e1, e2, e3, e4, e5, e6⟩ := I.hok _ _ hs
      obtain ⟨r1, r2⟩ := pairs_vals rel e5
      obtain ⟨as, q1, z1⟩ := rp_readsKeys I ds _ _ hk r1
      obtain ⟨bs, q2, z2⟩ := rp_readsVals I ds _ _ hv r2
      refine ⟨_, Reads.dict e1 e2.1 e3 q1 q2, fun z => ?_⟩
      have hz : okSKv ds = true := by simpa [okS] using z
      obtain ⟨k1, k2⟩ := okSKv_split hz
      have hm' := beq_eq_false_iff_ne.mp hm
      intro hin
      rcases List.mem_cons.mp hin with hx | hx
      · exact hm' hx.symm
      · rcases List.mem_append.mp hx with hx | hx
        · exact z1 k1 hx
        · exact z2 k2 hx
theorem rp_readsAll (I : Inv X pins σ H s) : ∀ (ds : List PyData) (vs : List V) (us : List Value), RpAll X.K H vs ds → Vals vs us → ∃ as, ReadsAll s.heap us ds as ∧ (okSAll ds = true → sysModules ∉ as)
  | [], _, _, h, r => by
    cases h
    cases r
    exact ⟨_, ReadsAll.nil, fun _ => by simp⟩
  | d :: ds, _, _, h, r => by
    cases h with
    | cons h1 h2 =>
      cases r with
      | cons r1 r2 =>
        obtain ⟨as, q1, z1⟩ := rp_reads I d _ _ h1 r1
        obtain ⟨bs, q2, z2⟩ := rp_readsAll I ds _ _ h2 r2
        refine ⟨_, ReadsAll.cons q1 q2, fun z => ?_⟩
        simp only [okSAll, Bool.and_eq_true] at z
        intro hin
        rcases List.mem_append.mp hin with hx | hx
        · exact z1 z.1 hx
        · exact z2 z.2 hx
theorem rp_readsKeys (I : Inv X pins σ H s) : ∀ (ds : List (PyData × PyData)) (vs : List V) (us : List Value), RpAll X.K H vs (ds.map (·.1)) → Vals vs us → ∃ as, ReadsAll s.heap us (ds.map (·.1)) as ∧ (okSAll (ds.map (·.1)) = true → sysModules ∉ as)
  | [], _, _, h, r => by
    cases h
    cases r
    exact ⟨_, ReadsAll.nil, fun _ => by simp⟩
  | (d, _) :: ds, _, _, h, r => by
    cases h with
    | cons h1 h2 =>
      cases r with
      | cons r1 r2 =>
        obtain ⟨as, q1, z1⟩ := rp_reads I d _ _ h1 r1
        obtain ⟨bs, q2, z2⟩ := rp_readsKeys I ds _ _ h2 r2
        refine ⟨_, ReadsAll.cons q1 q2, fun z => ?_⟩
        simp only [List.map_cons, okSAll, Bool.and_eq_true] at z
        intro hin
        rcases List.mem_append.mp hin with hx | hx
        · exact z1 z.1 hx
        · exact z2 z.2 hx
theorem rp_readsVals (I : Inv X pins σ H s) : ∀ (ds : List (PyData × PyData)) (vs : List V) (us : List Value), RpAll X.K H vs (ds.map (·.2)) → Vals vs us → ∃ as, ReadsAll s.heap us (ds.map (·.2)) as ∧ (okSAll (ds.map (·.2)) = true → sysModules ∉ as)
  | [], _, _, h, r => by
    cases h
    cases r
    exact ⟨_, ReadsAll.nil, fun _ => by simp⟩
  | (_, d) :: ds, _, _, h, r => by
    cases h with
    | cons h1 h2 =>
      cases r with
      | cons r1 r2 =>
        obtain ⟨as, q1, z1⟩ := rp_reads I d _ _ h1 r1
        obtain ⟨bs, q2, z2⟩ := rp_readsVals I ds _ _ h2 r2
        refine ⟨_, ReadsAll.cons q1 q2, fun z => ?_⟩
        simp only [List.map_cons, okSAll, Bool.and_eq_true] at z
        intro hin
        rcases List.mem_append.mp hin with hx | hx
        · exact z1 z.1 hx
        · exact z2 z.2 hx
end
end

/-! ### repr of a list of such data -/
/-- a list at the top: its own address is not counted -/
theorem repr_top {prog : Program} {w : World} {A : Around} {E : Value → Shared → Prop} {s : Shared} {Q : Value → Shared → Prop} {a : Addr} {o : Obj} {vs : Array Value} {n : Nat} {xs : List PyData} {as : List Addr}
    (h1 : s.heap.get? a = some o) (h2 : o.cls = .type "list") (h3 : o.data = .seq vs n) (h4 : ReadsAll s.heap vs.toList xs as) (hs : PyData.showableAll xs = true) (hsm : PyData.hasDictAll xs = true → sysModules ∉ as)
    (hg : A.guards = some []) (hu : A.units + ((PyData.list xs).depth + 1) < cLine) (hsz : (listText (PyData.shownAll xs)).length ≤ sizeLine)
    (hQ : ∀ h' u tk, (∀ b o, s.heap.get? b = some o → h'.get? b = some o) → Q (.str (listText (PyData.shownAll xs)) u) { s with heap := h', toks := tk }) :
    wpAny (model prog w) A (call (.builtin "repr") [.ref a]) Q E s := by
  obtain ⟨bs, hb, hk⟩ := ReprAllK.of_readsAll (prog := prog) (w := w) h4 hs hsm (fun t ht => Nat.le_trans (listText_mem_le ht) hsz)
  have hna : a ∉ bs :=
    not_mem_of_deeper (.list h1 h2 h3 h4) (by simp only [PyData.depth]; omega) hb
  simp only [PyData.depth] at hu
  refine call_repr_slot (A := A) (by omega) (idr := "list.__repr__") (T := "list") (show s.TypeIs (.ref a) "list" from ⟨o, h1, h2⟩) F.slot_list_repr.toG ?_
  have hu1 : A.in1.units = A.units + 1 := rfl
  obtain ⟨l⟩ := vs
  cases l with
  | nil =>
    have h4' : ReadsAll s.heap [] xs as := h4
    cases h4'
    have ht := hQ s.heap
    rw [show listText (PyData.shownAll []) = ("[]" : Str) by simp only [PyData.shownAll]; exact listText_nil] at ht
    exact call_list_repr_empty ⟨o, h1, h2⟩ h1 h3 ⟨_, _, rfl, ht _ _ fun _ _ e => e⟩
  | cons x l =>
    refine call_list_reprK h1 h2 h3 hna (by simpa using hk.length_eq) (fun i y e => hk.item i y (by simpa using e)) (by exact hg) (fun b _ => Clear.nil b) (by rw [hu1]; omega) (fun _ _ e => e) (fun h' u tk k => ⟨_, _, rfl, hQ h' u tk k⟩) hsz
/-- repr(xs), xs a list of data -/
def rRepr (K : PySem.W.Frag) : List V → Hp → VK → Prop := fun vs H Q => ∃ (a : Addr) (xs : List V) (ds : List PyData), vs = [.ref a] ∧ H a = some (.lst xs) ∧ RpAll K H xs ds ∧ PyData.showableAll ds = true ∧ (PyData.hasDictAll ds = true → okSAll ds = true) ∧
  (PyData.list ds).depth ≤ 20 ∧ 3 + massAll ds ≤ sizeLine ∧ Q (.str (listText (PyData.shownAll ds))) H
theorem call_repr {X : Cx} (hg : X.A.guards = some []) (hu : X.A.units + 64 < cLine) : CallR X (.builtin "repr") (rRepr X.K) := by
  intro pins s σ H xs us Q I r h
  obtain ⟨a, ys, ds, rfl, ha, hr, hs, hd, hp, hm, q⟩ := h
  obtain rfl := Vals.ref1 r
  obtain ⟨its, rv, ⟨o, n, ho, hc, _, hdt⟩, _⟩ := I.list (.of ha)
  obtain ⟨as, q1, z1⟩ := rp_readsAll I ds _ its hr rv
  have hz := Nat.le_trans (list_text_le _) (Nat.le_trans (Nat.add_le_add_left (shown_all_le ds hs) 3) hm)
  exact repr_top ho hc hdt q1 hs (fun z => z1 (hd z)) hg (by omega) hz fun h' u tk k => ⟨.str _, H, I.kept k, ⟨u, rfl⟩, q⟩
end G
set_option Elab.async false
set_option linter.all false
set_option maxRecDepth 100000
set_option maxHeartbeats 2000000
/-! G2: a def that runs where no guard is under way, and the law's own call. -/
namespace G
open PySem PySem.Spec PyProof.Rows L2
/-- as FnOk, of arounds without guards -/
structure FnG (P : Program) (w : World) (K : PySem.W.Frag) (mg : Str → Option Value) (base : Heap) (CX : CXT) (k : Nat) (f : Addr) (fd : FuncData) (ps : List Str) (sp : Sp) : Prop where
  size : ∀ vs H Q E, sp vs H Q E → vs.length = ps.length
  go : ∀ (A : Around) (outer : List Env) (s : Shared) (H : Hp) (args : Args) (us : List Value) (vs : List V) (Q : VK) (E : XK),
    A.guards = some [] → Room k A → Env0 P w K mg base A outer s H → BindsTo s fd args (ps.zip us) → Vals vs us → sp vs H Q E → codeAny (model P w) A (.call (.ref f) args) (CR CX outer P w H s Q E) s
section
variable {P : Program} {w : World} {K : PySem.W.Frag} {mg : Str → Option Value} {base : Heap} {CX : CXT}
theorem FnG.of_body {x qual : Str} {st : Stmt} {f : Addr} {fd : FuncData} {N ps : List Str} {k : Nat} {sp : Sp} (F : Fun K x qual st f fd) (S : FnScope N ps (defScope st))
    (size : ∀ vs H Q E, sp vs H Q E → vs.length = ps.length)
    (body : ∀ (cdv : Value) (A : Around) (outer : List Env) (s : Shared) (H : Hp) (vs : List V) (Q : VK) (E : XK), A.guards = some [] →
      Room k (A.deeper (envOfC qual (defScope st) s.heap.objs.size f cdv)) → sp vs H Q E →
      ∃ t, PSs (cxOf CX P w K mg base N qual (defScope st) f cdv A outer s H E).nox (defBody st) t ∧ t { nx := fun _ H' => Q .non H', rt := Q } (start N vs) H) :
    FnG P w K mg base CX (k + 1) f fd ps sp := by
  obtain ⟨_, _, _, _, _, _, cdv, _, _, rfl, lk, hcd⟩ := F.ex
  refine ⟨size, fun A outer s H args us vs Q E hg hr e0 hb r h => ?_⟩
  have inS : K.In s.heap := e0.mod.kin.keeps fun b o e => (e0.bs b o e).1
  have noL : s.heap.NoLimit := e0.mod.nolimit.keeps fun b o e => (e0.bs b o e).1
  refine codeAny_call_function hr.depth (inS _ _ lk) rfl S.co S.gen rfl
    (PySem.W.codeRec_of inS hcd) (hb _ _ _ _ ?_)
  refine wpAny_newFunctionEnv_cells S.kind
    (fun ⟨n, v⟩ hy => ?_) fun env he s1 x => ?_
  · rcases S.par n (List.of_mem_zip hy).1 with q | q
    · exact Or.inl q
    · exact Or.inr ⟨q, PySem.W.cellsFrom_some _ _ _ (Or.inl q)⟩
  · subst he
    refine ⟨noL.keeps x.toInCall.keep, codeAny_func ?_⟩
    obtain ⟨t, ht, hq⟩ := body cdv A outer s H vs Q E hg (hr.deeper _) h
    have J := inv_start (CX := CX) (P := P) (w := w) (K := K) (mg := mg) (base := base) (E := E) S hr.hd e0 (size _ _ _ _ h) r x
    refine wpAny_mono (ht.nox.run [] s1 (start N vs) H _ J hq) (fun fl s' z => ?_) fun e s' z => z
    cases fl with
    | ret u =>
      obtain ⟨v, σ', H', J', rv, q⟩ := z
      exact ⟨v, H', J'.os, J'.bare, J'.base, J'.hok, rv, q⟩
    | next =>
      obtain ⟨σ', H', J', q⟩ := z
      exact ⟨.non, H', J'.os, J'.bare, J'.base, J'.hok, rfl, q⟩
    | brk =>
      obtain ⟨_, _, _, q⟩ := z
      exact q.elim
    | cont =>
      obtain ⟨_, _, _, q⟩ := z
      exact q.elim
end
section
variable {X : Cx} {CX : CXT} {k : Nat} {f : Addr} {fd : FuncData} {ps : List Str} {sp : Sp} {dvs : List V} {ds : List Value} {E : XK} {x : Str} {p pos : Pos} {e : Expr} {es : List Expr} {t : TA}
theorem FnG.run {pins : List (Addr × Obj)} {σ : L2.St} {H : Hp} {s : Shared} {Q : VK} {us : List Value} {vs : List V} (F : FnG X.prog X.w X.K X.mg X.base CX k f fd ps sp) (hg : X.A.guards = some []) (hr : Room k X.A) (hb : Binds X.K fd ps ds) (hd : Vals dvs ds)
    (hx : Passes CX X E) (I : Inv X pins σ H s) (r : Vals vs us) (h : sp (vs ++ dvs) H Q E) : wpAny (model X.prog X.w) X.A (call (.ref f) us) (EP X pins σ Q) X.xe s := by
  have both := r.append hd
  have size : (us ++ ds).length = ps.length := both.length.symm.trans (F.size _ _ _ _ h)
  refine wpAny_call (codeAny_mono (F.go X.A X.stack s H ⟨us, []⟩ (us ++ ds) (vs ++ dvs) Q E hg hr I.env0 (hb s us I.kIn size) both h) fun q s' z => ?_)
  match q, z with
  | .error er, z => exact hx pins σ H s er s' I z
  | .ok (.ret u), z => exact I.after z
/-- f(e, ..) -/
theorem pe_callG (F : FnG X.prog X.w X.K X.mg X.base CX k f fd ps sp) (hg : X.A.guards = some []) (hr : Room k X.A) (gl : Gl X x) (hm : X.mg x = some (.ref f)) (hk : PySem.W.keepIn X.K (.ref f) = true) (hb : Binds X.K fd ps ds) (hd : Vals dvs ds)
    (hx : Passes CX X E) (ha : PA X (e :: es) t) (hdb : (x == ("__debug__" : Str)) = false := by decide)
    (he : starEach (e :: es) X.env = (false, eval e X.env) :: starEach es X.env := by rfl) (hpl : (backTo pos (starEach es X.env)).any (·.1) = false := by rfl) : PE X (.Call (.Name x p) (e :: es) [] pos) (tCall sp dvs E t) := by
  constructor
  intro pins s σ H Q I h
  refine wpAny_Call_Name_kw (ld_glob I gl hm ?_ hdb)
  exact PySem.W.callWith_K (h₀ := X.base) I.ok.mod.kin hk
    (thn (ha.run pos pins s σ H _ I h) fun us s1 ⟨vs, H1, I1, r, q⟩ => ⟨I1.kIn, F.run hg hr hb hd hx I1 r q⟩) he hpl
end
/-- True comes out, what stood stands, nothing went in or out -/
def Fine (s : Shared) (r : Result) (s' : Shared) : Prop :=
  r = .ok (.ret (.bool true)) ∧ OldK s.heap s'.heap ∧ s'.os = s.os ∧ AllBare s'.gens
/-- the law's call, from the state that the top leaves -/
theorem law_go {P : Program} {w : World} {K : PySem.W.Frag} {mg mb : Str → Option Value} {k : Nat} {fa a : Addr} {fd : FuncData} {x : Str} {sp : Sp} {s₁ : Shared} {vs : List Value} {ns : List Int}
    (inK : K.In s₁.heap) (gl : s₁.heap.Ns mainGlobals mg)
    (bl : s₁.heap.Ns builtinsNs mb) (boot : ∀ y : Str, y ≠ "__name__" → mb y = bootBuiltins y)
    (lim : s₁.heap.NoLimit) (noG : s₁.gens = #[])
    (script : s₁.heap.get? a = some { cls := .type "list", data := .seq vs.toArray })
    (allInt : IntsAre vs ns) (few : ns.length ≤ sizeLine) (hr : Room k callerA)
    (F : ∀ base : Heap, K.In base → base.Ns mainGlobals mg → FnG P w K mg base CX0 k fa fd [x] sp) (hbind : ∀ (s : Shared) (u : Value), BindsTo s fd ⟨[u], []⟩ [(x, u)])
    (hsp : ∀ H : Hp, Only H → SqL K H a (ns.map V.int) → sp [.ref a] H (fun v _ => v = .bl true) fun _ _ _ => False) :
    codeAny (model P w) callerA (.call (.ref fa) ⟨[.ref a], []⟩)
      (Fine s₁) s₁ := by
  -- nothing but the script is tracked; if the written part holds the script, nothing at all
  have main : ∀ H : Hp, Only H → SqL K H a (ns.map V.int) → HOk P w H s₁.heap → (∀ b, H b ≠ none → b = a ∧ K.lookup a = none) →
      codeAny (model P w) callerA (.call (.ref fa) ⟨[.ref a], []⟩)
      (Fine s₁) s₁ := by
    intro H hO hS hok hA
    have nsK : ∀ {b : Addr} {m : Str → Option Value}, s₁.heap.Ns b m → (hidT s₁.heap H).Ns b m := by
      rintro b m ⟨o, es, ep, e, d, r⟩
      refine ⟨o, es, ep, hidT_get e ?_, d, r⟩
      cases q : H b with
      | none => rfl
      | some u =>
        exfalso
        have eb := (hA b (by rw [q]; simp)).1
        rw [eb, script] at e
        rw [← Option.some.inj e] at d
        cases d
    have inB : K.In (hidT s₁.heap H) := fun b o e => hidT_get (inK b o e) (by
      cases q : H b with
      | none => rfl
      | some u =>
        exfalso
        obtain ⟨e1, e2⟩ := hA b (by rw [q]; simp)
        rw [e1, e2] at e
        cases e)
    obtain ⟨mc, l1, l2⟩ := lim
    have hM : Mod K mg (hidT s₁.heap H) := ⟨inB, nsK gl, ⟨mb, nsK bl, boot⟩, ⟨mc, nsK l1, l2⟩⟩
    have e0 : Env0 P w K mg (hidT s₁.heap H) callerA [] s₁ H := ⟨rfl, hM, fun b o e => of_hidT e, Nat.le_of_eq (hidT_size _ _), trivial, fun b z => absurd (show b ∈ ([] : List Addr) from z) (by simp), hok, .of_eq noG⟩
    have run := (F _ inB (nsK gl)).go callerA [] s₁ H ⟨[.ref a], []⟩ [.ref a] [.ref a] _ _ rfl hr e0 (hbind s₁ (.ref a)) (.cons rfl .nil) (hsp H hO hS)
    refine codeAny_mono run fun r s' h => ?_
    match r, h with
    | .ok (.ret u), h =>
      obtain ⟨v, H', os, bare, un, hok', r', q⟩ := h
      obtain rfl : v = .bl true := q
      obtain rfl : u = Value.bool true := r'
      refine ⟨rfl, OldK.of_keep fun b o e => ?_, os, bare⟩
      rcases hO b with z | ⟨ob, xs, z⟩
      · exact un.keep b o e z (fun z => absurd (show b ∈ ([] : List Addr) from z) (by simp)) (by simp)
      · obtain ⟨e1, _⟩ := hok b _ z
        obtain ⟨e2, _⟩ := hok' b _ (un.frzs b ob _ z)
        rw [e] at e1
        cases e1
        exact e2
  cases hk : K.lookup a with
  | some o =>
    have e := inK a o hk
    rw [script] at e
    cases e
    refine main (fun _ => none) (fun _ => .inl rfl) (.inr ⟨_, vs.toArray, _, hk, rfl, rfl, rfl, ?_, ?_⟩) (fun b u z => nomatch z) fun b z => absurd rfl z
    · rw [List.size_toArray, allInt.length]
      exact few
    · simpa using vals_ints allInt
  | none =>
    let o : Obj := { cls := .type "list", data := .seq vs.toArray }
    let T : HO := .frz o (.lst (ns.map V.int))
    have at_a : upd (fun _ => none) a T a = some T := upd_same
    refine main (upd (fun _ => none) a T) (fun b => ?_) (.inl (.inr ⟨o, at_a⟩)) (fun b u z => ?_) fun b z => ?_
    · by_cases h : b = a
      · exact .inr ⟨o, _, by rw [h]; exact at_a⟩
      · exact .inl (upd_ne h)
    · by_cases h : b = a
      · subst h
        rw [at_a] at z
        cases z
        exact ⟨script, by rw [List.length_map]; exact few, vs, _, vals_ints allInt, script⟩
      · rw [upd_ne h] at z
        cases z
    · by_cases h : b = a
      · exact ⟨h, hk⟩
      · exact absurd (upd_ne h) z
/-- what k_head leaves, by the law's promise -/
theorem walk_go {l : PySem.W.OpenLaw} {n k : Nat} {q : Program} {loose : List Str} {XP : (Str → Option Value) → Heap → Prop} {YP : World → Heap → Prop} {d : DefRec} {K : Params → PySem.W.Frag} {sp : PySem.W.Frag → Sp} {x : Str}
    (most : l.most = some n) (few : n ≤ sizeLine)
    (nodf : d.params.defaults = []) (hr : Room k callerA)
    (hY : ∀ (w : World) (h : Heap), YP w h → (K w.params).In h)
    (F : ∀ (w : World) (mg : Str → Option Value) (fa : Addr) (h : Heap),
      (K w.params).In h → h.Ns mainGlobals mg → mg d.name = some (.ref fa) →
      ∃ fd : FuncData, (∀ (s : Shared) (u : Value), BindsTo s fd ⟨[u], []⟩ [(x, u)]) ∧ ∀ base : Heap, (K w.params).In base → base.Ns mainGlobals mg → FnG l.prog w (K w.params) mg base CX0 k fa fd [x] (sp (K w.params)))
    (hsp : ∀ (K : PySem.W.Frag) (H : Hp) (a : Addr) (ns : List Int), ns.length ≤ n → Only H → SqL K H a (ns.map V.int) → sp K [.ref a] H (fun v _ => v = .bl true) fun _ _ _ => False) :
    PySem.W.WalkO q loose XP YP l.row.toRowW d []
      (fun f vs => PySem.call f vs) := by
  refine Att.attach_call most nodf
    fun w _ s₁ mg mb fa _ _ _ _ a vs ns top Y _ _ _ atF obj allInt len noG => ?_
  have inK := hY w _ Y
  obtain ⟨fd, binds, keeps⟩ := F w mg fa _ inK top.T.g atF
  exact law_go inK top.T.g top.T.b top.T.builtins top.T.nolimit noG obj allInt (Nat.le_trans len few) hr keeps binds
    fun H hO hS => hsp _ H a ns len hO hS
end G
set_option Elab.async false
set_option linter.all false
set_option maxRecDepth 100000
set_option maxHeartbeats 2000000
/-! G7: a try whose first clause, with a name, takes whatever the body raises; further clauses stand behind it. -/
namespace G
open PySem PySem.Spec PyProof.Rows L2
/-- the wish of the body: an exception of the class c, and the suite from it on -/
def wFirst (K : PySem.W.Frag) (c : Value) (i : Nat) (ts : Addr → Value → Option Addr → TS) (D : Ends) : WX := fun cls d σ H =>
  PySem.W.exmOne K cls c = some true ∧ ∀ a, H a = none →
    ts a cls d ⟨fun σ' H' => D.nx (σ'.set i none) H', D.rt, fun σ' H' => D.bk (σ'.set i none) H', fun σ' H' => D.ct (σ'.set i none) H'⟩ (σ.set i (some (.ref a))) H
section
variable {X : Cx} {x n : Str} {c : Value} {i : Nat} {body suite : List Stmt} {b₀ : Stmt} {np pos pos' : Pos} {tb : WX → TS} {ts : Addr → Value → Option Addr → TS} {more : List ExceptHandler}
theorem ps_try_first (hs : X.stack = X.env :: X.outer) (hf : X.env.frame = some X.env.locals) (hN : X.N.Nodup) (hi : X.N[i]? = some n) (hln : X.env.kindOf n = some .local) (hc : Names X x c)
    (hb : ∀ (W : WX) (pn : List (Addr × Obj)) (xe : Value → Shared → Prop),
      Takes (X.tr pn xe) W → PassesOwn (model X.prog X.w) X.A X.env xe → PSs (X.tr pn xe) body (tb W))
    (hsu : ∀ (a : Addr) (oe : Obj) (cls : Value) (d : Option Addr) (pn : List (Addr × Obj)),
      Zc cls d oe → (∃ vs, oe.data = .fields vs) → PSs (X.suite a ((a, oe) :: pn)) (b₀ :: suite) (ts a cls d)) :
    PS X (.Try body (.ExceptHandler (some (.Name x np)) (some n) (b₀ :: suite) pos' :: more) [] [] pos) (fun D σ H => tb (wFirst X.K c i ts D) D σ H) := by
  constructor
  intro pins s σ H D I h
  have ok := I.ok
  have frames : X.A.frames = some (X.env :: X.outer) := ok.frames.trans (congrArg some hs)
  refine wpAny_Try_except ?_
  let catching : Value → Shared → Prop := fun e s₁ =>
    wpAny (model X.prog X.w) X.A (noteFrame e X.env)
      (fun _ s₂ => wpAny (model X.prog X.w) X.A (setFlight e none)
        (fun _ s₃ => wpAny (model X.prog X.w) X.A (handleBy e X.env (.ExceptHandler (some (.Name x np)) (some n) (b₀ :: suite) pos' :: more)) (SP X pins D) X.xe s₃) X.xe s₂) X.xe s₁
  have caught : Takes (X.tr (X.pn ++ pins) catching) (wFirst X.K c i ts D) := by
    intro u s' xx
    obtain ⟨a, B, sI, pins', σ', H', cls, d, rfl, J', nb, up, sky, na, os, ag, hit, hyes⟩ := xx
    have J : Inv X pins σ' H' sI := J'.ofTry ok
    have sky2 : Sky B (X.env :: X.outer) a (Zc cls d) X.env.locals s'.heap := hs ▸ sky
    show wpAny (model X.prog X.w) X.A (noteFrame (.ref a) X.env) _ _ _
    refine Sky.land Zc.steady frames hf sky2 fun h3 fl3 up3 => ?_
    have J3 := J.landed (s' := { s' with heap := h3 }) nb fl3.1 (up.trans up3) os ag
    obtain ⟨oe3, vs3, he3, hz3, hd3⟩ := fl3.there
    -- the exception is no frame
    have nfr : a ∉ frs (X.env :: X.outer) := by
      intro hm
      obtain ⟨_, o', e', hnf⟩ := fl3.2.2.1.mem hm
      rw [he3] at e'
      cases e'
      exact hnf _ hd3
    have nL : a ≠ X.env.locals := by
      intro z
      exact nfr (List.mem_filterMap.mpr ⟨X.env, List.mem_cons_self, hf.trans (congrArg some z.symm)⟩)
    have nF : a ∉ X.fs := by
      intro hm
      obtain ⟨e, he, q⟩ := List.mem_filterMap.mp hm
      exact nfr (List.mem_filterMap.mpr ⟨e, List.mem_cons_of_mem _ he, q⟩)
    have S3 := J3.suite he3 hd3 na nL nF
    refine wpAny_handleBy_cons (codeAny_handlers_test ?_) (by intro q; cases q)
    have LT : PySem.W.Looks (model X.prog X.w) h3 (typeOf (.ref a)) cls := by
      intro A Q E s k q
      exact wpAny_typeOf_ref (k _ _ he3) (by rw [hz3.1]; exact q)
    have LM := PySem.W.exm_one (M := model X.prog X.w) (J3.kIn) LT hit
    have test : ∀ {Q : Value → Shared → Prop} {E : Value → Shared → Prop}, Q c { s' with heap := h3 } →
        wpAny (model X.prog X.w) (X.A.mark (some (.ref a))) (eval (.Name x np) X.env) Q E { s' with heap := h3 } := by
      intro Q E q
      rcases hc with ⟨hg, hdbg, hm | ⟨hm, hv, hnn⟩⟩
      · exact ld_glob (X := X.suite a ((a, oe3) :: (X.pn ++ pins))) S3 hg hm q hdbg
      · exact ld_blt (X := X.suite a ((a, oe3) :: (X.pn ++ pins))) S3 hg hm hv q hnn hdbg
    refine test (LM.here ?_)
    refine codeAny_handlers_suite_as ?_
    refine HandSPX.lands_againZ fl3 fun h4 fl4 up4 => ?_
    have J4 := J.landed (s' := { s' with heap := h4 }) nb fl4.1 ((up.trans up3).trans up4) os ag
    obtain ⟨oe4, vs4, he4, hz4, hd4⟩ := fl4.there
    have S4 := J4.suite he4 hd4 na nL nF
    refine store_ok (X := X.suite a ((a, oe4) :: (X.pn ++ pins))) (v := .ref a) S4 hN hi (.inl hln) rfl (fun s5 S5 => ?_) (.inr hln)
    refine wpAny_mono ((hsu a oe4 cls d (X.pn ++ pins) hz4 ⟨_, hd4⟩).run [] s5 _ H' _ S5 (hyes a na)) (fun f s6 z => ?_) fun _ _ z => False.elim z
    have away : ∀ {σ6 : L2.St} {H6 : Hp} {Q : Shared → Prop}, Inv (X.suite a ((a, oe4) :: (X.pn ++ pins))) [] σ6 H6 s6 → (∀ s7, Inv X pins (σ6.set i none) H6 s7 → Q s7) →
        wpAny (model X.prog X.w) X.A (do bindName X.env n .none; unbindBehindTheSuite X.env n pos') (fun _ s7 => Q s7) X.xe s6 := by
      intro σ6 H6 Q S6 hq
      exact gone_ok (S6.unsuite ok) hN hi hln hq
    match f, z with
    | .next, ⟨_, _, S6, q6⟩ => exact away S6 fun s7 J7 => ⟨_, _, J7, q6⟩
    | .brk, ⟨_, _, S6, q6⟩ => exact away S6 fun s7 J7 => ⟨_, _, J7, q6⟩
    | .cont, ⟨_, _, S6, q6⟩ => exact away S6 fun s7 J7 => ⟨_, _, J7, q6⟩
    | .ret u, ⟨_, _, _, S6, r6, q6⟩ => exact away S6 fun s7 J7 => ⟨_, _, _, J7, r6, q6⟩
  refine wpAny_mono ((hb (wFirst X.K c i ts D) (X.pn ++ pins) catching caught PassesOwn.looking).run [] s σ H D (I.toTry _) h) (fun f s1 z => ?_) fun e s1 he => he
  match f, z with
  | .next, ⟨σ', H', J, q⟩ => exact wpAny_execs_nil ⟨σ', H', J.ofTry ok, q⟩
  | .brk, ⟨σ', H', J, q⟩ => exact ⟨σ', H', J.ofTry ok, q⟩
  | .cont, ⟨σ', H', J, q⟩ => exact ⟨σ', H', J.ofTry ok, q⟩
  | .ret u, ⟨v, σ', H', J, r, q⟩ => exact ⟨v, σ', H', J.ofTry ok, r, q⟩
end
end G
set_option Elab.async false
set_option linter.all false
set_option maxRecDepth 100000
set_option maxHeartbeats 2000000
/-! U1: a method that says super().__init__(..): its own activation is known while it runs. -/
namespace G
open PySem PySem.Spec PyProof.Rows L2 NdefX

/-- one statement, of a body whose activation is on top -/
structure PSa (X : Cx) (body : List Stmt) (st : Stmt) (t : TS) : Prop where
  run : ∀ (pins : List (Addr × Obj)) (s : Shared) (σ : L2.St) (H : Hp) (D : Ends), Inv X pins σ H s → t D σ H → _root_.PySem.wpAt (model X.prog X.w) X.A (.func body X.env) (exec st X.env) (SP X pins D) X.xe s
/-- .. several -/
structure PSsa (X : Cx) (body : List Stmt) (st : List Stmt) (t : TS) : Prop where
  run : ∀ (pins : List (Addr × Obj)) (s : Shared) (σ : L2.St) (H : Hp) (D : Ends), Inv X pins σ H s → t D σ H → _root_.PySem.wpAt (model X.prog X.w) X.A (.func body X.env) (execs st X.env) (SP X pins D) X.xe s
section
variable {X : Cx} {body rest : List Stmt} {st : Stmt} {t u : TS}
theorem psa (h : PS X st t) : PSa X body st t := ⟨fun pins s σ H D I q => wpAt_of_wpAny (h.run pins s σ H D I q)⟩
theorem pssa {sts : List Stmt} (h : PSs X sts t) : PSsa X body sts t := ⟨fun pins s σ H D I q => wpAt_of_wpAny (h.run pins s σ H D I q)⟩
theorem pssa_cons (h1 : PSa X body st t) (h2 : PSsa X body rest u) : PSsa X body (st :: rest) (tSeq t u) := by
  refine ⟨fun pins s σ H D I h => ks_wpAt_execs_cons (ks_wpAt_mono (h1.run pins s σ H { D with nx := u D } I h) (fun f s1 q => ?_) fun _ _ z => z)⟩
  cases f with
  | next =>
    obtain ⟨σ', H', I', q⟩ := q
    exact h2.run pins s1 σ' H' D I' q
  | ret v => exact q
  | brk => exact q
  | cont => exact q
end

/-- what of the text the words super().__init__ rest on, said in the def at f, of the class at D, to an instance of the class at C; f2: the __init__ found -/
structure SupOf (P : Program) (K : PySem.W.Frag) (f cda cc D C f2 : Addr) (x : Str) : Prop where
  fn : ∃ oc od fd sl ar, K.lookup f = some ⟨oc, od, .func fd, sl⟩ ∧ (fd.params.posonlyargs ++ fd.params.args).head? = some ar ∧ ar.arg = x
  code : ∃ oc od vs sl file tf, K.lookup cda = some ⟨oc, od, .fields vs, sl⟩ ∧ vs[2]? = some (.str file tf) ∧ ((P.main.file : Str) == file) = true
  cell : ∃ oc od sl, K.lookup cc = some ⟨oc, od, .cell (some (.ref D)), sl⟩
  isc : ∃ cd, PySem.W.clsIn K D = some cd
  isC : ∃ cd, PySem.W.clsIn K C = some cd
  sub : PySem.W.mroIn K C (.ref D) = some true
  thd : PySem.W.nsIn K cStatics "thirdparty.any" = some none
  sup : PySem.W.ks_superIn K C D "__init__" = some (some (.ref f2))
  ty : PySem.W.typeIn K (.ref f2) = some (.type "function")
  fi : PySem.W.fnIn K f2 = true
  top : (P.main.scope.names.lookup ("super" : Str)).isSome = false

/-- super().__init__(..), the instance in the slot i -/
def tSup (i : Nat) (C : Addr) (sp : Sp) (E : XK) (t : TA) : TS := fun D σ H => ∃ a dx fs, σ[i]? = some (some (.ref a)) ∧ H a = some (.ins C dx fs) ∧
  t σ H fun vs H1 => sp (.ref a :: vs) H1 (fun _ H2 => D.nx σ H2) E

section
variable {X : Cx} {CX : CXT} {k i : Nat} {f cda cc D C f2 : Addr} {x : Str} {sp : Sp} {E : XK} {body : List Stmt} {e : Expr} {es : List Expr} {t : TA} {p0 p1 apos pos spos : Pos} {pl : Sem Bool}
theorem cls_at {h : Heap} {K : PySem.W.Frag} {D : Addr} {cd : ClassData} (I : K.In h) (hD : PySem.W.clsIn K D = some cd) : ∃ o, h.get? D = some o ∧ o.data = .cls cd := by
  unfold PySem.W.clsIn at hD
  split at hD
  · rename_i c d cd' sl ho
    cases hD
    exact ⟨_, I _ _ ho, rfl⟩
  · cases hD
/-- the object super() -/
theorem super_base {pins : List (Addr × Obj)} {s : Shared} {σ : L2.St} {H : Hp} {whole : Sem Value} {a dx : Addr} {fs : List (Str × V)} {Q : Value → Shared → Prop}
    (I : Inv X pins σ H s) (S : SupOf X.prog X.K f cda cc D C f2 x) (hfu : X.env.func = some f) (hco : X.env.code = .ref cda) (hcl : X.env.cells.lookup ("__class__" : Str) = some cc)
    (hks : X.env.kindOf "super" = some .globalImplicit) (hkc : X.env.kindOf "__class__" = some .free) (hkx : X.env.kindOf x = some .local) (hm : X.mg "super" = none) (hN : X.N[i]? = some x)
    (hs : σ[i]? = some (some (.ref a))) (ha : H a = some (.ins C dx fs))
    (h : ∀ s', Inv X pins σ H s' → s'.heap.get? s.heap.objs.size = some { cls := .type "super", dict := none, data := .fields #[.ref D, .ref a, .ref C], slots := #[] } → Q (.ref s.heap.objs.size) s') :
    _root_.PySem.wpAt (model X.prog X.w) X.A (.func body X.env) (attributeBase (.Call (.Name "super" p0) [] [] p1) "__init__" X.env whole) Q X.xe s := by
  obtain ⟨oc, od, fd, sl, ar, lk, hp, hx⟩ := S.fn
  obtain ⟨oc2, od2, vs, sl2, file, tf, lk2, hv, hfile⟩ := S.code
  obtain ⟨oc3, od3, sl3, lk3⟩ := S.cell
  obtain ⟨cdD, hD⟩ := S.isc
  have inK := I.kIn
  obtain ⟨oD, hD1, hD2⟩ := cls_at inK hD
  obtain ⟨mb, b1, b2⟩ := I.mod.blt
  obtain ⟨m, hn, hl⟩ := I.loc
  obtain ⟨u, ru, hlook⟩ := hl i x _ hN hs (.inl hkx)
  obtain rfl : u = Value.ref a := ru
  have hmx : m x = some (.ref a) := by
    rcases hlook with ⟨_, z⟩ | ⟨z, _⟩
    · exact z
    · rw [hkx] at z
      rcases z with z | z <;> cases z
  have hob : s.heap.get? a = some (PySem.W.instObj C dx) := (show ObjOk X.prog X.w H s.heap a (.ins C dx fs) from I.hok a _ ha).2.2.2.1
  refine ks_wpAt_super_base hks hkc (by decide) hfu (inK _ _ lk) rfl hp hco (inK _ _ lk2) rfl hv hfile S.top ?_
  refine PySem.W.ks_loadName_global I.ok.kind hks (Calls.loadGlobal_builtin (by rw [I.ok.glob]; exact I.mod.glob.keeps I.bk) hm (by rw [I.ok.blt]; exact b1.keeps I.bk) ((b2 "super" (by decide)).trans (by first | rfl | decide +kernel)) ⟨rfl, ?_⟩)
  refine wpAny_loadName_free I.ok.kind hkc hcl ⟨_, inK _ _ lk3, rfl⟩ ?_
  rw [hx]
  refine wpAny_loadName_local I.ok.kind hkx hn hmx ?_
  obtain ⟨hh, g, d, tk, os⟩ := s
  refine ks_wpAny_isType_cls hD1 hD2 ⟨rfl, ?_⟩
  refine ks_wpAny_call_super hD1 hD2 hob rfl (fun c z => nomatch z) (PySem.W.looks_mroIn inK S.sub) fun h' e1 kp => ?_
  exact h _ (I.kept (t' := tk) kp) e1
/-- super().__init__(e, ..) -/
theorem psa_super (S : SupOf X.prog X.K f cda cc D C f2 x) (F : FnR X.prog X.w X.K X.mg X.base CX k f2 sp) (hr : Room k X.A) (hx : Passes CX X E) (hfu : X.env.func = some f) (hco : X.env.code = .ref cda) (hcl : X.env.cells.lookup ("__class__" : Str) = some cc)
    (hks : X.env.kindOf "super" = some .globalImplicit) (hkc : X.env.kindOf "__class__" = some .free) (hkx : X.env.kindOf x = some .local) (hm : X.mg "super" = none) (hN : X.N[i]? = some x) (ha : PA X (e :: es) t)
    (hst : starEach (e :: es) X.env = (false, eval e X.env) :: starEach es X.env := by rfl) (hpl : (backTo pos (starEach es X.env)).any (·.1) = false := by rfl)
    (ht : eval (.Call (.Attribute (.Call (.Name "super" p0) [] [] p1) "__init__" apos) (e :: es) [] pos) X.env = (do
      let ov ← attributeBase (.Call (.Name "super" p0) [] [] p1) "__init__" X.env (eval (.Call (.Name "super" p0) [] [] p1) X.env)
      standAt apos.atName
      let (f, first) ← holding [ov] (getMethod ov "__init__" pl)
      callWith pos f first (backTo pos (starEach (e :: es) X.env)) []) := by rfl)
    (hw : swapsWith (.Call (.Attribute (.Call (.Name "super" p0) [] [] p1) "__init__" apos) (e :: es) [] pos) none spos.line X.env = pure false := by rfl) :
    PSa X body (.Expr (.Call (.Attribute (.Call (.Name "super" p0) [] [] p1) "__init__" apos) (e :: es) [] pos) spos) (tSup i C sp E t) := by
  refine ⟨fun pins s σ H Dn I h => ?_⟩
  obtain ⟨a, dx, fs, h1, h2, q⟩ := h
  refine ks_wpAt_Expr_any (ks_wpAt_MethodCall (pl := pl) (super_base I S hfu hco hcl hks hkc hkx hm hN h1 h2 fun s1 I1 hso => ?_) ht) I.quiet hw
  obtain ⟨cdC, hC⟩ := S.isC
  have inK := I1.kIn
  have hob : s1.heap.get? a = some (PySem.W.instObj C dx) := (show ObjOk X.prog X.w H s1.heap a (.ins C dx fs) from I1.hok a _ h2).2.2.2.1
  obtain ⟨oC, hC1, hC2⟩ := cls_at inK hC
  have hne : a ≠ C := fun z => by
    rw [z, hC1] at hob
    rw [Option.some.inj hob] at hC2
    cases hC2
  obtain ⟨of, hof, hofc⟩ : ∃ of, s1.heap.get? f2 = some of ∧ of.cls = .type "function" := by
    have ht' : (X.K.lookup f2).map (·.cls) = some (.type "function") := S.ty
    cases z : X.K.lookup f2 with
    | none =>
      rw [z] at ht'
      cases ht'
    | some of =>
      rw [z] at ht'
      exact ⟨of, inK _ _ z, Option.some.inj ht'⟩
  have hsup := S.sup
  unfold PySem.W.ks_superIn at hsup
  rw [hC] at hsup
  obtain ⟨hh, g, d, tk, os⟩ := s1
  refine ks_wpAny_getMethod_super hso (PySem.W.looks_opaque inK S.thd) (l₀ := cdC.mro) ((PySem.W.looks_clsIn inK hC).andThen .now) rfl inK hsup hof hofc hne (by decide) ?_
  have I2 := ClX.met_new (g := f2) (C := a) I1
  refine ClX.callwith_cm I2 (ClX.base_none I1 (Nat.le_refl _)) S.fi (thn (ha.run pos _ _ σ H _ I2 q) fun us s3 ⟨vs, H3, I3, r3, q3⟩ => ⟨⟨ClX.pin_at I3, I3.kIn⟩, ?_⟩) hst hpl
  refine thn (ClX.run_cm F hr hx I3 r3 q3) fun _ _ y => ?_
  obtain ⟨v, H4, I4, _, q4⟩ := y
  exact ⟨σ, H4, I4, q4⟩
end

/-! ### the method -/
/-- THE RULE: a method that captures __class__ (it says super()), by its body -/
theorem fnx_of {CX : CXT} {P : Program} {w : World} {K : PySem.W.Frag} {mg : Str → Option Value} {base : Heap} {k : Nat} {f cda cc : Addr} {name qual : Str} {params : Arguments} {body : List Stmt} {scope : Scope} {dV kV doc pm ct oc : Value} {an od : Option Addr}
    {osl : Array (Option Value)} {N ps : List Str} {sp : Sp} (lk : K.lookup f = some ⟨oc, od, .func (PySem.W.ksFn name qual params body scope dV kV doc pm an (.ref cda) ct cc), osl⟩) (hcd : PySem.W.codeIn K (.ref cda) qual = true)
    (hcell : ∃ oc od sl v, K.lookup cc = some ⟨oc, od, .cell v, sl⟩) (S : NScope N ps ["__class__"] scope) (len : ∀ vs H Q E, sp vs H Q E → vs.length = ps.length)
    (hbody : ∀ (A : Around) (outer : List Env) (s : Shared) (H : Hp) (vs : List V) (Q : VK) (E : XK), Room k (A.deeper (envF ⟨name, qual, params, body, scope, [("__class__", cc)], cda⟩ f s.heap.objs.size)) → sp vs H Q E →
      ∃ t, PSsa (ncx CX P w K mg base N ⟨name, qual, params, body, scope, [("__class__", cc)], cda⟩ f A outer s H E) body body t ∧ t { nx := fun _ H' => Q .non H', rt := Q } (startF N vs [none]) H) :
    FnOk P w K mg base CX (k + 1) f (PySem.W.ksFn name qual params body scope dV kV doc pm an (.ref cda) ct cc) ps sp := by
  refine ⟨len, fun A outer s H args us vs Q E hr e0 hb r hsp => ?_⟩
  have hl := len _ _ _ _ hsp
  have inK : K.In s.heap := e0.mod.kin.keeps fun b o e => (e0.bs b o e).1
  have lim : s.heap.NoLimit := e0.mod.nolimit.keeps fun b o e => (e0.bs b o e).1
  obtain ⟨oc3, od3, sl3, v3, lk3⟩ := hcell
  have C : CellsAt [(("__class__" : Str), cc)] ["__class__"] [none] s.heap H := by
    have one : ∀ {y : Str} {c : Addr}, List.lookup y [(("__class__" : Str), cc)] = some c → y = "__class__" ∧ c = cc := fun {y c} z => by
      have z2 := PySem.mem_of_lookup z
      rw [List.mem_singleton] at z2
      exact ⟨congrArg Prod.fst z2, congrArg Prod.snd z2⟩
    refine ⟨rfl, fun y c z => ?_, fun y y' c z z' => (one z).1.trans (one z').1.symm, fun i y z => ?_⟩
    · obtain ⟨_, rfl⟩ := one z
      exact ⟨(e0.bs _ _ (e0.mod.kin _ _ lk3)).2, v3, _, inK _ _ lk3, rfl⟩
    · have hy : y = "__class__" := by
        have z2 := List.mem_of_getElem? z
        rw [List.mem_singleton] at z2
        exact z2
      subst hy
      refine ⟨cc, by simp [List.lookup], fun v z => ?_⟩
      cases i with
      | zero => cases z
      | succ j => cases z
  refine codeAny_call_function hr.depth (inK _ _ lk) rfl S.co S.gen rfl (PySem.W.codeRec_of inK hcd) (hb _ _ _ _ ?_)
  refine wpAny_newFunctionEnv S.nocell (fun ⟨n, _⟩ hy => S.par n (List.of_mem_zip hy).1) (fun h₁ hns hsb => ⟨lim.fresh _ hsb, ?_⟩) S.kind
  show codeAny _ _ (.func body (envF ⟨name, qual, params, body, scope, [("__class__", cc)], cda⟩ f s.heap.objs.size)) _ _
  refine ks_codeAny_funcAt ?_
  have kp : ∀ b o, s.heap.get? b = some o → h₁.get? b = some o := fun b o e => hsb.extBut b o (Nat.ne_of_lt (Heap.lt_size e)) (Heap.get?_push_of_some _ e)
  obtain ⟨t, ht, hq⟩ := hbody A outer s H vs Q E (hr.deeper _) hsp
  have I : Inv (ncx CX P w K mg base N ⟨name, qual, params, body, scope, [("__class__", cc)], cda⟩ f A outer s H E) [] (startF N vs [none]) H { s with heap := h₁, toks := s.toks + (ps.zip us).length } := inv_startN S hr.hd e0 hl r C hns kp
  refine ks_wpAt_mono (ht.run [] _ (startF N vs [none]) H _ I hq) (fun fl s' hs => ?_) fun e s' hs => hs
  have fin : ∀ {σ' : L2.St} {H' : Hp} {v : V} {u : Value}, Inv (ncx CX P w K mg base N ⟨name, qual, params, body, scope, [("__class__", cc)], cda⟩ f A outer s H E) [] σ' H' s' → L2.RelV v u → Q v H' → CE outer P w H s Q u s' :=
    fun {σ' H' v u} J rv q => ⟨v, H', J.os, J.bare, J.base, J.hok, rv, q⟩
  cases fl with
  | ret u =>
    obtain ⟨v, σ', H', J, rv, q⟩ := hs
    exact fin J rv q
  | next =>
    obtain ⟨σ', H', J, q⟩ := hs
    exact fin (v := V.non) (u := Value.none) J rfl q
  | brk =>
    obtain ⟨_, _, _, q⟩ := hs
    exact False.elim q
  | cont =>
    obtain ⟨_, _, _, q⟩ := hs
    exact False.elim q
end G
set_option Elab.async false
set_option linter.all false
set_option maxRecDepth 100000
set_option maxHeartbeats 2000000
/-! Q1: == and != by an own __eq__ with both answers, the right side of any kind. -/
namespace G
open PySem PySem.Spec PyProof.Rows L2
open Builtin in
theorem entry_ne {prog : Program} {w : World} {A : Around} {E : Value → Shared → Prop} {s : Shared} {K : PySem.W.Frag} {x C f : Addr} {ox : Obj} {od : Option Obj} {b : Value} {Q : Fin → Shared → Prop}
    (X : K.In s.heap) (I : PySem.W.InstAt s.heap x ox C od) (hu : A.units < cLine) (hs : PySem.W.findIn K (.ref C) "__eq__" = some (some (.ref f))) (hf : PySem.W.isFn K (.ref f) = true)
    (hcall : wpAny (model prog w) A (call (.ref f) [.ref x, b]) (fun v s' => ∃ k, v = .bool k ∧ Q (.done (.ret (.bool (!k)))) s') E s) :
    wpAny (model prog w) A (Builtin.«object.__ne__» ⟨[.ref x, b], []⟩) Q E s := by
  unfold Builtin.«object.__ne__»
  repeat (first
    | with_reducible refine wpAny_cRoomFor hu ?_
    | (refine wpAny_bind (m := callSpecialIfBound? (.ref x) (Str.ofString "__eq__") [b])
        (PySem.W.ifBound_K X I hs hf (wpAny_mono hcall (fun r s' hr => by
          obtain ⟨k, rfl, hq⟩ := hr
          repeat (first | exact hq | exact wpAny_pure hq | exact wpAny_truthy_bool hq | (refine wpAny_bind (m := truthy (.bool _)) (wpAny_truthy_bool ?_)) | wp_step)) fun _ _ e => e)))
    | wp_step)
/-- what == and != ask of the class at C -/
structure EqO (K : PySem.W.Frag) (C f : Addr) : Prop where
  eq : PySem.W.findIn K (.ref C) "__eq__" = some (some (.ref f))
  fn : PySem.W.isFn K (.ref f) = true
  ne : PySem.W.findIn K (.ref C) "__ne__" = some (some (.builtin "object.__ne__"))
  ob : PySem.W.mroIn K C (.type "object") = some true
theorem ne_K {prog : Program} {w : World} {A : Around} {E : Value → Shared → Prop} {s : Shared} {K : PySem.W.Frag} {x C L f : Addr} {h₀ : Heap} {m : Str → Option Value} {ox : Obj} {od : Option Obj} {b tb : Value} {Q : Value → Shared → Prop} (hu : A.units + 1 < cLine) (hFr : Fr h₀ L s.heap m) (X₀ : K.In h₀)
    (I : PySem.W.InstAt s.heap x ox C od) (hb : PySem.W.Looks (model prog w) s.heap (typeOf b) tb) (hn : PySem.W.notFirst K C tb = true) (e : EqO K C f)
    (h : wpAny (model prog w) A.in1 (call (.ref f) [.ref x, b]) (fun v s' => ∃ k, v = .bool k ∧ Q (.bool (!k)) s') E s) : wpAny (model prog w) A (richCompare .NotEq (.ref x) b) Q E s := by
  have X := X₀.keeps hFr.keep
  have sp : PySem.W.Looks (model prog w) s.heap (specialOf (.ref x) "__ne__") (some (.builtin "object.__ne__")) := I.type.andThen (PySem.W.looks_findIn X e.ne)
  have iv : PySem.W.Looks (model prog w) s.heap (isInstance (.ref x) (.type "object")) true := I.type.andThen (PySem.W.looks_mroIn X e.ob)
  have one : wpAny (model prog w) A (tryCompare (.ref x) "__ne__" b) (fun r s' => ∃ v, r = some v ∧ Q v s') E s := by
    unfold tryCompare
    refine wpAny_bind (NtL.csib sp (F.cmp_object.ne.bind _) (wpAny_call (codeAny_call_builtin F.cmp_object.ne.plain F.cmpEntry_ne
      (PySem.W.check_slot F.cmpKind_ne F.cmpSplit_ne iv (F.cmpArgs_ne _ _) (entry_ne (A := A.in1) X I hu e.eq e.fn (wpAny_mono h (fun v s' hv => ?_) fun _ _ z => z))))))
    obtain ⟨k, rfl, hq⟩ := hv
    first | exact ⟨k, rfl, wpAny_pure ⟨_, rfl, hq⟩⟩ | exact ⟨k, rfl, _, rfl, hq⟩
  unfold richCompare
  simp only [oneThing_ref]
  refine wpAny_holding (wpAny_bind (wpAny_cRoomFor (Nat.lt_of_succ_lt hu) ?_))
  rw [cmpInfo_NotEq]
  dsimp only
  refine wpAny_bind (I.type.here (wpAny_bind (hb.here ?_)))
  split
  · rename_i q
    have e : PySem.W.subIn K tb (.ref C) = some false := by
      rcases Bool.or_eq_true_iff.mp hn with e | e
      · rw [beq_iff_eq.mp e] at q; simp at q
      · exact beq_iff_eq.mp e
    refine wpAny_bind ((PySem.W.looks_subIn X e).here ?_)
    simp only [Bool.false_eq_true, if_false]
    refine wpAny_bind (wpAny_mono one (fun r s' z => ?_) fun _ _ e => e)
    obtain ⟨v, rfl, hq⟩ := z
    exact wpAny_pure hq
  · refine wpAny_bind (wpAny_pure ?_)
    simp only [Bool.false_eq_true, if_false]
    refine wpAny_bind (wpAny_mono one (fun r s' z => ?_) fun _ _ e => e)
    obtain ⟨v, rfl, hq⟩ := z
    exact wpAny_pure hq
/-- the kinds of things on the right -/
inductive Oth (H : Hp) : V → Value → Prop where
  | non : Oth H .non (.type "NoneType")
  | int (i : Int) : Oth H (.int i) (.type "int")
  | str (z : Str) : Oth H (.str z) (.type "str")
  | lst {a : Addr} {xs : List V} (e : H a = some (.lst xs)) : Oth H (.ref a) (.type "list")
  | tup {a : Addr} {xs : List V} (e : H a = some (.tup xs)) : Oth H (.ref a) (.type "tuple")
  | ins {a C dx : Addr} {fs : List (Str × V)} (e : H a = some (.ins C dx fs)) : Oth H (.ref a) (.ref C)
  | dic {a : Addr} {ks : List (Key × V)} (e : H a = some (.dK ks)) : Oth H (.ref a) (.type "dict")
theorem insX_at {X : Cx} {pins : List (Addr × Obj)} {σ : L2.St} {H : Hp} {s : Shared} {a C dx : Addr} {fs : List (Str × V)} (I : Inv X pins σ H s) (h : H a = some (.ins C dx fs)) : ∃ ox od, PySem.W.InstAt s.heap a ox C od := by
  obtain ⟨mA, O, _⟩ := ins_get I.hok h
  obtain ⟨od, J, _⟩ := O.look
  exact ⟨_, _, J⟩
theorem oth_looks {X : Cx} {pins : List (Addr × Obj)} {σ : L2.St} {H : Hp} {s : Shared} {x : V} {u t : Value} (I : Inv X pins σ H s) (rx : RelV x u) (o : Oth H x t) (M : Model) : PySem.W.Looks M s.heap (typeOf u) t := by
  cases o with
  | non => cases (show u = Value.none from rx); exact .of_pure rfl
  | int i => obtain ⟨t, q⟩ := (show ∃ t, u = Value.int i t from rx); cases q; exact .of_pure rfl
  | str y => obtain ⟨t, q⟩ := (show ∃ t, u = Value.str y t from rx); cases q; exact .of_pure rfl
  | @lst a xs ea =>
    cases (show u = Value.ref a from rx)
    obtain ⟨_, _, n, _, h1⟩ := (show ObjOk X.prog X.w H s.heap a (.lst xs) from I.hok a _ ea)
    exact (PySem.W.Looks.ld h1).andThen .now
  | @tup a xs ea =>
    cases (show u = Value.ref a from rx)
    obtain ⟨_, _, _, o, h1, h2, _⟩ := (show ObjOk X.prog X.w H s.heap a (.tup xs) from I.hok a _ ea)
    rw [← h2]
    exact (PySem.W.Looks.ld h1).andThen .now
  | @ins a C dx fs ea =>
    cases (show u = Value.ref a from rx)
    obtain ⟨ox, od, J⟩ := insX_at I ea
    exact J.type
  | @dic a ks ea =>
    cases (show u = Value.ref a from rx)
    obtain ⟨_, _, _, _, o, _, _, h1, h2, _⟩ := (show ObjOk X.prog X.w H s.heap a (.dK ks) from I.hok a _ ea)
    rw [← h2.1]
    exact (PySem.W.Looks.ld h1).andThen .now
section
variable {X : Cx} {C g : Addr} {fd : FuncData} {ps : List Str} {n : Nat} {sp : Sp} {E : XK}
def rEqB (K : PySem.W.Frag) (C : Addr) (sp : Sp) (E : XK) (pos : Bool) : R2 := fun x y H Q => ∃ a dx fs t, x = .ref a ∧ H a = some (.ins C dx fs) ∧ Oth H y t ∧ PySem.W.notFirst K C t = true ∧ sp [x, y] H (fun v H' => ∃ k : Bool, v = .bl k ∧ Q (.bl (cond pos k (!k))) H') E
theorem op_eqB (e : EqO X.K C g) (hb : Binds X.K fd ps []) (F : FnOk X.prog X.w X.K X.mg X.base CX0 n g fd ps sp) (hr : Room n X.A) (hx : Passes CX0 X E) : OpR X (compareOp .Eq) (rEqB X.K C sp E true) := by
  intro pins s σ H x y v u Q I rx ry h
  obtain ⟨a, dx, fs, t, rfl, ha, ho, hn, q⟩ := h
  cases (show v = Value.ref a from rx)
  obtain ⟨ox, od, J⟩ := insX_at I ha
  obtain ⟨m, hF⟩ := I.fr
  refine PySem.W.cmp_K (op := .Eq) hr.units0 hF I.ok.mod.kin J (oth_looks I ry ho _) hn e.eq e.fn ?_
  refine wpAny_mono (run_fn (us := [.ref a, u]) (vs := [.ref a, y]) F hr hb .nil hx I (.cons rfl (.cons ry .nil)) q) (fun w s' z => ?_) fun _ _ x => x
  obtain ⟨z', H', I', rz, k, rfl, qz⟩ := z
  exact SlX.cmpback rz ⟨.bl k, H', I', rz, qz⟩
theorem op_neB (e : EqO X.K C g) (hb : Binds X.K fd ps []) (F : FnOk X.prog X.w X.K X.mg X.base CX0 n g fd ps sp) (hr : Room (n + 1) X.A) : OpR X (compareOp .NotEq) (rEqB X.K C sp E false) := by
  intro pins s σ H x y v u Q I rx ry h
  obtain ⟨a, dx, fs, t, rfl, ha, ho, hn, q⟩ := h
  cases (show v = Value.ref a from rx)
  obtain ⟨ox, od, J⟩ := insX_at I ha
  obtain ⟨m, hF⟩ := I.fr
  refine ne_K (by have := hr.units; omega) hF I.ok.mod.kin J (oth_looks I ry ho _) hn e ?_
  have hl : ([Value.ref a, u] ++ []).length = ps.length := by
    have := F.len _ _ _ _ q
    exact this
  refine wpAny_call (codeAny_mono (F.run X.A.in1 X.stack s H ⟨[.ref a, u], []⟩ ([.ref a, u] ++ []) [.ref a, y] _ E hr.in1 I.env0.in1 (hb s [.ref a, u] I.kIn hl) (.cons rfl (.cons ry .nil)) q) fun r s' hq => ?_)
  cases r with
  | error e => exact False.elim hq
  | ok fl =>
    cases fl with
    | ret u =>
      obtain ⟨v, H', I2, rv, k, rfl, q⟩ := I.after hq
      obtain rfl : u = Value.bool k := rv
      exact ⟨k, rfl, .bl (!k), H', I2, rfl, q⟩
    | next => exact False.elim hq
    | brk => exact False.elim hq
    | cont => exact False.elim hq
end
end G
set_option Elab.async false
set_option linter.all false
set_option maxRecDepth 100000
set_option maxHeartbeats 2000000
/-! Q2: str(x) by an own __str__; keys that differ stay so. -/
namespace G
open PySem PySem.Spec PyProof.Rows L2
section
variable {X : Cx} {C g : Addr} {fd : FuncData} {ps : List Str} {n : Nat} {sp : Sp} {E : XK}
def rStrB (C : Addr) (sp : Sp) (E : XK) : List V → Hp → VK → Prop := fun xs H Q => ∃ a dx fs, xs = [V.ref a] ∧ H a = some (.ins C dx fs) ∧ sp [.ref a] H (fun z H' => ∃ y, z = .str y ∧ Q z H') E
theorem call_strB (hs : PySem.W.findIn X.K (.ref C) "__str__" = some (some (.ref g))) (hf : PySem.W.isFn X.K (.ref g) = true) (hb : Binds X.K fd ps []) (F : FnOk X.prog X.w X.K X.mg X.base CX0 n g fd ps sp) (hr : Room (n + 2) X.A) : CallR X (.type "str") (rStrB C sp E) := by
  intro pins s σ H xs us Q I r h
  obtain ⟨a, dx, fs, rfl, ha, q⟩ := h
  obtain ⟨u, rfl, ru⟩ := r.one
  cases (show u = Value.ref a from ru)
  obtain ⟨ox, od, J⟩ := insX_at I ha
  have hr2 : Room n X.A.in1.in1 := (show Room (n + 1) X.A.in1 from Room.in1 hr).in1
  refine PySem.W.kso_call (by have := hr2.units; omega) I.kIn J hs hf ?_
  have hl : ([Value.ref a] ++ []).length = ps.length := by
    have := F.len _ _ _ _ q
    exact this
  refine wpAny_call (codeAny_mono (F.run X.A.in1.in1 X.stack s H ⟨[Value.ref a], []⟩ ([Value.ref a] ++ []) [V.ref a] _ E hr2 I.env0.in1.in1 (hb s [Value.ref a] I.kIn hl) (show Vals [V.ref a] [Value.ref a] from .cons rfl .nil) q) fun r s' hq => ?_)
  cases r with
  | error e => exact False.elim hq
  | ok fl =>
    cases fl with
    | ret u =>
      obtain ⟨v, H', I2, rv, y, rfl, q⟩ := I.after hq
      obtain ⟨t, rfl⟩ := (show ∃ t, u = Value.str y t from rv)
      exact ⟨.str y, H', I2, ⟨t, rfl⟩, q⟩
    | next => exact False.elim hq
    | brk => exact False.elim hq
    | cont => exact False.elim hq
end
theorem nodup_put {kvs : List (Key × V)} (h : (kvs.map (·.1)).Nodup) (k : Key) (v : V) : ((putK kvs k v).map (·.1)).Nodup := by
  unfold putK
  split
  · rw [List.map_map]
    have e : (kvs.map ((fun p : Key × V => p.1) ∘ fun kv => if kv.1 = k then (kv.1, v) else kv)) = kvs.map (·.1) := List.map_congr_left fun p _ => by
      show (if p.1 = k then (p.1, v) else p).1 = p.1
      split <;> rfl
    rw [e]
    exact h
  · rename_i hn
    rw [List.map_append, List.nodup_append]
    refine ⟨h, by simp, fun x hx y hy => ?_⟩
    rw [List.map_cons, List.map_nil, List.mem_singleton] at hy
    rintro rfl
    obtain ⟨p, hp, e⟩ := List.mem_map.mp hx
    apply hn
    exact List.any_eq_true.mpr ⟨p, hp, decide_eq_true (e.trans hy)⟩
theorem valV_nodup : ∀ {kvs : List (Key × V)}, (kvs.map (·.1)).Nodup → ∀ p ∈ kvs, valV kvs p.1 = some p.2
  | p :: kvs, h, q, hq => by
    rw [List.map_cons, List.nodup_cons] at h
    show Option.map (fun r : Key × V => r.2) (List.find? (fun kv => decide (kv.1 = q.1)) (p :: kvs)) = some q.2
    rcases List.mem_cons.mp hq with rfl | hq'
    · rw [List.find?_cons_of_pos (by simp)]
      rfl
    · have ne : ¬ p.1 = q.1 := fun e => h.1 (by rw [e]; exact List.mem_map.mpr ⟨q, hq', rfl⟩)
      rw [List.find?_cons_of_neg (by simpa using ne)]
      exact valV_nodup h.2 q hq'
end G
set_option Elab.async false
set_option linter.all false
set_option maxRecDepth 100000
set_option maxHeartbeats 2000000
/-! R1: methods, calls and operators of an instance whose class is not known ahead; super().__init__(*xs). -/
namespace G
open PySem PySem.Spec PyProof.Rows L2 NdefX StX

/-- the class at C keeps the promise sp for its method m -/
structure PolyM (P : Program) (w : World) (K : PySem.W.Frag) (mg : Str → Option Value) (base : Heap) (k : Nat) (C : Addr) (m : Str) (sp : Sp) : Prop where
  cl : Cls K C
  ex : ∃ (f : Addr) (fd : FuncData) (ps : List Str), Meth K C m f ∧ Binds K fd ps [] ∧ FnOk P w K mg base CX0 k f fd ps sp
/-- .. for the calls of its instances -/
structure PolyC (P : Program) (w : World) (K : PySem.W.Frag) (mg : Str → Option Value) (base : Heap) (k : Nat) (C : Addr) (sp : Sp) : Prop where
  ex : ∃ (f : Addr) (fd : FuncData) (ps : List Str), CallO K C f ∧ Binds K fd ps [] ∧ FnOk P w K mg base CX0 k f fd ps sp

/-- o.m(e, ..), o an instance of some class that keeps sp -/
def tMethV (X : Cx) (k : Nat) (m : Str) (E : XK) (ta : TE) (t : TA) : TE := fun σ H Q => ta σ H fun x H1 => ∃ (a C dx : Addr) (fs : List (Str × V)) (sp : Sp), x = .ref a ∧ H1 a = some (.ins C dx fs) ∧ PolyM X.prog X.w X.K X.mg X.base k C m sp ∧ fs.lookup m = none ∧ t σ H1 fun vs H2 => sp (.ref a :: vs) H2 Q E
/-- o(e, ..) -/
def tCallV (X : Cx) (k : Nat) (E : XK) (ta : TE) (t : TA) : TE := fun σ H Q => ta σ H fun x H1 => ∃ (a C : Addr) (sp : Sp), x = .ref a ∧ PolyC X.prog X.w X.K X.mg X.base k C sp ∧ t σ H1 fun vs H2 => InsC X H2 a C ∧ sp (.ref a :: vs) H2 Q E
section
variable {X : Cx} {k : Nat} {E : XK} {m : Str} {pos apos : Pos} {e o fe : Expr} {es : List Expr} {ta : TE} {t : TA}
theorem pe_methV {pl : Sem Bool} (he : PE X o ta) (hr : Room k X.A) (hx : Passes CX0 X E) (ha : PA X (e :: es) t)
    (hst : starEach (e :: es) X.env = (false, eval e X.env) :: starEach es X.env := by rfl) (hpl : (backTo pos (starEach es X.env)).any (·.1) = false := by rfl)
    (ht : eval (.Call (.Attribute o m apos) (e :: es) [] pos) X.env = (eval o X.env >>= fun ov => standAt apos.atName >>= fun _ => holding [ov] (getMethod ov m pl) >>= fun q => callWith pos q.1 q.2 (backTo pos (starEach (e :: es) X.env)) (backToKw pos (keywordEach [] X.env))) := by rfl) :
    PE X (.Call (.Attribute o m apos) (e :: es) [] pos) (tMethV X k m E ta t) := by
  refine ⟨fun pins s σ H Q I h => ?_⟩
  refine PySem.W.methodCall_KW (pl := pl) (thn (he.run pins s σ H _ I h) fun u s1 ⟨x, H1, I1, rx, a, C, dx, fs, sp, ex, ea, pm, l, q⟩ => ?_) ht
  subst ex
  obtain rfl : u = Value.ref a := rx
  obtain ⟨f, fd, ps, hm, hb, F⟩ := pm.ex
  refine getmeth_ok I1 ea pm.cl hm l ?_
  refine PySem.W.callWith_K (h₀ := X.base) (first := [.ref a]) I.ok.mod.kin hm.kp (thn (ha.run pos pins s1 σ H1 _ I1 q) fun us s2 ⟨vs, H2, I2, r, q2⟩ => ⟨I2.kIn, ?_⟩) hst hpl
  exact run_fn (us := .ref a :: us) (vs := .ref a :: vs) F hr hb .nil hx I2 (.cons rfl r) (by rw [List.append_nil]; exact q2)
theorem pe_methV0 {pl : Sem Bool} (he : PE X o ta) (hr : Room k X.A) (hx : Passes CX0 X E)
    (ht : eval (.Call (.Attribute o m apos) [] [] pos) X.env = (eval o X.env >>= fun ov => standAt apos.atName >>= fun _ => holding [ov] (getMethod ov m pl) >>= fun q => callWith pos q.1 q.2 (backTo pos (starEach [] X.env)) (backToKw pos (keywordEach [] X.env))) := by rfl) :
    PE X (.Call (.Attribute o m apos) [] [] pos) (tMethV X k m E ta tNil) := by
  refine ⟨fun pins s σ H Q I h => ?_⟩
  refine PySem.W.methodCall_KW (pl := pl) (thn (he.run pins s σ H _ I h) fun u s1 ⟨x, H1, I1, rx, a, C, dx, fs, sp, ex, ea, pm, l, q⟩ => ?_) ht
  subst ex
  obtain rfl : u = Value.ref a := rx
  obtain ⟨f, fd, ps, hm, hb, F⟩ := pm.ex
  refine getmeth_ok I1 ea pm.cl hm l ?_
  exact PySem.W.callWith_K0 (first := [.ref a]) I1.kIn hm.kp (run_fn (us := [.ref a]) (vs := [.ref a]) F hr hb .nil hx I1 (.cons rfl .nil) q)
theorem pe_callV (hf : PE X fe ta) (hr : Room k X.A) (hx : Passes CX0 X E) (ha : PA X (e :: es) t)
    (ht : eval (.Call fe (e :: es) [] pos) X.env = (eval fe X.env >>= fun g => callWith pos g [] (backTo pos (starEach (e :: es) X.env)) (backToKw pos (keywordEach [] X.env))) := by rfl)
    (he : starEach (e :: es) X.env = (false, eval e X.env) :: starEach es X.env := by rfl) (hpl : (backTo pos (starEach es X.env)).any (·.1) = false := by rfl) : PE X (.Call fe (e :: es) [] pos) (tCallV X k E ta t) := by
  refine ⟨fun pins s σ H Q I h => ?_⟩
  refine Call_ (thn (hf.run pins s σ H _ I h) fun u s1 ⟨y, H1, I1, ry, a, C, sp, ey, pc, q⟩ => ?_) ht
  subst ey
  obtain rfl : u = Value.ref a := ry
  obtain ⟨f, fd, ps, c, hb, F⟩ := pc.ex
  refine callO_with (thn (ha.run pos pins s1 σ H1 _ I1 q) fun us s2 ⟨vs, H2, I2, r, hi, q2⟩ => ?_) he hpl
  obtain ⟨ox, od, J, hd⟩ := insC_at I2 hi
  exact ⟨⟨C, ox, od, J, hd⟩, run_callO c (F.raw hb .nil) hr hx I2 hi r (by simpa using q2)⟩
end

/-! ### a sign between two instances of own classes -/
/-- the class at C has the sign's method (and no reflected one) -/
structure OpO (K : PySem.W.Frag) (C : Addr) (op : Operator) (f : Addr) : Prop where
  first : PySem.W.selfFirst K C = true
  at_ : PySem.W.findIn K (.ref C) (PySem.dunder op.info.2) = some (some (.ref f))
  fn : PySem.W.isFn K (.ref f) = true
  ref_ : PySem.W.findIn K (.ref C) (dunderR op.info.2) = some none
theorem bin_own {prog : Program} {w : World} {A : Around} {E : Value → Shared → Prop} {s : Shared} {K : PySem.W.Frag} {x y C C2 f g : Addr} {ox oy : Obj} {od od2 : Option Obj} {op : Operator} {Q : Value → Shared → Prop} (X : K.In s.heap)
    (I : PySem.W.InstAt s.heap x ox C od) (J : PySem.W.InstAt s.heap y oy C2 od2) (o1 : OpO K C op f) (o2 : OpO K C2 op g) (hs : C = C2 ∨ PySem.W.subIn K (.ref C2) (.ref C) = some false)
    (h : wpAny (model prog w) A (call (.ref f) [.ref x, .ref y]) (PySem.W.CmpBack Q) E s) : wpAny (model prog w) A (binaryOp op (.ref x) (.ref y)) Q E s := by
  obtain ⟨cd1, rest1, hc1, hm1⟩ := PySem.W.ksp_first o1.first
  obtain ⟨cd2, rest2, hc2, hm2⟩ := PySem.W.ksp_first o2.first
  have a1 := o1.at_
  have a2 := o2.at_
  have r1 := o1.ref_
  have r2 := o2.ref_
  rcases hi : op.info with ⟨sym, nm⟩
  rw [hi] at a1 a2 r1 r2
  dsimp only at a1 a2 r1 r2
  have one := PySem.W.ksp_try X I a1 o1.fn h
  obtain ⟨hh, gs, d, tt, os⟩ := s
  have L1 : PySem.W.Looks (model prog w) hh (typeOf (.ref x)) (.ref C) := I.type
  have L2 : PySem.W.Looks (model prog w) hh (typeOf (.ref y)) (.ref C2) := J.type
  have L3 : PySem.W.Looks (model prog w) hh (fillsNumberSlot (.ref C) nm) true := PySem.W.fills_K X hc1 hm1 a1
  have L4 : PySem.W.Looks (model prog w) hh (fillsNumberSlot (.ref C2) nm) true := PySem.W.fills_K X hc2 hm2 a2
  have L6 : PySem.W.Looks (model prog w) hh (numberSlotInPython (.ref C) nm) true := PySem.W.ksp_inPy X a1 r1 (.inl rfl)
  have L7 : PySem.W.Looks (model prog w) hh (numberSlotInPython (.ref C2) nm) true := PySem.W.ksp_inPy X a2 r2 (.inl rfl)
  simp only [binaryOp, hi]
  refine wpAny_holding (wpAny_bind ?_)
  unfold binaryOp1
  refine wpAny_bind (L1.at (wpAny_bind (L2.at (wpAny_bind (L3.at ?_)))))
  by_cases e : C = C2
  · have hne : (Value.ref C == Value.ref C2) = true := by
      rw [e]
      exact beq_self_eq_true _
    simp only [hne, if_true]
    ksp_lk
    refine wpAny_mono one (fun r s' hr' => ?_) fun _ _ z => z
    obtain ⟨v, rfl, hq⟩ := hr'
    ksp_lk
    exact hq
  · have hne : (Value.ref C == Value.ref C2) = false := Bool.eq_false_iff.mpr fun q => e (by
      have := beq_iff_eq.mp q
      injection this)
    have hs2 : PySem.W.subIn K (.ref C2) (.ref C) = some false := hs.resolve_left e
    have L5 : PySem.W.Looks (model prog w) hh (isSubtype (.ref C2) (.ref C)) false := PySem.W.looks_subIn X hs2
    simp only [hne, Bool.false_eq_true, if_false]
    ksp_lk
    refine wpAny_mono one (fun r s' hr' => ?_) fun _ _ z => z
    obtain ⟨v, rfl, hq⟩ := hr'
    ksp_lk
    exact hq
theorem insO_at {X : Cx} {pins : List (Addr × Obj)} {σ : L2.St} {H : Hp} {s : Shared} {a C dx : Addr} {fs : List (Str × V)} (I : Inv X pins σ H s) (h : H a = some (.ins C dx fs)) : ∃ ox od, PySem.W.InstAt s.heap a ox C od ∧ ox.data = .plain :=
  insC_at I (.inr ⟨dx, fs, h⟩)
/-- two classes under one sign: what the class at C does with one of the class at C2 -/
structure PolyO (P : Program) (w : World) (K : PySem.W.Frag) (mg : Str → Option Value) (base : Heap) (k : Nat) (C C2 : Addr) (op : Operator) (sp : Sp) : Prop where
  ex : ∃ (f g : Addr) (fd : FuncData) (ps : List Str), OpO K C op f ∧ OpO K C2 op g ∧ (C = C2 ∨ PySem.W.subIn K (.ref C2) (.ref C) = some false) ∧ Binds K fd ps [] ∧ FnOk P w K mg base CX0 k f fd ps sp
def rOwn (X : Cx) (k : Nat) (op : Operator) (sp : Sp) (E : XK) : R2 := fun x y H Q => ∃ a b C C2 dx dy fs gs, x = .ref a ∧ y = .ref b ∧ H a = some (.ins C dx fs) ∧ H b = some (.ins C2 dy gs) ∧ PolyO X.prog X.w X.K X.mg X.base k C C2 op sp ∧
  sp [.ref a, .ref b] H (fun v H' => (∃ r, v = .ref r) ∧ Q v H') E
theorem op_own {X : Cx} {k : Nat} {sp : Sp} {E : XK} (op : Operator) (hr : Room k X.A) (hx : Passes CX0 X E) : OpR X (binaryOp op) (rOwn X k op sp E) := by
  intro pins s σ H x y v u Q I rx ry h
  obtain ⟨a, b, C, C2, dx, dy, fs, gs, rfl, rfl, ha, hb, po, q⟩ := h
  obtain rfl : v = Value.ref a := rx
  obtain rfl : u = Value.ref b := ry
  obtain ⟨f, g, fd, ps, o1, o2, hs, hbd, F⟩ := po.ex
  obtain ⟨ox, od, J1, _⟩ := insO_at I ha
  obtain ⟨oy, od2, J2, _⟩ := insO_at I hb
  refine bin_own I.kIn J1 J2 o1 o2 hs (thn (run_fn (us := [.ref a, .ref b]) (vs := [.ref a, .ref b]) F hr hbd .nil hx I (.cons rfl (.cons rfl .nil)) q) fun r s' z => ?_)
  obtain ⟨v, H', I', rv, ⟨p, rfl⟩, q'⟩ := z
  obtain rfl : r = Value.ref p := rv
  exact ⟨V.ref p, H', I', rfl, q'⟩
/-! ### ~x -/
structure PolyU (P : Program) (w : World) (K : PySem.W.Frag) (mg : Str → Option Value) (base : Heap) (k : Nat) (C : Addr) (sp : Sp) : Prop where
  ex : ∃ (f : Addr) (fd : FuncData) (ps : List Str), PySem.W.findIn K (.ref C) "__invert__" = some (some (.ref f)) ∧ PySem.W.isFn K (.ref f) = true ∧ Binds K fd ps [] ∧ FnOk P w K mg base CX0 k f fd ps sp
def rInv (X : Cx) (k : Nat) (sp : Sp) (E : XK) : V → Hp → VK → Prop := fun x H Q => ∃ a C dx fs, x = .ref a ∧ H a = some (.ins C dx fs) ∧ PolyU X.prog X.w X.K X.mg X.base k C sp ∧ sp [.ref a] H Q E
theorem inv_own {M : Model} {A : Around} {E : Value → Shared → Prop} {s : Shared} {K : PySem.W.Frag} {x C f : Addr} {ox : Obj} {od : Option Obj} {Q : Value → Shared → Prop} (X : K.In s.heap) (I : PySem.W.InstAt s.heap x ox C od)
    (hs : PySem.W.findIn K (.ref C) "__invert__" = some (some (.ref f))) (hf : PySem.W.isFn K (.ref f) = true) (h : wpAny M A (call (.ref f) [.ref x]) Q E s) : wpAny M A (unaryOp .Invert (.ref x)) Q E s := by
  unfold unaryOp
  refine wpAny_holding (wpAny_bind (PySem.W.special_fn X I hs (beq_iff_eq.mp hf) (thn h fun _ _ z => ?_)))
  exact wpAny_pure z
theorem un_own {X : Cx} {k : Nat} {sp : Sp} {E : XK} (hr : Room k X.A) (hx : Passes CX0 X E) : UnR X (unaryOp .Invert) (rInv X k sp E) := by
  intro pins s σ H x v Q I rx h
  obtain ⟨a, C, dx, fs, rfl, ha, pu, q⟩ := h
  obtain rfl : v = Value.ref a := rx
  obtain ⟨f, fd, ps, h1, h2, hb, F⟩ := pu.ex
  obtain ⟨ox, od, J, _⟩ := insO_at I ha
  exact inv_own I.kIn J h1 h2 (run_fn (us := [.ref a]) (vs := [.ref a]) F hr hb .nil hx I (.cons rfl .nil) q)
end G
set_option Elab.async false
set_option linter.all false
set_option maxRecDepth 100000
set_option maxHeartbeats 2000000
/-! G3: a cell, its box, a draw from it. -/
namespace G
open PySem PySem.Spec PyProof.Rows L2
def topS (i : Nat) : Stmt := PySem.Challenge.pw_listviews_k37_records_told.main.body.getD i (.Pass ⟨0, 0, 0, 0⟩)
abbrev sCell : Stmt := topS 28
abbrev sBox : Stmt := topS 29
abbrev sTake : Stmt := topS 30
theorem scCell : FnScope ["_law_script", "_law_k"] ["_law_script", "_law_k"] (defScope sCell) := ⟨rfl, rfl, rfl, by decide +kernel, rfl, by decide +kernel, by decide +kernel⟩
theorem scBox : FnScope ["_law_cell_here"] ["_law_cell_here"] (defScope sBox) := ⟨rfl, rfl, rfl, by decide +kernel, rfl, by decide +kernel, by decide +kernel⟩
theorem scTake : FnScope ["_law_box_here", "_law_many", "_law_digit", "_law_mixed_here"] ["_law_box_here", "_law_many"] (defScope sTake) := ⟨rfl, rfl, rfl, by decide +kernel, rfl, by decide +kernel, by decide +kernel⟩
/-- all but b stands as it stood -/
def But (b : Addr) (H H' : Hp) : Prop := ∀ c o, c ≠ b → H c = some o → H' c = some o
theorem But.refl (b : Addr) (H : Hp) : But b H H := fun _ _ _ h => h
theorem But.trans {b : Addr} {H H1 H2 : Hp} (x : But b H H1) (y : But b H1 H2) : But b H H2 := fun c o n h => y c o n (x c o n h)
theorem But.upd {b : Addr} {H : Hp} {o : HO} : But b H (upd H b o) := fun c u n h => by
  rw [upd_ne n]
  exact h
theorem But.new {b p : Addr} {H : Hp} {o : HO} (h : H p = none) : But b H (L2.upd H p o) := fun c u n e => by
  rw [upd_ne (ne_of_none e h)]
  exact e
theorem But.same {b : Addr} {H H' : Hp} (h : Same H H') : But b H H' := fun c o _ e => h c o e
theorem Same.new {p : Addr} {H : Hp} {o : HO} (h : H p = none) : Same H (upd H p o) := fun c u e => by
  rw [upd_ne (ne_of_none e h)]
  exact e
/-- a box from which at most n draws were made -/
def BoxAt (H : Hp) (b : Addr) (n : Nat) : Prop := ∃ x y z : Int, H b = some (.lst [.int x, .int y, .int z]) ∧ 0 ≤ x ∧ 0 ≤ y ∧ y < 2147483629 ∧ 0 ≤ z ∧ z ≤ n
theorem BoxAt.mono {H : Hp} {b : Addr} {n m : Nat} (h : BoxAt H b n) (le : n ≤ m) : BoxAt H b m := by
  obtain ⟨x, y, z, e, h1, h2, h3, h4, h5⟩ := h
  exact ⟨x, y, z, e, h1, h2, h3, h4, by omega⟩
theorem BoxAt.keep {H H' : Hp} {b : Addr} {n : Nat} (h : BoxAt H b n) (s : ∀ o, H b = some o → H' b = some o) : BoxAt H' b n := by
  obtain ⟨x, y, z, e, r⟩ := h
  exact ⟨x, y, z, s _ e, r⟩
/-- a draw is one of so many -/
theorem draw_at {r m : Int} {n : Nat} (h0 : 0 ≤ r) (h1 : r < m) (e : m = n) : ∃ j : Nat, r = j ∧ j < n := ⟨r.toNat, by omega, by omega⟩
def spCell' (K : PySem.W.Frag) : Sp := fun vs H Q _ => ∃ (a : Addr) (ns : List Int) (z : Int), vs = [.ref a, .int z] ∧ SqL K H a (ns.map V.int) ∧ 0 ≤ z ∧ z < 1000 ∧ ∀ i : Int, Q (.int i) H
def spBox : Sp := fun vs H Q _ => ∃ i : Int, vs = [.int i] ∧ ∀ (b : Addr) (H' : Hp), H b = none → Same H H' → BoxAt H' b 0 → Q (.ref b) H'
def spTake : Sp := fun vs H Q _ => ∃ (b : Addr) (m : Int) (n : Nat), vs = [.ref b, .int m] ∧ BoxAt H b n ∧ n ≤ 100000 ∧ 0 < m ∧ m < 2 ^ 200 ∧
  ∀ (r : Int) (H' : Hp), 0 ≤ r → r < m → BoxAt H' b (n + 1) → But b H H' → Q (.int r) H'
section
variable {P : Program} {w : World} {K : PySem.W.Frag} {mg : Str → Option Value} {base : Heap}
theorem ok_cell {f : Addr} {fd : FuncData} (F : Fun K "_law_cell" "_law_cell" sCell f fd) (ml : mg "len" = none) : FnOk P w K mg base CX0 1 f fd ["_law_script", "_law_k"] (spCell' K) := by
  refine F.ok scCell (fun vs H Q E h => ?_) (fun cdv A outer s H vs Q E hr h => ?_)
  · obtain ⟨a, ns, j, rfl, _⟩ := h
    rfl
  · obtain ⟨a, ns, z, rfl, hS, z0, z1, q⟩ := h
    obtain ⟨j, rfl, hj⟩ := draw_at (n := 1000) z0 z1 rfl
    refine ⟨_, pss_cons (ps_if (pt_cmpR op_lt (pv 1) (pe_callB call_len_seq (by rfl) ml PySem.boot_len (pa_cons (pv 0) pa_nil)) (nomark _))
        (pss_one (ps_ret (pe_ix ix_list (pv 0) (pv 1) (fun _ _ => rfl)))) pss_nil)
      (pss_one (ps_ret (pe_op op_add (pe_op op_mul pe_int (pv 1)) pe_int))), ?_⟩
    refine ⟨_, rfl, _, rfl, a, _, rfl, .inl hS, _, _, rfl, rfl, _, rfl, ite2 (fun e => ?_) (fun _ => ?_)⟩
    · have e1 : (j : Int) < ((ns.map V.int).length : Nat) := of_decide_eq_true e
      have e2 : j < ns.length := by
        rw [List.length_map] at e1
        omega
      exact ⟨_, rfl, _, rfl, a, _, _, .int ns[j], rfl, rfl, hS, atI_nat (by rw [List.getElem?_map, List.getElem?_eq_getElem e2] <;> rfl), q _⟩
    · exact ⟨_, rfl, _, _, rfl, rfl, .inl ⟨by decide, by decide⟩, _, _, rfl, rfl, q _⟩
theorem ok_box {f : Addr} {fd : FuncData} (F : Fun K "_law_box" "_law_box" sBox f fd) (mm : mg "max" = none) : FnOk P w K mg base CX0 1 f fd ["_law_cell_here"] spBox := by
  refine F.ok scBox (fun vs H Q E h => ?_) (fun cdv A outer s H vs Q E hr h => ?_)
  · obtain ⟨i, rfl, _⟩ := h
    rfl
  · obtain ⟨i, rfl, q⟩ := h
    refine ⟨_, pss_one (ps_ret (pe_lst (pa_cons (pe_callB (call_max2 rfl) (by rfl) mm (by decide +kernel) (pa_cons pe_int (pa_cons (pe_op op_sub (pv 0) (pe_op op_pow pe_int pe_int)) pa_nil)))
      (pa_cons (pe_op op_mod (pv 0) pe_int) (pa_cons pe_int pa_nil))))), ?_⟩
    refine ⟨_, rfl, _, _, rfl, rfl, ⟨by decide, by decide, by decide⟩, _, _, rfl, rfl, _, _, rfl, _, rfl, _, _, rfl, rfl, (by show (0 : Int) < 2147483629; decide), (by show 3 ≤ sizeLine; decide), fun b hb => ?_⟩
    refine q b _ hb (Same.new hb) ⟨_, _, _, upd_same, ?_, Int.emod_nonneg _ (by decide), Int.emod_lt_of_pos _ (by decide), Int.le_refl _, Int.le_refl _⟩
    split <;> omega
theorem emod_in (a m : Int) (h : 0 < m) : 0 ≤ a % m ∧ a % m < m := ⟨Int.emod_nonneg _ (by omega), Int.emod_lt_of_pos _ h⟩
theorem ok_take {f : Addr} {fd : FuncData} (F : Fun K "_law_take" "_law_take" sTake f fd) : FnOk P w K mg base CX0 1 f fd ["_law_box_here", "_law_many"] spTake := by
  refine F.ok scTake (fun vs H Q E h => ?_) (fun cdv A outer s H vs Q E hr h => ?_)
  · obtain ⟨b, m, n, rfl, _⟩ := h
    rfl
  · obtain ⟨b, m, n, rfl, ⟨x, y, z, hb, hx, hy, hy2, hz, hzn⟩, hn, hm, hm2, q⟩ := h
    refine ⟨_, pss_cons (ps_if (pt_cmpR op_gt (pe_ix ix_list (pv 0) pe_int (fun _ _ => rfl)) pe_int (nomark _))
        (pss_cons (ps_set (i := 2) scTake.nd rfl (.inl rfl) (pe_op op_mod (pe_ix ix_list (pv 0) pe_int (fun _ _ => rfl)) (pv 1)))
        (pss_cons (ps_asg (pe_op op_fdivW (pe_ix ix_list (pv 0) pe_int (fun _ _ => rfl)) (pv 1)) (pg_sub (pv 0) pe_int set_list))
        (pss_one (ps_ret (pv 2))))) pss_nil)
      (pss_cons (ps_asg (pe_op op_add (pe_ix ix_list (pv 0) pe_int (fun _ _ => rfl)) pe_int) (pg_sub (pv 0) pe_int set_list))
      (pss_cons (ps_set (i := 3) scTake.nd rfl (.inl rfl) (pe_op op_mod (pe_op op_pow (pe_op op_add (pe_op op_add (pe_ix ix_list (pv 0) pe_int (fun _ _ => rfl)) (pe_op op_mul pe_int (pe_ix ix_list (pv 0) pe_int (fun _ _ => rfl)))) pe_int) pe_int) pe_int))
      (pss_cons (ps_set (i := 3) scTake.nd rfl (.inl rfl) (pe_op op_mod (pe_op op_pow (pe_op op_add (pv 3) (pe_op op_mul pe_int (pe_ix ix_list (pv 0) pe_int (fun _ _ => rfl)))) pe_int) pe_int))
      (pss_one (ps_ret (pe_op op_mod (pe_op op_fdivW (pv 3) pe_int) (pv 1))))))), ?_⟩
    -- if box[0] > 0
    refine ⟨_, rfl, b, _, 0, .int x, rfl, rfl, .of hb, rfl, _, _, rfl, rfl, _, rfl, ite2 (fun e => ?_) (fun _ => ?_)⟩
    · refine ⟨_, rfl, b, _, 0, .int x, rfl, rfl, .of hb, rfl, _, rfl, _, _, rfl, rfl, hm, ?_⟩
      refine ⟨_, rfl, b, _, 0, .int x, rfl, rfl, .of hb, rfl, _, rfl, _, _, rfl, rfl, wide_div hm (b := 200) (by omega) (by decide) (by decide), ?_⟩
      refine ⟨_, rfl, b, _, 0, 0, rfl, rfl, hb, rfl, _, rfl, ?_⟩
      have r := emod_in x m hm
      exact q _ _ r.1 r.2 ⟨_, _, _, upd_same, Int.ediv_nonneg hx (by omega), hy, hy2, hz, by omega⟩ But.upd
    · refine ⟨_, rfl, b, _, 2, .int z, rfl, rfl, .of hb, rfl, _, _, rfl, rfl, ?_⟩
      refine ⟨_, rfl, b, _, 2, 2, rfl, rfl, hb, rfl, ?_⟩
      have hb' : (upd H b (.lst [.int x, .int y, .int (z + 1)])) b = some (.lst [.int x, .int y, .int (z + 1)]) := upd_same
      refine ⟨_, rfl, b, _, 1, .int y, rfl, rfl, .of hb', rfl, _, rfl, b, _, 2, .int (z + 1), rfl, rfl, .of hb', rfl, _, _, rfl, rfl, .inl ⟨by decide, by decide⟩, _, _, rfl, rfl, _, _, rfl, rfl,
        _, _, rfl, rfl, ⟨by decide, by decide, by omega⟩, _, _, rfl, rfl, (by show (0 : Int) < 2147483647; decide), ?_⟩
      generalize h1 : ((y + 7523 * (z + 1) + 211) ^ (5 : Int).toNat : Int) = t1
      have r1 := emod_in t1 2147483647 (by decide)
      refine ⟨_, rfl, _, rfl, b, _, 2, .int (z + 1), rfl, rfl, .of hb', rfl, _, _, rfl, rfl, .inl ⟨by decide, by decide⟩, _, _, rfl, rfl, _, _, rfl, rfl, ⟨by decide, by decide, by omega⟩, _, _, rfl, rfl, (by show (0 : Int) < 2147483587; decide), ?_⟩
      generalize h2 : ((t1 % 2147483647 + 104729 * (z + 1)) ^ (3 : Int).toNat : Int) = t2
      refine ⟨_, rfl, _, _, rfl, rfl, wide_div (by decide) (b := 200) (by decide) (by decide) (by decide), _, rfl, _, _, rfl, rfl, hm, ?_⟩
      have r := emod_in (t2 % 2147483587 / 16) m hm
      exact q _ _ r.1 r.2 ⟨_, _, _, upd_same, hx, hy, hy2, by omega, by omega⟩ But.upd
end
end G
set_option Elab.async false
set_option linter.all false
set_option maxRecDepth 100000
set_option maxHeartbeats 2000000
/-! G5: what data in the heap keeps, its type, == of it. -/
namespace G
open PySem PySem.Spec PyProof.Rows L2
section
variable {K : PySem.W.Frag} {H H' : Hp}
mutual
theorem rp_same (s : Same H H') : ∀ (d : PyData) (v : V), Rp K H v d → Rp K H' v d
  | .none, _, h => by
    cases h
    exact .non
  | .bool b, _, h => by
    cases h
    exact .bl b
  | .int i, _, h => by
    cases h
    exact .int i
  | .str x, _, h => by
    cases h
    exact .str x
  | .list ds, _, h => by
    cases h with
    | lst e r => exact .lst (s _ _ e) (rp_sameAll s ds _ r)
  | .tuple ds, _, h => by
    cases h with
    | tup e r => exact .tup (s _ _ e) (rp_sameAll s ds _ r)
  | .dict ds, _, h => by
    cases h with
    | dic e r q => exact .dic (s _ _ e) (rp_sameK s ds _ r) (rp_sameV s ds _ q)
theorem rp_sameAll (s : Same H H') : ∀ (ds : List PyData) (vs : List V), RpAll K H vs ds → RpAll K H' vs ds
  | [], _, h => by
    cases h
    exact .nil
  | d :: ds, _, h => by
    cases h with
    | cons a b => exact .cons (rp_same s d _ a) (rp_sameAll s ds _ b)
theorem rp_sameK (s : Same H H') : ∀ (ds : List (PyData × PyData)) (vs : List V), RpAll K H vs (ds.map (·.1)) → RpAll K H' vs (ds.map (·.1))
  | [], _, h => by
    cases h
    exact .nil
  | (d, _) :: ds, _, h => by
    cases h with
    | cons a b => exact .cons (rp_same s d _ a) (rp_sameK s ds _ b)
theorem rp_sameV (s : Same H H') : ∀ (ds : List (PyData × PyData)) (vs : List V), RpAll K H vs (ds.map (·.2)) → RpAll K H' vs (ds.map (·.2))
  | [], _, h => by
    cases h
    exact .nil
  | (_, d) :: ds, _, h => by
    cases h with
    | cons a b => exact .cons (rp_same s d _ a) (rp_sameV s ds _ b)
end
theorem rp_len : ∀ {ds : List PyData} {vs : List V}, RpAll K H vs ds → vs.length = ds.length
  | [], _, h => by
    cases h
    rfl
  | _ :: ds, _, h => by
    cases h with
    | cons a b =>
      rw [List.length_cons, List.length_cons, rp_len b]
theorem rp_at : ∀ {ds : List PyData} {vs : List V} {i : Nat} {v : V}, RpAll K H vs ds → vs[i]? = some v → ∃ d, ds[i]? = some d ∧ Rp K H v d
  | [], _, i, v, h, e => by
    cases h
    simp at e
  | d :: ds, _, i, v, h, e => by
    cases h with
    | cons a b =>
      cases i with
      | zero =>
        have e' := Option.some.inj e
        subst e'
        exact ⟨d, rfl, a⟩
      | succ j => exact rp_at (ds := ds) (i := j) b (by simpa using e)
theorem rp_app : ∀ {ds : List PyData} {vs : List V} {v : V} {d : PyData}, RpAll K H vs ds → Rp K H v d → RpAll K H (vs ++ [v]) (ds ++ [d])
  | [], _, _, _, h, r => by
    cases h
    exact .cons r .nil
  | _ :: ds, _, _, _, h, r => by
    cases h with
    | cons a b => exact .cons a (rp_app b r)
theorem rp_set : ∀ {ds : List PyData} {vs : List V} {v : V} {d : PyData} (i : Nat), RpAll K H vs ds → Rp K H v d → RpAll K H (vs.set i v) (ds.set i d)
  | [], _, _, _, _, h, r => by
    cases h
    exact .nil
  | _ :: ds, _, _, _, i, h, r => by
    cases h with
    | cons a b =>
      cases i with
      | zero => exact .cons r b
      | succ j => exact .cons a (rp_set j b r)
theorem rp_ints : ∀ (is : List Int), RpAll K H (is.map V.int) (is.map PyData.int)
  | [] => .nil
  | i :: is => .cons (.int i) (rp_ints is)
mutual
theorem rp_dp : ∀ (d : PyData) (v : V), d.hasDict = false → Rp K H v d → Dp K H v d
  | .none, _, _, h => by
    cases h
    exact .non
  | .bool b, _, _, h => by
    cases h
    exact .bl b
  | .int i, _, _, h => by
    cases h
    exact .int i
  | .str x, _, _, h => by
    cases h
    exact .str x
  | .list ds, _, n, h => by
    cases h with
    | lst e r => exact .lst (.of e) (rp_dpAll ds _ (by simpa [PyData.hasDict] using n) r)
  | .tuple ds, _, n, h => by
    cases h with
    | tup e r => exact .tup (.of e) (rp_dpAll ds _ (by simpa [PyData.hasDict] using n) r)
  | .dict ds, _, n, h => by simp [PyData.hasDict] at n
theorem rp_dpAll : ∀ (ds : List PyData) (vs : List V), PyData.hasDictAll ds = false → RpAll K H vs ds → DpAll K H vs ds
  | [], _, _, h => by
    cases h
    exact .nil
  | d :: ds, _, n, h => by
    simp only [PyData.hasDictAll, Bool.or_eq_false_iff] at n
    cases h with
    | cons a b => exact .cons (rp_dp d _ n.1 a) (rp_dpAll ds _ n.2 b)
end
/-- the name of a thing's type -/
def tyN : PyData → String
  | .none => "NoneType"
  | .bool _ => "bool"
  | .int _ => "int"
  | .str _ => "str"
  | .list _ => "list"
  | .tuple _ => "tuple"
  | .dict _ => "dict"
theorem rp_ty {v : V} {d : PyData} (h : Rp K H v d) : TyX K H v (.type (tyN d)) := by
  cases h with
  | non => exact .base .non
  | bl b => exact .base (.bl b)
  | int i => exact .base (.int i)
  | str x => exact .base (.str x)
  | lst e r => exact .base (.lst e)
  | tup e r => exact .base (.tup e)
  | dic e r q => exact .base (.dK e)
end
/-- H without what stands at b -/
def hide (b : Addr) (H : Hp) : Hp := fun a => if a = b then none else H a
theorem hide_same (b : Addr) (H : Hp) : Same (hide b H) H := fun a o e => by
  by_cases h : a = b
  · rw [show hide b H a = none from if_pos h] at e
    cases e
  · rwa [show hide b H a = H a from if_neg h] at e
theorem hide_ne {b a : Addr} {H : Hp} (h : a ≠ b) : hide b H a = H a := if_neg h
theorem hide_at {b : Addr} {H : Hp} : hide b H b = none := if_pos rfl
theorem hide_but {b : Addr} {H H' : Hp} (h : But b H H') : Same (hide b H) (hide b H') := fun a o e => by
  have n : a ≠ b := fun z => by
    rw [z, hide_at] at e
    cases e
  rw [hide_ne n] at e ⊢
  exact h a o n e
theorem hide_upd {b : Addr} {H : Hp} {o : HO} : hide b (upd H b o) = hide b H := by
  funext a
  by_cases h : a = b
  · rw [h, hide_at, hide_at]
  · rw [hide_ne h, hide_ne h, upd_ne h]
/-- what is new is not in what stood -/
theorem hide_new {b : Addr} {H : Hp} (h : H b = none) : Same H (hide b H) := fun a o e => by
  rw [hide_ne (ne_of_none e h)]
  exact e
theorem hide_mono {b : Addr} {H H' : Hp} (h : Same H H') : Same (hide b H) (hide b H') := hide_but fun c o _ e => h c o e
theorem hide_hide {b c : Addr} {H : Hp} : hide b (hide c H) = hide c (hide b H) := by
  funext a
  unfold hide
  split <;> split <;> rfl
end G
set_option Elab.async false
set_option linter.all false
set_option maxRecDepth 100000
set_option maxHeartbeats 2000000
/-! V3: the items of a list, in a drawn order. -/
namespace G
open PySem PySem.Spec PyProof.Rows L2
abbrev sMixed : Stmt := topS 31
theorem scMixed : FnScope ["_law_box_here", "_law_some", "_law_left", "_law_found"] ["_law_box_here", "_law_some"] (defScope sMixed) := ⟨rfl, rfl, rfl, by decide +kernel, rfl, by decide +kernel, by decide +kernel⟩
/-- data that == takes: no dict, texts that can be compared, not too deep -/
def lay (d : PyData) : Prop := d.hasDict = false ∧ d.canLay0 = true ∧ d.depth ≤ 60
theorem lay_all : ∀ {ds : List PyData}, (∀ d ∈ ds, lay d) → PyData.hasDictAll ds = false ∧ PyData.canLayAll0 ds = true ∧ PyData.depthAll ds ≤ 60
  | [], _ => ⟨rfl, rfl, Nat.zero_le _⟩
  | d :: ds, h => by
    obtain ⟨a1, a2, a3⟩ := h d List.mem_cons_self
    obtain ⟨b1, b2, b3⟩ := lay_all (ds := ds) fun e he => h e (List.mem_cons_of_mem _ he)
    refine ⟨?_, ?_, ?_⟩
    · rw [PyData.hasDictAll, a1, b1]
      rfl
    · rw [PyData.canLayAll0, a2, b2]
      rfl
    · rw [PyData.depthAll]
      exact Nat.max_le.mpr ⟨a3, b3⟩
theorem lay_shaped {d : PyData} (h : lay d) : SeqAt.shaped d = true := by
  unfold SeqAt.shaped
  rw [h.2.1, decide_eq_true (Nat.le_trans h.2.2 (by decide))]
  rfl
theorem lay_list {ds : List PyData} (h : ∀ d ∈ ds, lay d) : SeqAt.shaped (.list ds) = true := by
  obtain ⟨_, b2, b3⟩ := lay_all h
  unfold SeqAt.shaped
  rw [PyData.canLay0, b2, decide_eq_true (show (PyData.list ds).depth ≤ 64 by rw [PyData.depth]; omega)]
  rfl
/-- values and what they show -/
abbrev Vd := V × PyData
theorem rp_pairs {K : PySem.W.Frag} {H : Hp} : ∀ {qs : List Vd}, (∀ p ∈ qs, Rp K H p.1 p.2) → RpAll K H (qs.map (·.1)) (qs.map (·.2))
  | [], _ => .nil
  | p :: qs, h => .cons (h p List.mem_cons_self) (rp_pairs fun q hq => h q (List.mem_cons_of_mem _ hq))
theorem dp_pairs {K : PySem.W.Frag} {H : Hp} {qs : List Vd} (h : ∀ p ∈ qs, Rp K H p.1 p.2) (l : ∀ p ∈ qs, lay p.2) : DpAll K H (qs.map (·.1)) (qs.map (·.2)) :=
  rp_dpAll _ _ (lay_all (ds := qs.map (·.2)) fun d hd => by
    obtain ⟨p, hp, rfl⟩ := List.mem_map.mp hd
    exact l p hp).1 (rp_pairs h)
theorem erase_map {α β : Type} (f : α → β) : ∀ (l : List α) (j : Nat), (l.map f).eraseIdx j = (l.eraseIdx j).map f
  | [], _ => rfl
  | _ :: _, 0 => rfl
  | x :: l, j + 1 => by
    show f x :: (l.map f).eraseIdx j = f x :: (l.eraseIdx j).map f
    rw [erase_map f l j]
theorem erase_perm {α : Type} : ∀ {l : List α} {j : Nat} (h : j < l.length), ([l[j]] ++ l.eraseIdx j).Perm l
  | _ :: _, 0, _ => .refl _
  | x :: l, j + 1, h => by
    have hj : j < l.length := by simpa using h
    have ih := erase_perm hj
    show (l[j] :: x :: l.eraseIdx j).Perm (x :: l)
    exact (List.Perm.swap x _ _).trans (List.Perm.cons x ih)
/-- some: any order of its items, in a new list -/
def spMixed (K : PySem.W.Frag) : Sp := fun vs H Q _ => ∃ (b a : Addr) (n : Nat) (ps : List Vd), vs = [.ref b, .ref a] ∧ BoxAt H b n ∧ n + ps.length ≤ 100000 ∧ (SqL K H a (ps.map (·.1)) ∨ SqT K H a (ps.map (·.1))) ∧
  (∀ p ∈ ps, lay p.2 ∧ ∀ H', But b H H' → Rp K H' p.1 p.2) ∧
  ∀ (p : Addr) (H' : Hp) (qs : List Vd), qs.Perm ps → H p = none → H' p = some (.lst (qs.map (·.1))) → BoxAt H' b (n + ps.length) → But b H H' → Q (.ref p) H'
theorem eqv_nil (ds : List PyData) : PyData.eqv (.list ds) (.list []) = ds.isEmpty := by
  cases ds with
  | nil => rfl
  | cons d ds => rfl
section
variable {P : Program} {w : World} {K : PySem.W.Frag} {mg : Str → Option Value} {base : Heap}
theorem ok_mixed {f fT : Addr} {fd fdT : FuncData} (F : Fun K "_law_mixed" "_law_mixed" sMixed f fd) (T : Fun K "_law_take" "_law_take" sTake fT fdT) (bT : Binds K fdT ["_law_box_here", "_law_many"] []) (gT : mg "_law_take" = some (.ref fT))
    (ml : mg "len" = none) (mL : mg "list" = none) : FnOk P w K mg base CX0 2 f fd ["_law_box_here", "_law_some"] (spMixed K) := by
  refine F.ok scMixed (fun vs H Q E h => ?_) (fun cdv A outer s H vs Q E hr h => ?_)
  · obtain ⟨b, a, n, ps, rfl, _⟩ := h
    rfl
  · obtain ⟨b, a, n, ps, rfl, B, hn, hS, hp, q⟩ := h
    have big : ∀ {k : Nat}, k ≤ 100000 → k < sizeLine := fun {k} h => by
      rw [sizeLine_eq]
      omega
    refine ⟨_, pss_cons (ps_par (i := 2) (j := 3) (by rfl) scMixed.nd rfl rfl (by decide) rfl rfl (pa_cons (pe_callTy call_list_of (by rfl) mL (by decide +kernel) (pa_cons (pv 1) pa_nil)) (pa_cons (pe_lst pa_nil) pa_nil)) (by rfl))
      (pss_cons (ps_while PassesOwn.never (pt_cmpR (op_neD hr.units) (pv 2) (pe_lst pa_nil) (nomark _))
        (pss_one (ps_expr (pe_bm PySem.F.plainAttrs_list PySem.F.slot_list_append PySem.F.type_list_append mt_append (pv 3) (pa_cons
          (pe_bm PySem.F.plainAttrs_list PySem.F.slot_list_pop PySem.F.type_list_pop mt_popAt (pv 2)
            (pa_cons (pe_call (ok_take T) hr rfl gT T.kp bT .nil pass0 (pa_cons (pv 0) (pa_cons (pe_callB call_len_seq (by rfl) ml PySem.boot_len (pa_cons (pv 2) pa_nil)) pa_nil))) pa_nil)) pa_nil)))))
      (pss_one (ps_ret (pv 3)))), ?_⟩
    refine ⟨_, rfl, a, _, rfl, hS, fun l hl => ⟨by decide, fun p hp0 => ⟨_, _, rfl, ?_⟩⟩⟩
    have nlp : l ≠ p := fun z => by
      rw [z, upd_same] at hp0
      cases hp0
    have hpn : H p = none := (upd_ne nlp.symm).symm.trans hp0
    have nbl : b ≠ l := by
      obtain ⟨_, _, _, e, _⟩ := B
      exact ne_of_none e hl
    have nbp : b ≠ p := by
      obtain ⟨_, _, _, e, _⟩ := B
      exact ne_of_none e hpn
    refine ⟨fun m σ H1 => ∃ qs rs : List Vd, m = qs.length ∧ σ = [some (.ref b), some (.ref a), some (.ref l), some (.ref p)] ∧ H1 l = some (.lst (qs.map (·.1))) ∧ H1 p = some (.lst (rs.map (·.1))) ∧
        (rs ++ qs).Perm ps ∧ BoxAt H1 b (n + rs.length) ∧ But b H H1, ⟨ps.length, ps, [], rfl, rfl, ?_, upd_same, .refl _, ?_, ?_⟩, ?_⟩
    · rw [upd_ne nlp, upd_same]
    · exact (B.keep fun o e => by rw [upd_ne nbp, upd_ne nbl]; exact e).mono (Nat.le_add_right _ _)
    · exact (But.new hl).trans (But.new hp0)
    · rintro m σ H1 ⟨qs, rs, rfl, rfl, el, ep, pm, B1, s1⟩
      have hq : ∀ x ∈ qs, x ∈ ps := fun x hx => pm.mem_iff.mp (List.mem_append_right _ hx)
      have hlen : rs.length + qs.length = ps.length := by
        rw [← List.length_append]
        exact pm.length_eq
      refine ⟨_, rfl, by decide, fun t ht => ?_⟩
      have nlt : l ≠ t := ne_of_none el ht
      have s2 : But b H (upd H1 t (.lst [])) := s1.trans (But.new ht)
      refine ⟨.list (qs.map fun x : Vd => x.2), .list [], .lst (xs := qs.map fun x : Vd => x.1) (.of (by rw [upd_ne nlt]; exact el)) (dp_pairs (fun x hx => (hp x (hq x hx)).2 _ s2) fun x hx => (hp x (hq x hx)).1), .lst (.of upd_same) .nil, lay_list (fun d hd => ?_), by rfl, _, rfl, ?_⟩
      · obtain ⟨x, hx, rfl⟩ := List.mem_map.mp hd
        exact (hp x (hq x hx)).1
      · rw [eqv_nil]
        cases qs with
        | nil =>
          refine iteF ?_
          refine ⟨_, rfl, ?_⟩
          rw [List.append_nil] at pm
          refine q p _ rs pm hpn ?_ ?_ s2
          · rw [upd_ne (ne_of_none ep ht)]
            exact ep
          · have e : rs.length = ps.length := pm.length_eq
            rw [← e]
            exact B1.keep fun o e => by rw [upd_ne (ne_of_none e ht)]; exact e
        | cons y ys =>
          refine iteT ?_
          have hlen' : rs.length + (ys.length + 1) = ps.length := hlen
          refine ⟨fun σ' H' => ∃ m', m' < (y :: ys).length ∧ ∃ qs rs : List Vd, m' = qs.length ∧ σ' = [some (.ref b), some (.ref a), some (.ref l), some (.ref p)] ∧ H' l = some (.lst (qs.map (·.1))) ∧ H' p = some (.lst (rs.map (·.1))) ∧
            (rs ++ qs).Perm ps ∧ BoxAt H' b (n + rs.length) ∧ But b H H', fun _ _ h => h, ?_⟩
          have ep2 : upd H1 t (.lst []) p = some (.lst (rs.map (·.1))) := by
            rw [upd_ne (ne_of_none ep ht)]
            exact ep
          have el2 : upd H1 t (.lst []) l = some (.lst ((y :: ys).map (·.1))) := by
            rw [upd_ne nlt]
            exact el
          have B2 : BoxAt (upd H1 t (.lst [])) b (n + rs.length) := B1.keep fun o e => by rw [upd_ne (ne_of_none e ht)]; exact e
          refine ⟨_, rfl, .inl ⟨rfl, _, .of ep2⟩, _, rfl, .inl ⟨rfl, _, .of el2⟩, _, rfl, _, rfl, l, _, rfl, .inl (.of el2), b, _, n + rs.length, rfl, B2, by omega, ?_, ?_, fun r H3 r0 r1 B3 s3 => ?_⟩
          · rw [List.length_map]
            show (0 : Int) < ((ys.length + 1 : Nat) : Int)
            omega
          · rw [List.length_map]
            show ((ys.length + 1 : Nat) : Int) < _
            have : ys.length + 1 ≤ 100000 := by omega
            omega
          · obtain ⟨j, rfl, hj⟩ := draw_at r0 r1 (n := (y :: ys).length) (by rw [List.length_map])
            have el3 : H3 l = some (.lst ((y :: ys).map (·.1))) := s3 _ _ nbl.symm el2
            have ep3 : H3 p = some (.lst (rs.map (·.1))) := s3 _ _ nbp.symm ep2
            have hjm : j < ((y :: ys).map (·.1)).length := by
              rw [List.length_map]
              exact hj
            have hj5 : j < 100000 := by
              have e : (y :: ys).length = ys.length + 1 := rfl
              omega
            refine ⟨l, _, (j : Int), j, ((y :: ys)[j]).1, rfl, rfl, el3, by omega, by omega, ?_, ?_, ?_⟩
            · have := PySem.seqIndex_of (k := (j : Int)) (n := ((y :: ys).map (·.1)).length) (by omega) (by omega)
              rw [this]
              rfl
            · rw [List.getElem?_map, List.getElem?_eq_getElem hj]
              rfl
            · refine ⟨p, _, _, rfl, rfl, by rw [upd_ne nlp.symm]; exact ep3, ?_, ?_⟩
              · rw [List.length_map]
                exact big (by omega)
              · refine ⟨((y :: ys).eraseIdx j).length, ?_, (y :: ys).eraseIdx j, rs ++ [(y :: ys)[j]], rfl, rfl, ?_, ?_, ?_, ?_, ?_⟩
                · rw [List.length_eraseIdx, if_pos hj]
                  show (ys.length + 1) - 1 < ys.length + 1
                  omega
                · rw [upd_ne nlp, upd_same, erase_map]
                · rw [upd_same, List.map_append]
                  rfl
                · rw [List.append_assoc]
                  refine List.Perm.trans (List.Perm.append_left rs ?_) pm
                  exact erase_perm hj
                · rw [List.length_append, List.length_singleton]
                  exact B3.keep fun o e => by rw [upd_ne nbp, upd_ne nbl]; exact e
                · intro c o nc e
                  have e3 := (s2.trans s3) c o nc e
                  rw [upd_ne (ne_of_none e hpn), upd_ne (ne_of_none e hl)]
                  exact e3
end
end G
set_option Elab.async false
set_option linter.all false
set_option maxRecDepth 100000
set_option maxHeartbeats 2000000
/-! V4: drawn names. -/
namespace G
open PySem PySem.Spec PyProof.Rows L2
abbrev sNames : Stmt := topS 32
abbrev nNames : List Str := ["_law_box_here", "_law_many", "_law_letters", "_law_way", "_law_cut", "_law_begin", "_law_step", "_law_stem", "_law_k", "_law_found", "_law_letter", "_law_name"]
theorem scNames : FnScope nNames ["_law_box_here", "_law_many"] (defScope sNames) := ⟨rfl, rfl, rfl, by decide +kernel, rfl, by decide +kernel, by decide +kernel⟩
abbrev cs (z : Str) : List Nat := z.cps.toList
theorem cs_len (z : Str) : (cs z).length = z.length := by simp [cs, Str.length]
theorem cs_app (a b : Str) : cs (a ++ b) = cs a ++ cs b := TL.tl_append a b
theorem app_len (a b : Str) : (a ++ b).length = a.length + b.length := strLen_append a b
theorem small_size {n : Nat} (h : n ≤ 7000) : n ≤ sizeLine := by
  rw [sizeLine_eq]
  omega
theorem box_new {H : Hp} {b p : Addr} {n : Nat} {o : HO} (B : BoxAt H b n) (h : H p = none) : BoxAt (upd H p o) b n := B.keep fun o' e => Same.new h b o' e
theorem box_ne {H : Hp} {b p : Addr} {n : Nat} (B : BoxAt H b n) (h : H p = none) : p ≠ b := fun z => by
  obtain ⟨_, _, _, e, _⟩ := B
  rw [← z, h] at e
  cases e
theorem box_upd {H : Hp} {b p : Addr} {n : Nat} {o : HO} (B : BoxAt H b n) (h : p ≠ b) : BoxAt (upd H p o) b n := by
  obtain ⟨x, y, z, e, r⟩ := B
  exact ⟨x, y, z, (upd_ne h.symm).trans e, r⟩
/-- a store at what was new -/
theorem but_upd {b p : Addr} {H H1 : Hp} {o : HO} (k : But b H H1) (h : H p = none) : But b H (upd H1 p o) := fun c u n e => by
  rw [upd_ne (ne_of_none e h)]
  exact k c u n e
theorem free_of {b p : Addr} {H H' : Hp} (k : But b H H') (n : p ≠ b) (h : H' p = none) : H p = none := by
  cases e : H p with
  | none => rfl
  | some o =>
    rw [k p o n e] at h
    cases h
/-! ### names -/
def LowZ (z : Str) : Prop := ∀ c ∈ cs z, 97 ≤ c ∧ c ≤ 122
def NameZ (z : Str) : Prop := LowZ z ∧ 1 ≤ z.length ∧ z.length ≤ 8
def NameI (y : Str) (i : Nat) : Prop := LowZ y ∧ 1 ≤ y.length ∧ y.length ≤ 8 ∧ (26 ≤ i → y.length ≤ 7)
theorem LowZ.app {a b : Str} (h1 : LowZ a) (h2 : LowZ b) : LowZ (a ++ b) := fun c hc => by
  rw [cs_app] at hc
  rcases List.mem_append.mp hc with h | h
  · exact h1 c h
  · exact h2 c h
theorem LowZ.cut {a : Str} (h : LowZ a) (lo hi : Option Int) : LowZ (cutS a lo hi) := fun c hc => by
  have hc' : c ∈ ((cs a).drop _).take _ := hc
  exact h c (List.mem_of_mem_drop (List.mem_of_mem_take hc'))
theorem low_one {c : Nat} (h : 97 ≤ c ∧ c ≤ 122) : LowZ ⟨#[c]⟩ := fun x hx => by
  have : x ∈ [c] := hx
  rw [List.mem_singleton.mp this]
  exact h
theorem LowZ.lay {z : Str} (h : LowZ z) : lay (.str z) := by
  refine ⟨rfl, ?_, Nat.zero_le _⟩
  show z.cps.all (· < 0x110000) = true
  rw [Array.all_eq_true]
  intro i hi
  have := h z.cps[i] (by simp [cs])
  exact decide_eq_true (by omega)
abbrev abc : Str := "abcdefghijklmnopqrstuvwxyz"
theorem abc_low : LowZ abc := by
  have h : ((cs abc).all fun c => decide (97 ≤ c ∧ c ≤ 122)) = true := by decide +kernel
  exact fun c hc => of_decide_eq_true (List.all_eq_true.mp h c hc)
theorem abc_at {j : Nat} (hj : j < 26) : ∃ c, abc.cps[j]? = some c ∧ 97 ≤ c ∧ c ≤ 122 := by
  have h1 : j < abc.cps.size := hj
  refine ⟨abc.cps[j], by simp [h1], abc_low _ ?_⟩
  simp [cs]
theorem cut_first (z : Str) (k : Nat) : cs (cutS z none (some (k : Int))) = (cs z).take k := by
  show ((cs z).drop (HT.sIx z.length 0 none)).take (HT.sIx z.length z.length (some (k : Int)) - HT.sIx z.length 0 none) = _
  rw [HT.sIx_none, HT.sIx_nat z.length z.length k, List.drop_zero, ← cs_len, Nat.sub_zero]
  by_cases h : k ≤ (cs z).length
  · rw [Nat.min_eq_left h]
  · rw [Nat.min_eq_right (by omega), List.take_length, List.take_of_length_le (by omega)]
theorem cut_len (z : Str) (k : Nat) : (cutS z none (some (k : Int))).length = min k z.length := by
  rw [← cs_len, cut_first, List.length_take, cs_len]
def spNames : Sp := fun vs H Q _ => ∃ (b : Addr) (m n : Nat), vs = [.ref b, .int (m : Int)] ∧ BoxAt H b n ∧ n ≤ 50000 ∧ m ≤ 100 ∧
  ∀ (p : Addr) (H' : Hp) (zs : List Str), zs.length = m → (∀ z ∈ zs, NameZ z) → H p = none → H' p = some (.lst (zs.map V.str)) → BoxAt H' b (n + 11 + m) → But b H H' → Q (.ref p) H'
section
variable {P : Program} {w : World} {K : PySem.W.Frag} {mg : Str → Option Value} {base : Heap}
theorem ok_names {f fT fM : Addr} {fd fdT fdM : FuncData} (F : Fun K "_law_names" "_law_names" sNames f fd) (T : Fun K "_law_take" "_law_take" sTake fT fdT) (bT : Binds K fdT ["_law_box_here", "_law_many"] []) (gT : mg "_law_take" = some (.ref fT))
    (M : Fun K "_law_mixed" "_law_mixed" sMixed fM fdM) (bM : Binds K fdM ["_law_box_here", "_law_some"] []) (gM : mg "_law_mixed" = some (.ref fM)) (ml : mg "len" = none) (mL : mg "list" = none) (mr : mg "range" = none) :
    FnOk P w K mg base CX0 3 f fd ["_law_box_here", "_law_many"] spNames := by
  have GT : FnOk P w K mg base CX0 1 fT fdT ["_law_box_here", "_law_many"] spTake := ok_take T
  have GM : FnOk P w K mg base CX0 2 fM fdM ["_law_box_here", "_law_some"] (spMixed K) := ok_mixed M T bT gT ml mL
  refine F.ok scNames (fun vs H Q E h => ?_) (fun cdv A outer s H vs Q E hr h => ?_)
  · obtain ⟨b, m, n, rfl, _⟩ := h
    rfl
  · obtain ⟨b, m, n, rfl, B, hn, hm, q⟩ := h
    have hr1 := hr.mono (show 1 ≤ 2 by decide)
    obtain ⟨ts, psl, qsl⟩ : ∃ t, PSs (cxOf CX0 P w K mg base nNames "_law_names" (defScope sNames) f cdv A outer s H E).nox ((defBody sNames).drop 5) t ∧
        ∀ (way cut bg st : Nat) (z : Str) (x8 : Option V) (H1 : Hp), cut ≤ 7 → (26 < m → cut ≤ 6) → bg < 26 → st ≤ 17 → LowZ z → z.length = 7 → BoxAt H1 b (n + 11) → But b H H1 → t { nx := fun _ H' => Q .non H', rt := Q } [some (.ref b), some (.int (m : Int)), some (.str abc), some (.int (way : Int)), some (.int (cut : Int)), some (.int (bg : Int)), some (.int (st : Int)), some (.str z), x8, none, none, none] H1 := by
      refine ⟨_, pss_cons (ps_set (i := 9) scNames.nd rfl (.inl rfl) (pe_lst pa_nil))
      (pss_cons (ps_for PassesOwn.never rfl (pi_range1 rfl mr (pa_cons (pv 1) pa_nil)) (pg_name (i := 8) scNames.nd rfl (.inl rfl))
        (pss_cons (ps_set (i := 10) scNames.nd rfl (.inl rfl) (pe_item_str (pv 2) (pe_op op_mod (pe_op op_add (pv 5) (pe_op op_mul (pv 6) (pv 8))) pe_int) (fun _ _ => rfl)))
        (pss_cons (ps_set (i := 11) scNames.nd rfl (.inl rfl) (pe_op op_add_str (pe_slice sl_str (pv 7) po_none (po_some (pv 4))) (pv 10)))
        (pss_cons (ps_if (PW.pt (pw_and (pt_cmpR op_eq (pv 3) pe_int (nomark _)) (pw_and1 (pt_cmpR op_lt (pv 1) pe_int (nomark _)))))
          (pss_one (ps_set (i := 11) scNames.nd rfl (.inl rfl) (pe_op op_add_str (pv 10) (pe_slice sl_str (pv 7) po_none (po_some (pe_op op_mod (pe_op op_add (pv 4) (pe_op op_mul pe_int (pv 8))) pe_int)))))) pss_nil)
        (pss_one (ps_expr (pe_bm PySem.F.plainAttrs_list PySem.F.slot_list_append PySem.F.type_list_append mt_append (pv 9) (pa_cons
          (pe_ifExp (pt_cmpR op_lt (pv 8) pe_int (nomark _)) (pv 11) (pe_op op_add_str (pv 11) (pe_item_str (pv 2) (pe_op op_fdiv (pv 8) pe_int) (fun _ _ => rfl)))) pa_nil))))))))
      (pss_one (ps_ret (pv 9)))), ?_⟩
      intro way cut bg st z x8 H1 hcut hcut2 hbg hst hz hl B1 k1
      refine ⟨Nat.zero_le _, fun D hD => ?_⟩
      have nD := box_ne B1 hD
      have fD := free_of k1 nD hD
      refine ⟨_, rfl, _, rfl, by omega, by omega, ?_⟩
      rw [Int.toNat_natCast m]
      refine for_range (lo := 0) (n := m) (fun i σ H2 => ∃ (zs : List Str) (x8 x10 x11 : Option V), σ = [some (.ref b), some (.int (m : Int)), some (.str abc), some (.int (way : Int)), some (.int (cut : Int)), some (.int (bg : Int)), some (.int (st : Int)), some (.str z), x8, some (.ref D), x10, x11] ∧
        H2 D = some (.lst (zs.map V.str)) ∧ zs.length = i ∧ (∀ y ∈ zs, NameZ y) ∧ BoxAt H2 b (n + 11) ∧ But b H H2) ?_ ?_ ?_
      · exact ⟨[], x8, none, none, rfl, upd_same, rfl, (fun y h => nomatch h), box_new B1 hD, but_upd k1 fD⟩
      · rintro i σ H2 hi ⟨zs, x8, x10, x11, rfl, e2, hlz, hy, B2, k2⟩
        have r := emod_in ((bg : Int) + (st : Int) * (0 + (i : Int))) 26 (by decide)
        obtain ⟨j, ej, hj⟩ := draw_at r.1 r.2 (n := 26) rfl
        obtain ⟨c, hc, c97⟩ := abc_at hj
        refine ⟨_, rfl, _, rfl, _, rfl, _, rfl, _, _, rfl, rfl, .inl ⟨by omega, by omega⟩, _, _, rfl, rfl, _, _, rfl, rfl, (by show (0 : Int) < 26; decide), _, _, c, rfl, rfl, r.1, by omega, (show _ < ((26 : Nat) : Int) by omega), (by rw [ej]; exact hc), ?_⟩
        have lo := low_one c97
        have len1 : (⟨#[c]⟩ : Str).length = 1 := rfl
        generalize (⟨#[c]⟩ : Str) = lt at lo len1
        have cl := cut_len z cut
        refine ⟨_, rfl, _, rfl, _, rfl, z, rfl, small_size (by omega), _, rfl, _, _, rfl, rfl, small_size (by omega), ?_⟩
        have Y0 : LowZ (cutS z none (some (cut : Int)) ++ lt) ∧ 1 ≤ (cutS z none (some (cut : Int)) ++ lt).length ∧ (cutS z none (some (cut : Int)) ++ lt).length ≤ 8 ∧ (26 ≤ i → (cutS z none (some (cut : Int)) ++ lt).length ≤ 7) := by
          rw [app_len]
          exact ⟨(hz.cut _ _).app lo, by omega, by omega, fun _ => by omega⟩
        have r8 := emod_in ((cut : Int) + 3 * (0 + (i : Int))) 8 (by decide)
        refine ⟨_, rfl, rfl, _, rfl, ite2 (fun _ => ?_) (fun _ => ?_)⟩
        · refine ⟨_, rfl, _, _, rfl, rfl, _, rfl, ite2 (fun h27 => ?_) (fun _ => ?_)⟩
          · have hm27 : (m : Int) < 27 := of_decide_eq_true h27
            obtain ⟨j8, ej8, hj8⟩ := draw_at r8.1 r8.2 (n := 8) rfl
            have cl8 := cut_len z j8
            refine ⟨_, rfl, _, rfl, _, rfl, _, rfl, _, _, rfl, rfl, .inl ⟨by decide, by decide⟩, _, _, rfl, rfl, _, _, rfl, rfl, (by show (0 : Int) < 8; decide), _, rfl, z, rfl, small_size (by omega), _, _, rfl, rfl, ?_, ?_⟩
            · rw [ej8, len1]
              exact small_size (by omega)
            have Y : NameI (lt ++ cutS z none (some (((cut : Int) + 3 * (0 + (i : Int))) % 8))) i := by
              unfold NameI
              rw [ej8, app_len]
              exact ⟨lo.app (hz.cut _ _), by omega, by omega, fun h => by omega⟩
            revert Y
            generalize (lt ++ cutS z none (some (((cut : Int) + 3 * (0 + (i : Int))) % 8))) = y
            intro Y
            obtain ⟨y1, y2, y3, y4⟩ := Y
            have done : ∀ (u : Str) (x8 x10 x11 : Option V), NameZ u → ∃ (zs' : List Str) (x8' x10' x11' : Option V), [some (V.ref b), some (.int (m : Int)), some (.str abc), some (.int (way : Int)), some (.int (cut : Int)), some (.int (bg : Int)), some (.int (st : Int)), some (.str z), x8, some (.ref D), x10, x11] = [some (.ref b), some (.int (m : Int)), some (.str abc), some (.int (way : Int)), some (.int (cut : Int)), some (.int (bg : Int)), some (.int (st : Int)), some (.str z), x8', some (.ref D), x10', x11'] ∧
                upd H2 D (.lst (zs.map V.str ++ [.str u])) D = some (.lst (zs'.map V.str)) ∧ zs'.length = i + 1 ∧ (∀ y ∈ zs', NameZ y) ∧ BoxAt (upd H2 D (.lst (zs.map V.str ++ [.str u]))) b (n + 11) ∧ But b H (upd H2 D (.lst (zs.map V.str ++ [.str u]))) := fun u x8 x10 x11 hu => by
              refine ⟨zs ++ [u], x8, x10, x11, rfl, ?_, ?_, fun v hv => ?_, box_upd B2 nD, but_upd k2 fD⟩
              · rw [upd_same, List.map_append]
                rfl
              · rw [List.length_append, hlz]
                rfl
              · rcases List.mem_append.mp hv with hv | hv
                · exact hy v hv
                · rw [List.mem_singleton.mp hv]
                  exact hu
            have room : (zs.map V.str).length < sizeLine := by
              rw [List.length_map]
              exact small1000 (by omega)
            refine ⟨_, rfl, .inl ⟨rfl, _, .of e2⟩, _, rfl, _, _, rfl, rfl, _, rfl, ite2 (fun h26 => ?_) (fun h26 => ?_)⟩
            · exact ⟨_, rfl, D, _, _, rfl, rfl, e2, room, done y _ _ _ ⟨y1, y2, y3⟩⟩
            · have h26' : ¬ ((0 + (i : Int)) < 26) := fun h => h26 (decide_eq_true h)
              have yl := y4 (by omega)
              have hd : (0 + (i : Int)) / 26 = ((i / 26 : Nat) : Int) := by omega
              obtain ⟨c2, hc2, c297⟩ := abc_at (j := i / 26) (by omega)
              refine ⟨_, rfl, _, rfl, _, rfl, _, _, rfl, rfl, ⟨by decide, by decide⟩, _, _, c2, rfl, rfl, by omega, by omega, (show _ < ((26 : Nat) : Int) by omega), (by rw [hd]; exact hc2), _, _, rfl, rfl, ?_, D, _, _, rfl, rfl, e2, room, ?_⟩
              · show y.length + 1 ≤ sizeLine
                exact small_size (by omega)
              · have l2 : (y ++ (⟨#[c2]⟩ : Str)).length = y.length + 1 := app_len y ⟨#[c2]⟩
                exact done (y ++ ⟨#[c2]⟩) _ _ _ ⟨y1.app (low_one c297), by omega, by omega⟩
          · have Y : NameI (cutS z none (some (cut : Int)) ++ lt) i := Y0
            revert Y
            generalize (cutS z none (some (cut : Int)) ++ lt) = y
            intro Y
            obtain ⟨y1, y2, y3, y4⟩ := Y
            have done : ∀ (u : Str) (x8 x10 x11 : Option V), NameZ u → ∃ (zs' : List Str) (x8' x10' x11' : Option V), [some (V.ref b), some (.int (m : Int)), some (.str abc), some (.int (way : Int)), some (.int (cut : Int)), some (.int (bg : Int)), some (.int (st : Int)), some (.str z), x8, some (.ref D), x10, x11] = [some (.ref b), some (.int (m : Int)), some (.str abc), some (.int (way : Int)), some (.int (cut : Int)), some (.int (bg : Int)), some (.int (st : Int)), some (.str z), x8', some (.ref D), x10', x11'] ∧
                upd H2 D (.lst (zs.map V.str ++ [.str u])) D = some (.lst (zs'.map V.str)) ∧ zs'.length = i + 1 ∧ (∀ y ∈ zs', NameZ y) ∧ BoxAt (upd H2 D (.lst (zs.map V.str ++ [.str u]))) b (n + 11) ∧ But b H (upd H2 D (.lst (zs.map V.str ++ [.str u]))) := fun u x8 x10 x11 hu => by
              refine ⟨zs ++ [u], x8, x10, x11, rfl, ?_, ?_, fun v hv => ?_, box_upd B2 nD, but_upd k2 fD⟩
              · rw [upd_same, List.map_append]
                rfl
              · rw [List.length_append, hlz]
                rfl
              · rcases List.mem_append.mp hv with hv | hv
                · exact hy v hv
                · rw [List.mem_singleton.mp hv]
                  exact hu
            have room : (zs.map V.str).length < sizeLine := by
              rw [List.length_map]
              exact small1000 (by omega)
            refine ⟨_, rfl, .inl ⟨rfl, _, .of e2⟩, _, rfl, _, _, rfl, rfl, _, rfl, ite2 (fun h26 => ?_) (fun h26 => ?_)⟩
            · exact ⟨_, rfl, D, _, _, rfl, rfl, e2, room, done y _ _ _ ⟨y1, y2, y3⟩⟩
            · have h26' : ¬ ((0 + (i : Int)) < 26) := fun h => h26 (decide_eq_true h)
              have yl := y4 (by omega)
              have hd : (0 + (i : Int)) / 26 = ((i / 26 : Nat) : Int) := by omega
              obtain ⟨c2, hc2, c297⟩ := abc_at (j := i / 26) (by omega)
              refine ⟨_, rfl, _, rfl, _, rfl, _, _, rfl, rfl, ⟨by decide, by decide⟩, _, _, c2, rfl, rfl, by omega, by omega, (show _ < ((26 : Nat) : Int) by omega), (by rw [hd]; exact hc2), _, _, rfl, rfl, ?_, D, _, _, rfl, rfl, e2, room, ?_⟩
              · show y.length + 1 ≤ sizeLine
                exact small_size (by omega)
              · have l2 : (y ++ (⟨#[c2]⟩ : Str)).length = y.length + 1 := app_len y ⟨#[c2]⟩
                exact done (y ++ ⟨#[c2]⟩) _ _ _ ⟨y1.app (low_one c297), by omega, by omega⟩
        · have Y : NameI (cutS z none (some (cut : Int)) ++ lt) i := Y0
          revert Y
          generalize (cutS z none (some (cut : Int)) ++ lt) = y
          intro Y
          obtain ⟨y1, y2, y3, y4⟩ := Y
          have done : ∀ (u : Str) (x8 x10 x11 : Option V), NameZ u → ∃ (zs' : List Str) (x8' x10' x11' : Option V), [some (V.ref b), some (.int (m : Int)), some (.str abc), some (.int (way : Int)), some (.int (cut : Int)), some (.int (bg : Int)), some (.int (st : Int)), some (.str z), x8, some (.ref D), x10, x11] = [some (.ref b), some (.int (m : Int)), some (.str abc), some (.int (way : Int)), some (.int (cut : Int)), some (.int (bg : Int)), some (.int (st : Int)), some (.str z), x8', some (.ref D), x10', x11'] ∧
              upd H2 D (.lst (zs.map V.str ++ [.str u])) D = some (.lst (zs'.map V.str)) ∧ zs'.length = i + 1 ∧ (∀ y ∈ zs', NameZ y) ∧ BoxAt (upd H2 D (.lst (zs.map V.str ++ [.str u]))) b (n + 11) ∧ But b H (upd H2 D (.lst (zs.map V.str ++ [.str u]))) := fun u x8 x10 x11 hu => by
            refine ⟨zs ++ [u], x8, x10, x11, rfl, ?_, ?_, fun v hv => ?_, box_upd B2 nD, but_upd k2 fD⟩
            · rw [upd_same, List.map_append]
              rfl
            · rw [List.length_append, hlz]
              rfl
            · rcases List.mem_append.mp hv with hv | hv
              · exact hy v hv
              · rw [List.mem_singleton.mp hv]
                exact hu
          have room : (zs.map V.str).length < sizeLine := by
            rw [List.length_map]
            exact small1000 (by omega)
          refine ⟨_, rfl, .inl ⟨rfl, _, .of e2⟩, _, rfl, _, _, rfl, rfl, _, rfl, ite2 (fun h26 => ?_) (fun h26 => ?_)⟩
          · exact ⟨_, rfl, D, _, _, rfl, rfl, e2, room, done y _ _ _ ⟨y1, y2, y3⟩⟩
          · have h26' : ¬ ((0 + (i : Int)) < 26) := fun h => h26 (decide_eq_true h)
            have yl := y4 (by omega)
            have hd : (0 + (i : Int)) / 26 = ((i / 26 : Nat) : Int) := by omega
            obtain ⟨c2, hc2, c297⟩ := abc_at (j := i / 26) (by omega)
            refine ⟨_, rfl, _, rfl, _, rfl, _, _, rfl, rfl, ⟨by decide, by decide⟩, _, _, c2, rfl, rfl, by omega, by omega, (show _ < ((26 : Nat) : Int) by omega), (by rw [hd]; exact hc2), _, _, rfl, rfl, ?_, D, _, _, rfl, rfl, e2, room, ?_⟩
            · show y.length + 1 ≤ sizeLine
              exact small_size (by omega)
            · have l2 : (y ++ (⟨#[c2]⟩ : Str)).length = y.length + 1 := app_len y ⟨#[c2]⟩
              exact done (y ++ ⟨#[c2]⟩) _ _ _ ⟨y1.app (low_one c297), by omega, by omega⟩
      · rintro σ H2 ⟨zs, x8, x10, x11, rfl, e2, hlz, hy, B2, k2⟩
        exact ⟨_, rfl, q D H2 zs hlz hy fD e2 (B2.mono (by omega)) k2⟩
    obtain ⟨tl, pl, ql⟩ : ∃ t, PSs (cxOf CX0 P w K mg base nNames "_law_names" (defScope sNames) f cdv A outer s H E).nox ((defBody sNames).drop 2) t ∧
        ∀ (way cut bg : Nat) (H1 : Hp), cut ≤ 7 → (26 < m → cut ≤ 6) → bg < 26 → BoxAt H1 b (n + 3) → But b H H1 → t { nx := fun _ H' => Q .non H', rt := Q } [some (.ref b), some (.int (m : Int)), some (.str abc), some (.int (way : Int)), some (.int (cut : Int)), some (.int (bg : Int)), none, none, none, none, none, none] H1 := by
      refine ⟨_, pss_cons (ps_asg (pe_tup (pa_cons (pe_ix ix_list (pe_lst (pa_cons pe_int (pa_cons pe_int (pa_cons pe_int (pa_cons pe_int (pa_cons pe_int (pa_cons pe_int (pa_cons pe_int (pa_cons pe_int pa_nil)))))))))
          (pe_call GT hr1 rfl gT T.kp bT .nil pass0 (pa_cons (pv 0) (pa_cons pe_int pa_nil))) (fun _ _ => rfl)) (pa_cons pe_str pa_nil)))
        (pg_tup (by rfl) (pgs_cons (pg_name (i := 6) scNames.nd rfl (.inl rfl)) (pgs_cons (pg_name (i := 7) scNames.nd rfl (.inr rfl)) pgs_nil))))
      (pss_cons (ps_for PassesOwn.never rfl (pi_range1 rfl mr (pa_cons pe_int pa_nil)) (pg_name (i := 8) scNames.nd rfl (.inl rfl))
        (pss_one (ps_set (i := 7) scNames.nd rfl (.inr rfl) (pe_op op_add_str (pv 7) (pe_item_str (pv 2) (pe_call GT hr1 rfl gT T.kp bT .nil pass0 (pa_cons (pv 0) (pa_cons pe_int pa_nil))) (fun _ _ => rfl))))))
      (pss_cons (ps_if (PW.pt (pw_and (pt_cmpR op_eq (pv 3) pe_int (nomark _)) (pw_and1 (pt_cmpR op_lt (pv 1) pe_int (nomark _)))))
        (pss_one (ps_ret (pe_call GM hr rfl gM M.kp bM .nil pass0 (pa_cons (pv 0) (pa_cons (pe_lc (own := [("_law_k", 8)]) (g := gName 8) (tt := tYes) (by rfl) scNames.nd (pi_range1 rfl mr (pa_cons (pv 1) pa_nil))
          (blkOk_by (own := [("_law_k", 8)]) (N := nNames) (sc := defScope sNames) (by decide +kernel)) (fun _ _ _ _ _ => pg_name (i := 8) scNames.nd rfl (.inl rfl)) (fun _ _ _ _ _ => pts_nil)
          (fun _ _ _ _ _ => pe_slice sl_str (pe_op op_add_str (pv 7) (pe_item_str (pv 2) (pv 5) (fun _ _ => rfl))) po_none (po_some (pe_op op_add (pv 8) pe_int)))) pa_nil))))) pss_nil)
      psl)), ?_⟩
      intro way cut bg H1 hcut hcut2 hbg B1 k1
      refine ⟨(by show 8 ≤ sizeLine; decide), fun p1 hp1 => ?_⟩
      have np1 := box_ne B1 hp1
      refine ⟨_, rfl, b, 8, n + 3, rfl, box_new B1 hp1, by omega, by decide, by decide, fun r H2 r0 r1 B2 k2 => ?_⟩
      obtain ⟨j, rfl, hj⟩ := draw_at (n := 8) r0 r1 rfl
      have e2 := k2 _ _ np1 upd_same
      have kk2 : But b H H2 := (k1.trans (But.new hp1)).trans k2
      obtain ⟨st, hst, hst17⟩ : ∃ st : Nat, ([.int 1, .int 3, .int 5, .int 7, .int 9, .int 11, .int 15, .int 17] : List V)[j]? = some (.int (st : Int)) ∧ st ≤ 17 := by
        match j, hj with
        | 0, _ => exact ⟨1, rfl, by decide⟩
        | 1, _ => exact ⟨3, rfl, by decide⟩
        | 2, _ => exact ⟨5, rfl, by decide⟩
        | 3, _ => exact ⟨7, rfl, by decide⟩
        | 4, _ => exact ⟨9, rfl, by decide⟩
        | 5, _ => exact ⟨11, rfl, by decide⟩
        | 6, _ => exact ⟨15, rfl, by decide⟩
        | 7, _ => exact ⟨17, rfl, by decide⟩
      refine ⟨p1, _, _, .int (st : Int), rfl, rfl, .of e2, atI_nat hst, (by show 2 ≤ sizeLine; decide), fun p2 hp2 => ?_⟩
      have np2 := box_ne B2 hp2
      refine ⟨p2, _, rfl, .of upd_same, rfl, _, _, rfl, _, _, rfl, rfl, ?_⟩
      have B3 : BoxAt (upd H2 p2 (.tup [.int (st : Int), .str ""])) b (n + 4) := box_new B2 hp2
      have k3 : But b H (upd H2 p2 (.tup [.int (st : Int), .str ""])) := kk2.trans (But.new hp2)
      generalize upd H2 p2 (.tup [.int (st : Int), .str ""]) = H3 at B3 k3
      -- the stem
      refine ⟨_, rfl, by decide, by decide, ?_⟩
      refine for_range (lo := 0) (n := 7) (fun i σ H4 => ∃ (z : Str) (x8 : Option V), σ = [some (.ref b), some (.int (m : Int)), some (.str abc), some (.int (way : Int)), some (.int (cut : Int)), some (.int (bg : Int)), some (.int (st : Int)), some (.str z), x8, none, none, none] ∧ LowZ z ∧ z.length = i ∧ BoxAt H4 b (n + 4 + i) ∧ But b H H4) ?_ ?_ ?_
      · exact ⟨"", none, rfl, (fun c h => nomatch h), rfl, B3, k3⟩
      · rintro i σ H4 hi ⟨z, x8, rfl, hz, hl, B4, k4⟩
        refine ⟨_, rfl, _, rfl, _, rfl, b, 26, n + 4 + i, rfl, B4, by omega, by decide, by decide, fun r H5 r0 r1 B5 k5 => ?_⟩
        obtain ⟨j, rfl, hj⟩ := draw_at (n := 26) r0 r1 rfl
        obtain ⟨c, hc, c97⟩ := abc_at hj
        refine ⟨_, _, c, rfl, rfl, by omega, by omega, (show ((j : Nat) : Int) < ((26 : Nat) : Int) by omega), hc, ?_⟩
        refine ⟨_, _, rfl, rfl, ?_, ?_⟩
        · show z.length + 1 ≤ sizeLine
          rw [sizeLine_eq]
          omega
        · refine ⟨z ++ ⟨#[c]⟩, _, rfl, hz.app (low_one c97), ?_, B5, k4.trans k5⟩
          rw [app_len, hl]
          rfl
      · rintro σ H4 ⟨z, x8, rfl, hz, hl, B4, k4⟩
        -- from here on two ways
        have namesOf : ∀ (zs : List Str) (qs : List Vd), qs.Perm (zs.map fun z => (V.str z, PyData.str z)) → (∀ z ∈ zs, NameZ z) →
            ∃ ys : List Str, qs.map (·.1) = ys.map V.str ∧ ys.length = zs.length ∧ ∀ y ∈ ys, NameZ y := fun zs qs pm hz => by
          have each : ∀ x ∈ qs, ∃ y, x = (V.str y, PyData.str y) ∧ NameZ y := fun x hx => by
            obtain ⟨y, hy, e⟩ := List.mem_map.mp (pm.mem_iff.mp hx)
            exact ⟨y, e.symm, hz y hy⟩
          have hlen : qs.length = zs.length := by
            rw [pm.length_eq, List.length_map]
          rw [← hlen]
          clear pm hlen
          induction qs with
          | nil => exact ⟨[], rfl, rfl, fun y hy => nomatch hy⟩
          | cons x qs ih =>
            obtain ⟨y, rfl, hy⟩ := each x List.mem_cons_self
            obtain ⟨ys, e1, e2, e3⟩ := ih fun x hx => each x (List.mem_cons_of_mem _ hx)
            refine ⟨y :: ys, ?_, congrArg (· + 1) e2, fun u hu => ?_⟩
            · rw [List.map_cons, e1]
              rfl
            · rcases List.mem_cons.mp hu with rfl | hu
              · exact hy
              · exact e3 u hu
        have mInt : (m : Int).toNat = m := Int.toNat_natCast m
        refine ⟨_, rfl, rfl, _, rfl, ite2 (fun _ => ?_) (fun _ => ?_)⟩
        · refine ⟨_, rfl, _, _, rfl, rfl, _, rfl, ite2 (fun h9 => ?_) (fun _ => ?_)⟩
          · have hm9 : (m : Int) < 9 := of_decide_eq_true h9
            refine ⟨_, rfl, _, rfl, _, rfl, by omega, by omega, fun D hD => ?_⟩
            have nD := box_ne B4 hD
            have fD := free_of k4 nD hD
            rw [mInt]
            refine lc_range (lo := 0) (n := m) (fun i H5 => ∃ ys : List Str, H5 D = some (.lst (ys.map V.str)) ∧ ys.length = i ∧ (∀ y ∈ ys, NameZ y) ∧ BoxAt H5 b (n + 11) ∧ But b H H5) ?_ ?_ ?_
            · exact ⟨[], upd_same, rfl, (fun y h => nomatch h), box_new B4 hD, but_upd k4 fD⟩
            · rintro i H5 hi ⟨ys, e5, hl5, hy, B5, k5⟩
              refine ⟨rfl, ?_⟩
              unfold tYes
              dsimp only
              rw [if_pos rfl]
              obtain ⟨c, hc, c97⟩ := abc_at hbg
              refine ⟨_, rfl, _, rfl, _, rfl, _, _, c, rfl, rfl, by omega, by omega, (show ((bg : Nat) : Int) < ((26 : Nat) : Int) by omega), hc, _, _, rfl, rfl, ?_, ?_⟩
              · show z.length + 1 ≤ sizeLine
                rw [sizeLine_eq]
                omega
              have lz : (z ++ ⟨#[c]⟩).length = 8 := by
                rw [app_len, hl]
                rfl
              refine ⟨_, rfl, _, _, rfl, rfl, _, rfl, _, rfl, small_size (by omega), ?_⟩
              have e0 : (0 + (i : Int) + 1 : Int) = ((i + 1 : Nat) : Int) := by omega
              rw [e0]
              have cl := cut_len (z ++ ⟨#[c]⟩) (i + 1)
              refine ⟨_, e5, ?_, ys ++ [cutS (z ++ ⟨#[c]⟩) none (some ((i + 1 : Nat) : Int))], ?_, ?_, ?_, ?_, ?_⟩
              · rw [List.length_map]
                exact small1000 (by omega)
              · rw [upd_same, List.map_append]
                rfl
              · rw [List.length_append, hl5]
                rfl
              · intro y h
                rcases List.mem_append.mp h with h | h
                · exact hy y h
                · rw [List.mem_singleton.mp h]
                  exact ⟨(hz.app (low_one c97)).cut _ _, by omega, by omega⟩
              · exact box_upd B5 nD
              · exact but_upd k5 fD
            · rintro H5 ⟨ys, e5, hl5, hy, B5, k5⟩
              refine ⟨b, D, n + 11, ys.map fun z => (V.str z, PyData.str z), rfl, B5, ?_, .inl (.of ?_), ?_, fun p H6 qs pm np e6 B6 k6 => ?_⟩
              · rw [List.length_map]
                omega
              · rw [e5, List.map_map]
                rfl
              · intro x hx
                obtain ⟨y, hyy, rfl⟩ := List.mem_map.mp hx
                exact ⟨(hy y hyy).1.lay, fun H' _ => .str y⟩
              · obtain ⟨us, u1, u2, u3⟩ := namesOf ys qs pm hy
                rw [u1] at e6
                rw [List.length_map, hl5] at B6
                exact q p H6 us (u2.trans hl5) u3 (free_of k5 (box_ne B5 np) np) e6 B6 (k5.trans k6)
          · exact qsl way cut bg st z x8 H4 hcut hcut2 hbg hst17 hz hl B4 k4
        · exact qsl way cut bg st z x8 H4 hcut hcut2 hbg hst17 hz hl B4 k4
    refine ⟨_, pss_cons (ps_set (i := 2) scNames.nd rfl (.inr rfl) pe_str)
      (pss_cons (ps_asg (pe_tup (pa_cons (pe_call GT hr1 rfl gT T.kp bT .nil pass0 (pa_cons (pv 0) (pa_cons pe_int pa_nil)))
          (pa_cons (pe_call GT hr1 rfl gT T.kp bT .nil pass0 (pa_cons (pv 0) (pa_cons (pe_ifExp (pt_cmpR op_lt (pv 1) pe_int (nomark _)) pe_int pe_int) pa_nil)))
          (pa_cons (pe_call GT hr1 rfl gT T.kp bT .nil pass0 (pa_cons (pv 0) (pa_cons pe_int pa_nil))) pa_nil))))
        (pg_tup (by rfl) (pgs_cons (pg_name (i := 3) scNames.nd rfl (.inl rfl)) (pgs_cons (pg_name (i := 4) scNames.nd rfl (.inl rfl)) (pgs_cons (pg_name (i := 5) scNames.nd rfl (.inr rfl)) pgs_nil))))) pl), ?_⟩
    refine ⟨_, rfl, b, 4, n, rfl, B, by omega, by decide, by decide, fun way H1 w0 w1 B1 k1 => ?_⟩
    obtain ⟨way, rfl, _⟩ := draw_at (n := 4) w0 w1 rfl
    refine ⟨_, rfl, _, rfl, _, _, rfl, rfl, _, rfl, ite2 (fun hm27 => ?_) (fun hm27 => ?_)⟩
    · refine ⟨b, 8, n + 1, rfl, B1, by omega, by decide, by decide, fun cut H2 c0 c1 B2 k2 => ?_⟩
      obtain ⟨cut, rfl, hcut⟩ := draw_at (n := 8) c0 c1 rfl
      refine ⟨_, rfl, b, 26, n + 2, rfl, B2, by omega, by decide, by decide, fun bg H3 g0 g1 B3 k3 => ?_⟩
      obtain ⟨bg, rfl, hbg⟩ := draw_at (n := 26) g0 g1 rfl
      refine ⟨(by show 3 ≤ sizeLine; decide), fun p hp => ⟨p, _, rfl, .of upd_same, rfl, _, _, rfl, _, _, rfl, _, _, rfl, rfl, ?_⟩⟩
      have hm' : (m : Int) < 27 := of_decide_eq_true hm27
      exact ql way cut bg _ (by omega) (by omega) hbg (box_new B3 hp) (((k1.trans k2).trans k3).trans (But.new hp))
    · refine ⟨b, 7, n + 1, rfl, B1, by omega, by decide, by decide, fun cut H2 c0 c1 B2 k2 => ?_⟩
      obtain ⟨cut, rfl, hcut⟩ := draw_at (n := 7) c0 c1 rfl
      refine ⟨_, rfl, b, 26, n + 2, rfl, B2, by omega, by decide, by decide, fun bg H3 g0 g1 B3 k3 => ?_⟩
      obtain ⟨bg, rfl, hbg⟩ := draw_at (n := 26) g0 g1 rfl
      refine ⟨(by show 3 ≤ sizeLine; decide), fun p hp => ⟨p, _, rfl, .of upd_same, rfl, _, _, rfl, _, _, rfl, _, _, rfl, rfl, ?_⟩⟩
      exact ql way cut bg _ (by omega) (by omega) hbg (box_new B3 hp) (((k1.trans k2).trans k3).trans (But.new hp))
end
end G
set_option Elab.async false
set_option linter.all false
set_option maxRecDepth 100000
set_option maxHeartbeats 2000000
/-! V5: a drawn number, a drawn value of some fields. -/
namespace G
open PySem PySem.Spec PyProof.Rows L2
abbrev sNumber : Stmt := topS 33
abbrev sValue : Stmt := topS 34
theorem scNumber : FnScope ["_law_box_here", "_law_some"] ["_law_box_here"] (defScope sNumber) := ⟨rfl, rfl, rfl, by decide +kernel, rfl, by decide +kernel, by decide +kernel⟩
theorem scValue : FnScope ["_law_box_here", "_law_fields", "_law_found", "_law_part"] ["_law_box_here", "_law_fields"] (defScope sValue) := ⟨rfl, rfl, rfl, by decide +kernel, rfl, by decide +kernel, by decide +kernel⟩
def spNumber : Sp := fun vs H Q _ => ∃ (b : Addr) (n : Nat), vs = [.ref b] ∧ BoxAt H b n ∧ n ≤ 90000 ∧ ∀ (i : Int) (H' : Hp), -999 ≤ i → i ≤ 999 → BoxAt H' b (n + 3) → But b H H' → Q (.int i) H'
/-- some of the fields, each with a number -/
def ValN (zs : List Str) (kvs : List (Key × V)) : Prop := ∀ p ∈ kvs, ∃ z i, p = (Sum.inr z, V.int i) ∧ z ∈ zs ∧ -999 ≤ i ∧ i ≤ 999
def spValue (K : PySem.W.Frag) : Sp := fun vs H Q _ => ∃ (b a : Addr) (n : Nat) (zs : List Str), vs = [.ref b, .ref a] ∧ BoxAt H b n ∧ n ≤ 80000 ∧ H a = some (.lst (zs.map V.str)) ∧ (∀ z ∈ zs, NameZ z) ∧ 1 ≤ zs.length ∧ zs.length ≤ 100 ∧ a ≠ b ∧
  ∀ (p : Addr) (H' : Hp) (kvs : List (Key × V)), H p = none → H' p = some (.dK kvs) → (kvs.map (·.1)).Nodup → ValN zs kvs → 1 ≤ kvs.length → kvs.length ≤ 6 → kvs.length ≤ zs.length → BoxAt H' b (n + 201 + 3 * 6) → But b H H' → Q (.ref p) H'
/-- an order of texts is made of these texts -/
theorem texts_of : ∀ {zs : List Str} {qs : List Vd}, qs.Perm (zs.map fun z => (V.str z, PyData.str z)) → ∃ ys : List Str, qs.map (·.1) = ys.map V.str ∧ ys.length = zs.length ∧ ∀ y ∈ ys, y ∈ zs := by
  intro zs qs pm
  have each : ∀ x ∈ qs, ∃ y, x = (V.str y, PyData.str y) ∧ y ∈ zs := fun x hx => by
    obtain ⟨y, hy, e⟩ := List.mem_map.mp (pm.mem_iff.mp hx)
    exact ⟨y, e.symm, hy⟩
  have hlen : qs.length = zs.length := by
    rw [pm.length_eq, List.length_map]
  rw [← hlen]
  clear pm hlen
  induction qs with
  | nil => exact ⟨[], rfl, rfl, fun y hy => nomatch hy⟩
  | cons x qs ih =>
    obtain ⟨y, rfl, hy⟩ := each x List.mem_cons_self
    obtain ⟨ys, e1, e2, e3⟩ := ih fun x hx => each x (List.mem_cons_of_mem _ hx)
    refine ⟨y :: ys, ?_, congrArg (· + 1) e2, fun u hu => ?_⟩
    · rw [List.map_cons, e1]
      rfl
    · rcases List.mem_cons.mp hu with rfl | hu
      · exact hy
      · exact e3 u hu
theorem mem_putK {kvs : List (Key × V)} {k : Key} {v : V} {p : Key × V} (h : p ∈ putK kvs k v) : p = (k, v) ∨ p ∈ kvs := by
  unfold putK at h
  split at h
  · obtain ⟨q, hq, e⟩ := List.mem_map.mp h
    by_cases z : q.1 = k
    · rw [if_pos z] at e
      left
      rw [← e, z]
    · rw [if_neg z] at e
      right
      rw [← e]
      exact hq
  · rcases List.mem_append.mp h with h | h
    · exact .inr h
    · exact .inl (List.mem_singleton.mp h)
theorem putK_pos (kvs : List (Key × V)) (k : Key) (v : V) : 1 ≤ (putK kvs k v).length := by
  unfold putK
  split
  · rename_i h
    obtain ⟨x, hx, _⟩ := List.any_eq_true.mp h
    rw [List.length_map]
    exact List.length_pos_of_mem hx
  · rw [List.length_append]
    exact Nat.le_add_left 1 _
theorem ValN.put {zs : List Str} {kvs : List (Key × V)} (h : ValN zs kvs) {z : Str} {i : Int} (hz : z ∈ zs) (h1 : -999 ≤ i) (h2 : i ≤ 999) : ValN zs (putK kvs (Sum.inr z) (.int i)) := fun p hp => by
  rcases mem_putK hp with e | hp
  · exact ⟨z, i, e, hz, h1, h2⟩
  · exact h p hp
theorem cutV_first (xs : List V) (k : Nat) (h : k ≤ xs.length) : cutV xs none (some (k : Int)) = xs.take k := by
  unfold cutV
  rw [HT.sIx_none, HT.sIx_nat, List.drop_zero, Nat.min_eq_left h, Nat.sub_zero]
section
variable {P : Program} {w : World} {K : PySem.W.Frag} {mg : Str → Option Value} {base : Heap}
theorem ok_number {f fT : Addr} {fd fdT : FuncData} (F : Fun K "_law_number" "_law_number" sNumber f fd) (T : Fun K "_law_take" "_law_take" sTake fT fdT) (bT : Binds K fdT ["_law_box_here", "_law_many"] []) (gT : mg "_law_take" = some (.ref fT)) :
    FnOk P w K mg base CX0 2 f fd ["_law_box_here"] spNumber := by
  have GT : FnOk P w K mg base CX0 1 fT fdT ["_law_box_here", "_law_many"] spTake := ok_take T
  refine F.ok scNumber (fun vs H Q E h => ?_) (fun cdv A outer s H vs Q E hr h => ?_)
  · obtain ⟨b, n, rfl, _⟩ := h
    rfl
  · obtain ⟨b, n, rfl, B, hn, q⟩ := h
    refine ⟨_, pss_cons (ps_set (i := 1) scNumber.nd rfl (.inl rfl) (pe_lst (pa_cons pe_int (pa_cons pe_int (pa_cons (pe_un un_neg pe_int) (pa_cons pe_int (pa_cons pe_int (pa_cons (pe_un un_neg pe_int)
        (pa_cons (pe_op op_sub (pe_call GT hr rfl gT T.kp bT .nil pass0 (pa_cons (pv 0) (pa_cons pe_int pa_nil))) pe_int) (pa_cons (pe_op op_sub (pe_call GT hr rfl gT T.kp bT .nil pass0 (pa_cons (pv 0) (pa_cons pe_int pa_nil))) pe_int) pa_nil))))))))))
      (pss_one (ps_ret (pe_ix ix_list (pv 1) (pe_call GT hr rfl gT T.kp bT .nil pass0 (pa_cons (pv 0) (pa_cons pe_int pa_nil))) (fun _ _ => rfl)))), ?_⟩
    refine ⟨_, rfl, _, rfl, _, rfl, b, 21, n, rfl, B, by omega, by decide, by decide, fun r1 H1 a0 a1 B1 k1 => ⟨_, _, rfl, rfl, _, rfl, b, 1999, n + 1, rfl, B1, by omega, by decide, by decide, fun r2 H2 c0 c1 B2 k2 => ⟨_, _, rfl, rfl, (by show 8 ≤ sizeLine; decide), fun p hp => ?_⟩⟩⟩
    have np := box_ne B2 hp
    refine ⟨_, rfl, _, rfl, b, 8, n + 2, rfl, box_new B2 hp, by omega, by decide, by decide, fun r3 H3 d0 d1 B3 k3 => ?_⟩
    obtain ⟨j, rfl, hj⟩ := draw_at (n := 8) d0 d1 rfl
    have e3 := k3 _ _ np upd_same
    obtain ⟨i, hi, h1, h2⟩ : ∃ i : Int, ([.int 0, .int 1, .int (-1), .int 2, .int 999, .int (-999), .int (r1 - 10), .int (r2 - 999)] : List V)[j]? = some (.int i) ∧ -999 ≤ i ∧ i ≤ 999 := by
      match j, hj with
      | 0, _ => exact ⟨0, rfl, by decide, by decide⟩
      | 1, _ => exact ⟨1, rfl, by decide, by decide⟩
      | 2, _ => exact ⟨-1, rfl, by decide, by decide⟩
      | 3, _ => exact ⟨2, rfl, by decide, by decide⟩
      | 4, _ => exact ⟨999, rfl, by decide, by decide⟩
      | 5, _ => exact ⟨-999, rfl, by decide, by decide⟩
      | 6, _ => exact ⟨r1 - 10, rfl, by omega, by omega⟩
      | 7, _ => exact ⟨r2 - 999, rfl, by omega, by omega⟩
    exact ⟨p, _, _, .int i, rfl, rfl, .of e3, atI_nat hi, q i H3 h1 h2 B3 (((k1.trans k2).trans (But.new hp)).trans k3)⟩
theorem ok_value {f fT fM fN : Addr} {fd fdT fdM fdN : FuncData} (F : Fun K "_law_value" "_law_value" sValue f fd) (T : Fun K "_law_take" "_law_take" sTake fT fdT) (bT : Binds K fdT ["_law_box_here", "_law_many"] []) (gT : mg "_law_take" = some (.ref fT))
    (M : Fun K "_law_mixed" "_law_mixed" sMixed fM fdM) (bM : Binds K fdM ["_law_box_here", "_law_some"] []) (gM : mg "_law_mixed" = some (.ref fM))
    (Nm : Fun K "_law_number" "_law_number" sNumber fN fdN) (bN : Binds K fdN ["_law_box_here"] []) (gN : mg "_law_number" = some (.ref fN)) (ml : mg "len" = none) (mL : mg "list" = none) (mm : mg "min" = none) :
    FnOk P w K mg base CX0 3 f fd ["_law_box_here", "_law_fields"] (spValue K) := by
  have GT : FnOk P w K mg base CX0 1 fT fdT ["_law_box_here", "_law_many"] spTake := ok_take T
  have GM : FnOk P w K mg base CX0 2 fM fdM ["_law_box_here", "_law_some"] (spMixed K) := ok_mixed M T bT gT ml mL
  have GN : FnOk P w K mg base CX0 2 fN fdN ["_law_box_here"] spNumber := ok_number Nm T bT gT
  refine F.ok scValue (fun vs H Q E h => ?_) (fun cdv A outer s H vs Q E hr h => ?_)
  · obtain ⟨b, a, n, zs, rfl, _⟩ := h
    rfl
  · obtain ⟨b, a, n, zs, rfl, B, hn, hS, hz, l1, l100, nab, q⟩ := h
    have hr1 := hr.mono (show 1 ≤ 2 by decide)
    have hu := hu_of hr
    refine ⟨_, pss_cons (ps_set (i := 2) scValue.nd rfl (.inl rfl) pe_dnewK)
      (pss_cons (ps_for PassesOwn.never rfl (pi_list (pe_slice sl_list (pe_call GM hr rfl gM M.kp bM .nil pass0 (pa_cons (pv 0) (pa_cons (pv 1) pa_nil))) po_none
          (po_some (pe_op op_add pe_int (pe_call GT hr1 rfl gT T.kp bT .nil pass0 (pa_cons (pv 0) (pa_cons (pe_callB (call_min2 rfl) (by rfl) mm (by decide +kernel) (pa_cons pe_int (pa_cons (pe_callB call_len_seq (by rfl) ml PySem.boot_len (pa_cons (pv 1) pa_nil)) pa_nil))) pa_nil)))))))
        (pg_name (i := 3) scValue.nd rfl (.inl rfl))
        (pss_one (ps_dput hu (pv 2) (pv 3) (pe_call GN hr rfl gN Nm.kp bN .nil pass0 (pa_cons (pv 0) pa_nil)) rfl)))
      (pss_one (ps_ret (pv 2)))), ?_⟩
    intro d hd
    have nd := box_ne B hd
    refine ⟨_, rfl, _, rfl, b, a, n, zs.map fun z => (V.str z, PyData.str z), rfl, box_new B hd, ?_, .inl ?_, ?_, fun p H1 qs pm np e1 B1 k1 => ?_⟩
    · rw [List.length_map]
      omega
    · refine .of ?_
      rw [upd_ne (ne_of_none hS hd), hS, List.map_map]
      rfl
    · intro x hx
      obtain ⟨y, hyy, rfl⟩ := List.mem_map.mp hx
      exact ⟨(hz y hyy).1.lay, fun H' _ => .str y⟩
    · obtain ⟨ys, y1, y2, y3⟩ := texts_of pm
      rw [y1] at e1
      rw [List.length_map] at B1
      have nda : a ≠ d := ne_of_none hS hd
      have ea1 : H1 a = some (.lst (zs.map V.str)) := k1 _ _ nab ((upd_ne nda).trans hS)
      have ed1 : H1 d = some (.dK []) := k1 _ _ nd upd_same
      have kk1 : But b H H1 := (But.new hd).trans k1
      have npb : p ≠ b := by
        obtain ⟨x, y, z, e, _⟩ := B
        exact box_ne (box_new ⟨x, y, z, e, ‹_›⟩ hd) np
      have fp : H p = none := by
        by_cases z : p = d
        · rw [z] at np
          rw [upd_same] at np
          cases np
        · rwa [upd_ne z] at np
      have hmin : ∃ mn : Nat, (if ((List.map V.str zs).length : Int) < 6 then ((List.map V.str zs).length : Int) else 6) = (mn : Int) ∧ 1 ≤ mn ∧ mn ≤ 6 ∧ mn ≤ zs.length := by
        rw [List.length_map]
        by_cases h : (zs.length : Int) < 6
        · exact ⟨zs.length, if_pos h, l1, by omega, Nat.le_refl _⟩
        · exact ⟨6, if_neg h, by decide, by decide, by omega⟩
      obtain ⟨mn, emn, mn1, mn6, mnl⟩ := hmin
      refine ⟨_, rfl, _, rfl, a, _, rfl, .inl (.of ea1), _, _, rfl, ?_⟩
      rw [emn]
      refine ⟨b, mn, n + zs.length, rfl, B1, by omega, by omega, by omega, fun r H2 r0 r1 B2 k2 => ?_⟩
      obtain ⟨j, rfl, hj⟩ := draw_at (n := mn) r0 r1 rfl
      have e2 := k2 _ _ npb e1
      have ed2 := k2 _ _ nd ed1
      refine ⟨_, _, rfl, rfl, _, rfl, p, _, rfl, .of e2, fun p2 np2 => ?_⟩
      have ej : (1 + (j : Int) : Int) = ((1 + j : Nat) : Int) := by omega
      rw [ej, cutV_first _ (1 + j) (by rw [List.length_map]; omega), ← List.map_take]
      have nb2 := box_ne B2 np2
      have nd2 : d ≠ p2 := ne_of_none ed2 np2
      have kk2 : But b H H2 := kk1.trans k2
      have f2 : H p2 = none := free_of kk2 nb2 np2
      refine ⟨p2, rfl, ⟨_, .of upd_same⟩, ?_⟩
      have tl : ((ys.take (1 + j)).map V.str).length = 1 + j := by
        rw [List.length_map, List.length_take]
        omega
      refine for_list (xs := (ys.take (1 + j)).map V.str) (fun i σ H3 => ∃ (kvs : List (Key × V)) (x3 : Option V), σ = [some (.ref b), some (.ref a), some (.ref d), x3] ∧ H3 d = some (.dK kvs) ∧ (kvs.map (·.1)).Nodup ∧ ValN zs kvs ∧ kvs.length ≤ i ∧ (1 ≤ i → 1 ≤ kvs.length) ∧
        H3 p2 = some (.lst ((ys.take (1 + j)).map V.str)) ∧ BoxAt H3 b (n + zs.length + 1 + 3 * i) ∧ But b H H3) ?_ ?_ ?_ ?_
      · refine ⟨[], none, rfl, (upd_ne nd2).trans ed2, List.Pairwise.nil, (fun x hx => nomatch hx), Nat.le_refl _, (fun h => absurd h (by decide)), upd_same, box_new B2 np2, but_upd kk2 f2⟩
      · rintro i σ H3 _ ⟨kvs, x3, rfl, _, _, _, _, _, e3, _, _⟩
        exact .of e3
      · rintro i x σ H3 hx ⟨kvs, x3, rfl, ed3, nn3, v3, len3, pos3, e3, B3, k3⟩
        have hi : i < 1 + j := by
          rw [← tl]
          exact (List.getElem?_eq_some_iff.mp hx).1
        rw [List.getElem?_map] at hx
        obtain ⟨y, hy, rfl⟩ := Option.map_eq_some_iff.mp hx
        have hyz : y ∈ zs := y3 y (List.mem_of_mem_take (List.mem_of_getElem? hy))
        refine ⟨_, rfl, b, n + zs.length + 1 + 3 * i, rfl, B3, by omega, fun v H4 v0 v1 B4 k4 => ?_⟩
        have ed4 := k4 _ _ nd ed3
        have e4 := k4 _ _ nb2 e3
        refine ⟨_, rfl, _, rfl, d, _, rfl, DPut.k (k := Sum.inr y) ed4 (small1000 (by omega)), ?_⟩
        refine ⟨putK kvs (Sum.inr y) (.int v), _, rfl, upd_same, nodup_put nn3 _ _, v3.put hyz v0 v1, ?_, fun _ => putK_pos _ _ _, (upd_ne nd2.symm).trans e4, (box_upd B4 nd).mono (by omega), but_upd (k3.trans k4) hd⟩
        have := length_putK kvs (Sum.inr y) (.int v)
        omega
      · rintro σ H3 ⟨kvs, x3, rfl, ed3, nn3, v3, len3, pos3, e3, B3, k3⟩
        rw [tl] at len3 pos3 B3
        refine ⟨_, rfl, q d H3 kvs hd ed3 nn3 v3 (pos3 (by omega)) (by omega) (by omega) (B3.mono (by omega)) k3⟩
end
end G
set_option Elab.async false
set_option linter.all false
set_option maxRecDepth 100000
set_option maxHeartbeats 2000000
/-! P0: isinstance by the kind of a thing. -/
namespace G
open PySem PySem.Spec PyProof.Rows L2
def isI : PyData → Bool
  | .int _ => true
  | .bool _ => true
  | _ => false
def isB : PyData → Bool
  | .bool _ => true
  | _ => false
def isTup : PyData → Bool
  | .tuple _ => true
  | _ => false
def isLst : PyData → Bool
  | .list _ => true
  | _ => false
def isDic : PyData → Bool
  | .dict _ => true
  | _ => false
theorem kit_i {K : PySem.W.Frag} : ∀ d : PyData, PySem.W.kitOne K (.type (tyN d)) (.type "int") = some (isI d)
  | .none => kit_ty (a := "NoneType") (b := "int") (r := false) (by decide +kernel)
  | .bool _ => kit_ty (a := "bool") (b := "int") (r := true) (by decide +kernel)
  | .int _ => kit_ty (a := "int") (b := "int") (r := true) (by decide +kernel)
  | .str _ => kit_ty (a := "str") (b := "int") (r := false) (by decide +kernel)
  | .list _ => kit_ty (a := "list") (b := "int") (r := false) (by decide +kernel)
  | .tuple _ => kit_ty (a := "tuple") (b := "int") (r := false) (by decide +kernel)
  | .dict _ => kit_ty (a := "dict") (b := "int") (r := false) (by decide +kernel)
theorem kit_b {K : PySem.W.Frag} : ∀ d : PyData, PySem.W.kitOne K (.type (tyN d)) (.type "bool") = some (isB d)
  | .none => kit_ty (a := "NoneType") (b := "bool") (r := false) (by decide +kernel)
  | .bool _ => kit_ty (a := "bool") (b := "bool") (r := true) (by decide +kernel)
  | .int _ => kit_ty (a := "int") (b := "bool") (r := false) (by decide +kernel)
  | .str _ => kit_ty (a := "str") (b := "bool") (r := false) (by decide +kernel)
  | .list _ => kit_ty (a := "list") (b := "bool") (r := false) (by decide +kernel)
  | .tuple _ => kit_ty (a := "tuple") (b := "bool") (r := false) (by decide +kernel)
  | .dict _ => kit_ty (a := "dict") (b := "bool") (r := false) (by decide +kernel)
theorem kit_t {K : PySem.W.Frag} : ∀ d : PyData, PySem.W.kitOne K (.type (tyN d)) (.type "tuple") = some (isTup d)
  | .none => kit_ty (a := "NoneType") (b := "tuple") (r := false) (by decide +kernel)
  | .bool _ => kit_ty (a := "bool") (b := "tuple") (r := false) (by decide +kernel)
  | .int _ => kit_ty (a := "int") (b := "tuple") (r := false) (by decide +kernel)
  | .str _ => kit_ty (a := "str") (b := "tuple") (r := false) (by decide +kernel)
  | .list _ => kit_ty (a := "list") (b := "tuple") (r := false) (by decide +kernel)
  | .tuple _ => kit_ty (a := "tuple") (b := "tuple") (r := true) (by decide +kernel)
  | .dict _ => kit_ty (a := "dict") (b := "tuple") (r := false) (by decide +kernel)
theorem kit_l {K : PySem.W.Frag} : ∀ d : PyData, PySem.W.kitOne K (.type (tyN d)) (.type "list") = some (isLst d)
  | .none => kit_ty (a := "NoneType") (b := "list") (r := false) (by decide +kernel)
  | .bool _ => kit_ty (a := "bool") (b := "list") (r := false) (by decide +kernel)
  | .int _ => kit_ty (a := "int") (b := "list") (r := false) (by decide +kernel)
  | .str _ => kit_ty (a := "str") (b := "list") (r := false) (by decide +kernel)
  | .list _ => kit_ty (a := "list") (b := "list") (r := true) (by decide +kernel)
  | .tuple _ => kit_ty (a := "tuple") (b := "list") (r := false) (by decide +kernel)
  | .dict _ => kit_ty (a := "dict") (b := "list") (r := false) (by decide +kernel)
theorem kit_d {K : PySem.W.Frag} : ∀ d : PyData, PySem.W.kitOne K (.type (tyN d)) (.type "dict") = some (isDic d)
  | .none => kit_ty (a := "NoneType") (b := "dict") (r := false) (by decide +kernel)
  | .bool _ => kit_ty (a := "bool") (b := "dict") (r := false) (by decide +kernel)
  | .int _ => kit_ty (a := "int") (b := "dict") (r := false) (by decide +kernel)
  | .str _ => kit_ty (a := "str") (b := "dict") (r := false) (by decide +kernel)
  | .list _ => kit_ty (a := "list") (b := "dict") (r := false) (by decide +kernel)
  | .tuple _ => kit_ty (a := "tuple") (b := "dict") (r := false) (by decide +kernel)
  | .dict _ => kit_ty (a := "dict") (b := "dict") (r := true) (by decide +kernel)
def isS : PyData → Bool
  | .str _ => true
  | _ => false
theorem kit_s {K : PySem.W.Frag} : ∀ d : PyData, PySem.W.kitOne K (.type (tyN d)) (.type "str") = some (isS d)
  | .none => kit_ty (a := "NoneType") (b := "str") (r := false) (by decide +kernel)
  | .bool _ => kit_ty (a := "bool") (b := "str") (r := false) (by decide +kernel)
  | .int _ => kit_ty (a := "int") (b := "str") (r := false) (by decide +kernel)
  | .str _ => kit_ty (a := "str") (b := "str") (r := true) (by decide +kernel)
  | .list _ => kit_ty (a := "list") (b := "str") (r := false) (by decide +kernel)
  | .tuple _ => kit_ty (a := "tuple") (b := "str") (r := false) (by decide +kernel)
  | .dict _ => kit_ty (a := "dict") (b := "str") (r := false) (by decide +kernel)
/-- isinstance(x, int), by name -/
theorem pt_isi {X : Cx} {y : Str} {py : Pos} {te : TE} {n : Str} {p q pos : Pos} (T : String) (he : PE X (.Name y py) te) (hg : Gl X "isinstance" := by rfl) (hm : X.mg "isinstance" = none) (gn : Gl X n := by rfl) (mn : X.mg n = none) (hv : bootBuiltins n = some (.type T) := by decide +kernel)
    (hn : n ≠ "__name__" := by decide) (hd : (n == ("__debug__" : Str)) = false := by decide) :
    PE X (.Call (.Name "isinstance" p) [.Name y py, .Name n q] [] pos) (tCB (rIsi X.K) (tCons te (tCons (tC (.ty T)) tNil))) :=
  pe_callB call_isi hg hm (by decide +kernel) (pa_cons he (pa_cons (pe_bltn gn mn hv rfl hn hd) pa_nil))

end G
set_option Elab.async false
set_option linter.all false
set_option maxRecDepth 100000
set_option maxHeartbeats 2000000
/-! W1: checks that pass. -/
namespace G
open PySem PySem.Spec PyProof.Rows L2 NdefX
abbrev sIsInt : Stmt := topS 15
abbrev sIsName : Stmt := topS 16
abbrev sIsValue : Stmt := topS 17
abbrev sNeedName : Stmt := topS 20
abbrev sNeedValue : Stmt := topS 21
abbrev sNeedRecord : Stmt := topS 22
theorem scIsInt : FnScope ["value", "low", "high"] ["value", "low", "high"] (defScope sIsInt) := ⟨rfl, rfl, rfl, by decide +kernel, rfl, by decide +kernel, by decide +kernel⟩
theorem scIsName : FnScope ["value", "letter"] ["value"] (defScope sIsName) := ⟨rfl, rfl, rfl, by decide +kernel, rfl, by decide +kernel, by decide +kernel⟩
theorem scNeedName : FnScope ["value"] ["value"] (defScope sNeedName) := ⟨rfl, rfl, rfl, by decide +kernel, rfl, by decide +kernel, by decide +kernel⟩
theorem scIsValue : FnScope ["value", "field"] ["value"] (defScope sIsValue) := ⟨rfl, rfl, rfl, by decide +kernel, rfl, by decide +kernel, by decide +kernel⟩
theorem scNeedValue : FnScope ["value"] ["value"] (defScope sNeedValue) := ⟨rfl, rfl, rfl, by decide +kernel, rfl, by decide +kernel, by decide +kernel⟩
theorem scNeedRecord : FnScope ["key", "value"] ["key", "value"] (defScope sNeedRecord) := ⟨rfl, rfl, rfl, by decide +kernel, rfl, by decide +kernel, by decide +kernel⟩
/-- a record's value, of some names -/
structure ValOk (zs : List Str) (kvs : List (Key × V)) : Prop where
  nm : ∀ z ∈ zs, NameZ z
  is : ValN zs kvs
  pos : 1 ≤ kvs.length
  six : kvs.length ≤ 6
theorem valV_of {zs : List Str} {kvs : List (Key × V)} (h : ValN zs kvs) {i : Nat} {k : Key} {v : V} (e : kvs[i]? = some (k, v)) : ∃ (z : Str) (n : Int), k = Sum.inr z ∧ z ∈ zs ∧ valV kvs k = some (.int n) ∧ -999 ≤ n ∧ n ≤ 999 := by
  have hm := List.mem_of_getElem? e
  obtain ⟨z, j, ez, hz, _, _⟩ := h _ hm
  obtain ⟨rfl, _⟩ := Prod.mk.inj ez
  cases q : valV kvs (Sum.inr z) with
  | none =>
    exfalso
    have h2 : (kvs.find? fun kv => decide (kv.1 = (Sum.inr z : Key))) = none := by
      have : Option.map (fun p : Key × V => p.2) (kvs.find? fun kv => decide (kv.1 = (Sum.inr z : Key))) = none := q
      exact Option.map_eq_none_iff.mp this
    have h3 := List.find?_eq_none.mp h2 _ hm
    exact h3 (decide_eq_true rfl)
  | some x =>
    have h2 : Option.map (fun p : Key × V => p.2) (kvs.find? fun kv => decide (kv.1 = (Sum.inr z : Key))) = some x := q
    obtain ⟨p, hp, rfl⟩ := Option.map_eq_some_iff.mp h2
    obtain ⟨z2, n, ep, _, n1, n2⟩ := h p (List.mem_of_find?_eq_some hp)
    rw [ep]
    exact ⟨z, n, rfl, hz, rfl, n1, n2⟩
def spIsInt : Sp := fun vs H Q _ => ∃ v lo hi : Int, vs = [.int v, .int lo, .int hi] ∧ Q (.bl (decide (lo ≤ v) && decide (v ≤ hi))) H
def spIsName : Sp := fun vs H Q _ => ∃ z : Str, vs = [.str z] ∧ NameZ z ∧ ∀ H', Same H H' → Q (.bl true) H'
def spNeedName : Sp := fun vs H Q _ => ∃ z : Str, vs = [.str z] ∧ NameZ z ∧ ∀ H', Same H H' → Q .non H'
def spIsValue : Sp := fun vs H Q _ => ∃ (d : Addr) (zs : List Str) (kvs : List (Key × V)), vs = [.ref d] ∧ H d = some (.dK kvs) ∧ ValOk zs kvs ∧ ∀ H', Same H H' → Q (.bl true) H'
def spNeedValue : Sp := fun vs H Q _ => ∃ (d : Addr) (zs : List Str) (kvs : List (Key × V)), vs = [.ref d] ∧ H d = some (.dK kvs) ∧ ValOk zs kvs ∧ ∀ H', Same H H' → Q .non H'
def spNeedRecord : Sp := fun vs H Q _ => ∃ (y : Str) (d : Addr) (zs : List Str) (kvs : List (Key × V)), vs = [.str y, .ref d] ∧ NameZ y ∧ H d = some (.dK kvs) ∧ ValOk zs kvs ∧ ∀ H', Same H H' → Q .non H'
section
variable {P : Program} {w : World} {K : PySem.W.Frag} {mg : Str → Option Value} {base : Heap}
theorem ok_isint {f : Addr} {fd : FuncData} (F : Fun K "is_integer" "is_integer" sIsInt f fd) (mi : mg "isinstance" = none) (mn : mg "int" = none) (mb : mg "bool" = none) : FnOk P w K mg base CX0 1 f fd ["value", "low", "high"] spIsInt := by
  refine F.ok scIsInt (fun vs H Q E h => ?_) (fun cdv A outer s H vs Q E hr h => ?_)
  · obtain ⟨v, lo, hi, rfl, _⟩ := h
    rfl
  · obtain ⟨v, lo, hi, rfl, q⟩ := h
    refine ⟨_, pss_cons (ps_if (PW.pt (pw_or (pt_not (pt_val (pt_isi "int" (pv 0) (hm := mi) (mn := mn)))) (pw_or1 (pt_val (pt_isi "bool" (pv 0) (hm := mi) (mn := mb)))))) (pss_one (ps_ret pe_bl)) pss_nil)
      (pss_one (ps_ret (pe_chain op_le op_le (pv 1) (pv 0) (pv 2)))), ?_⟩
    have hR : Rp K H (.int v) (.int v) := .int v
    refine ⟨_, rfl, _, _, _, _, _, rfl, .ty _, rp_ty hR, kit_i (.int v), _, rfl, iteF ?_⟩
    refine ⟨_, rfl, _, _, _, _, _, rfl, .ty _, rp_ty hR, kit_b (.int v), _, rfl, iteF ?_⟩
    refine ⟨_, rfl, _, rfl, _, _, rfl, rfl, _, rfl, ?_⟩
    cases e : decide (lo ≤ v) with
    | false =>
      refine iteF ?_
      rw [e] at q
      exact q
    | true =>
      refine iteT ?_
      rw [e] at q
      exact ⟨_, rfl, _, _, rfl, rfl, q⟩
theorem ok_isname {f : Addr} {fd : FuncData} {t1 t2 : Tok} (F : Fun K "is_name" "is_name" sIsName f fd) (gM : mg "MOST_LETTERS" = some (.int 8 t1)) (gL : mg "LETTERS" = some (.str abc t2)) (mi : mg "isinstance" = none) (ms : mg "str" = none) (ml : mg "len" = none) (ma : mg "all" = none) :
    FnOk P w K mg base CX0 1 f fd ["value"] spIsName := by
  refine F.ok scIsName (fun vs H Q E h => ?_) (fun cdv A outer s H vs Q E hr h => ?_)
  · obtain ⟨z, rfl, _⟩ := h
    rfl
  · obtain ⟨z, rfl, ⟨hz, h1, h8⟩, q⟩ := h
    refine ⟨_, pss_cons (ps_if (PW.pt (pw_or (pt_not (pt_val (pt_isi "str" (pv 0) (hm := mi) (mn := ms)))) (pw_or1 (pt_not (pt_chain op_le op_le pe_int (pe_callB call_len_str (by rfl) ml PySem.boot_len (pa_cons (pv 0) pa_nil)) (pe_glob (v := .int 8) rfl gM ⟨_, rfl⟩))))))
        (pss_one (ps_ret pe_bl)) pss_nil)
      (pss_one (ps_ret (pe_callB (cr_all rfl) (by rfl) ma (by decide +kernel) (pa_cons (pe_lc (own := [("letter", 1)]) (g := gName 1) (tt := tYes) (by rfl) scIsName.nd (pi_str (pv 0))
        (blkOk_by (own := [("letter", 1)]) (N := ["value", "letter"]) (sc := defScope sIsName) (by decide +kernel)) (fun _ _ _ _ _ => pg_name (i := 1) scIsName.nd rfl (.inl rfl)) (fun _ _ _ _ _ => pts_nil)
        (fun _ _ _ _ _ => pe_cmpR op_in_sign (pv 1) (pe_glob (v := .str abc) rfl gL ⟨_, rfl⟩) (by rfl))) pa_nil)))), ?_⟩
    have hR : Rp K H (.str z) (.str z) := .str z
    refine ⟨_, rfl, _, _, _, _, _, rfl, .ty _, rp_ty hR, kit_s (.str z), _, rfl, iteF ?_⟩
    refine ⟨_, rfl, z, rfl, small_size (by omega), _, _, rfl, rfl, _, rfl, ?_⟩
    rw [decide_eq_true (show (1 : Int) ≤ (z.length : Int) by omega)]
    refine iteT ⟨_, _, rfl, rfl, _, rfl, ?_⟩
    rw [decide_eq_true (show (z.length : Int) ≤ 8 by omega)]
    refine iteF ?_
    refine ⟨_, rfl, z, rfl, fun D hD => ?_⟩
    refine lc_it walk_str (fun i H2 => Same H H2 ∧ H2 D = some (.lst ((List.replicate i true).map V.bl))) ?_ ?_ ?_ ?_
    · exact ⟨Same.new hD, upd_same⟩
    · exact fun _ _ _ _ => trivial
    · rintro i x H2 H3 hi ⟨s2, e2⟩ ⟨rfl, c, hc, rfl⟩
      have hc2 : (cs z)[i]? = some c := by
        rw [← hc, ← Array.getElem?_toList]
      have hzs : z.cps.size = z.length := rfl
      have c97 := hz c (List.mem_of_getElem? hc2)
      refine ⟨rfl, ?_⟩
      unfold tYes
      dsimp only
      rw [if_pos rfl]
      refine ⟨_, rfl, c, _, rfl, rfl, _, e2, ?_, fun a o e => ?_, ?_⟩
      · rw [List.length_map, List.length_replicate]
        exact Nat.lt_of_lt_of_le hi (small_size (by omega))
      · rw [upd_ne (ne_of_none e hD)]
        exact s2 _ _ e
      · have hin : decide (c ∈ abc.cps.toList) = true := decide_eq_true (by
          have e : abc.cps.toList = (List.range 26).map (97 + ·) := by decide +kernel
          rw [e]
          exact List.mem_map.mpr ⟨c - 97, List.mem_range.mpr (by omega), by omega⟩)
        rw [upd_same, hin, List.replicate_succ', List.map_append]
        rfl
    · rintro H2 ⟨s2, e2⟩
      refine ⟨D, _, rfl, .of e2, ?_⟩
      have ha : (List.replicate z.cps.size true).all id = true := by
        rw [List.all_eq_true]
        intro x hx
        rw [(List.mem_replicate.mp hx).2]
        rfl
      rw [ha]
      exact q H2 s2
theorem ok_needname {f fI : Addr} {fd fdI : FuncData} (F : Fun K "need_name" "need_name" sNeedName f fd) (I : Fun K "is_name" "is_name" sIsName fI fdI) (bI : Binds K fdI ["value"] []) (gI : mg "is_name" = some (.ref fI))
    (GI : FnOk P w K mg base CX0 1 fI fdI ["value"] spIsName) : FnOk P w K mg base CX0 2 f fd ["value"] spNeedName := by
  refine F.ok scNeedName (fun vs H Q E h => ?_) (fun cdv A outer s H vs Q E hr h => ?_)
  · obtain ⟨z, rfl, _⟩ := h
    rfl
  · obtain ⟨z, rfl, hz, q⟩ := h
    refine ⟨_, pss_one (ps_if (pt_not (pt_val (pe_call GI hr rfl gI I.kp bI .nil pass0 (pa_cons (pv 0) pa_nil)))) (pss_one ps_never) pss_nil), ?_⟩
    exact ⟨_, rfl, z, rfl, hz, fun H' s' => ⟨_, rfl, iteF (q H' s')⟩⟩
theorem ok_isvalue {f fN fI : Addr} {fd fdN fdI : FuncData} {t1 t2 : Tok} (F : Fun K "is_value" "is_value" sIsValue f fd) (N : Fun K "is_name" "is_name" sIsName fN fdN) (bN : Binds K fdN ["value"] []) (gN : mg "is_name" = some (.ref fN))
    (GN : FnOk P w K mg base CX0 1 fN fdN ["value"] spIsName) (I : Fun K "is_integer" "is_integer" sIsInt fI fdI) (bI : Binds K fdI ["value", "low", "high"] []) (gI : mg "is_integer" = some (.ref fI)) (GI : FnOk P w K mg base CX0 1 fI fdI ["value", "low", "high"] spIsInt)
    (gM : mg "MOST_FIELDS" = some (.int 6 t1)) (gG : mg "GREATEST" = some (.int 999 t2)) (mi : mg "isinstance" = none) (md : mg "dict" = none) (ml : mg "len" = none) (ma : mg "all" = none) :
    FnOk P w K mg base CX0 2 f fd ["value"] spIsValue := by
  refine F.ok scIsValue (fun vs H Q E h => ?_) (fun cdv A outer s H vs Q E hr h => ?_)
  · obtain ⟨d, zs, kvs, rfl, _⟩ := h
    rfl
  · obtain ⟨d, zs, kvs, rfl, hd, hv, q⟩ := h
    have hu := hu_of hr
    refine ⟨_, pss_cons (ps_if (PW.pt (pw_or (pt_not (pt_val (pt_isi "dict" (pv 0) (hm := mi) (mn := md)))) (pw_or1 (pt_not (pt_chain op_le op_le pe_int (pe_callB call_lenD (by rfl) ml PySem.boot_len (pa_cons (pv 0) pa_nil)) (pe_glob (v := .int 6) rfl gM ⟨_, rfl⟩))))))
        (pss_one (ps_ret pe_bl)) pss_nil)
      (pss_one (ps_ret (pe_callB (cr_all rfl) (by rfl) ma (by decide +kernel) (pa_cons (pe_lock (pe_lc (own := [("field", 1)]) (g := gName 1) (tt := tYes) (by rfl) scIsValue.nd (pi_keys (pv 0))
        (blkOk_by (own := [("field", 1)]) (N := ["value", "field"]) (sc := defScope sIsValue) (by decide +kernel)) (fun _ _ _ _ _ => pg_name (i := 1) scIsValue.nd rfl (.inl rfl)) (fun _ _ _ _ _ => pts_nil)
        (fun _ _ _ _ _ => pe_and (pe_call GN hr rfl gN N.kp bN .nil pass0 (pa_cons (pv 1) pa_nil)) (pe_one (pe_call GI hr rfl gI I.kp bI .nil pass0 (pa_cons (pe_dget hu (pv 0) (pv 1) (fun _ _ => rfl))
          (pa_cons (pe_un un_neg (pe_glob (v := .int 999) rfl gG ⟨_, rfl⟩)) (pa_cons (pe_glob (v := .int 999) rfl gG ⟨_, rfl⟩) pa_nil)))))))) pa_nil)))), ?_⟩
    refine ⟨_, rfl, _, _, _, _, _, rfl, .ty _, .base (.dK hd), kit_ty (a := "dict") (b := "dict") (r := true) (by decide +kernel), _, rfl, iteF ?_⟩
    refine ⟨_, rfl, d, kvs, rfl, hd, ?_⟩
    have h1 := hv.pos
    have h6 := hv.six
    refine ⟨_, _, rfl, rfl, _, rfl, ?_⟩
    rw [decide_eq_true (show (1 : Int) ≤ (kvs.length : Int) by omega)]
    refine iteT ⟨_, _, rfl, rfl, _, rfl, ?_⟩
    rw [decide_eq_true (show (kvs.length : Int) ≤ 6 by omega)]
    refine iteF ?_
    refine ⟨d, _, hd, trivial, fun od => ?_⟩
    refine ⟨_, rfl, d, od, rfl, .inl ⟨kvs, upd_same, fun D hD => ?_⟩⟩
    have ndD : d ≠ D := fun z => by
      rw [← z, upd_same] at hD
      cases hD
    have fD : H D = none := (upd_ne ndD.symm).symm.trans hD
    refine lc_it walk_keys (fun i H2 => But d H H2 ∧ H2 d = some (.frz od (.dK kvs)) ∧ H2 D = some (.lst ((List.replicate i true).map V.bl))) ?_ ?_ ?_ ?_
    · exact ⟨but_upd But.upd fD, (upd_ne ndD).trans upd_same, upd_same⟩
    · exact fun _ _ _ h => h.2.1
    · rintro i x H2 H3 hi ⟨b2, d2, e2⟩ ⟨rfl, k, v, hk, rfl⟩
      obtain ⟨z, n, rfl, hz, hn, n1, n2⟩ := valV_of hv.is hk
      refine ⟨rfl, ?_⟩
      unfold tYes
      dsimp only
      rw [if_pos rfl]
      refine ⟨_, rfl, z, rfl, hv.nm z hz, fun H4 s4 => ⟨_, rfl, iteT ?_⟩⟩
      have d4 := s4 _ _ d2
      have e4 := s4 _ _ e2
      refine ⟨_, rfl, _, rfl, d, .int n, rfl, .inl ⟨kvs, Sum.inr z, .inr ⟨od, d4⟩, rfl, hn.symm⟩, _, rfl, n, -999, 999, rfl, ?_⟩
      rw [decide_eq_true n1, decide_eq_true n2]
      refine ⟨_, e4, ?_, ?_, ?_, ?_⟩
      · rw [List.length_map, List.length_replicate]
        exact small1000 (by omega)
      · exact but_upd (b2.trans (But.same s4)) fD
      · exact (upd_ne ndD).trans d4
      · rw [upd_same, List.replicate_succ', List.map_append]
        rfl
    · rintro H2 ⟨b2, d2, e2⟩
      refine ⟨d2, D, _, rfl, .of ((upd_ne ndD.symm).trans e2), ?_⟩
      have ha : (List.replicate kvs.length true).all id = true := by
        rw [List.all_eq_true]
        intro x hx
        rw [(List.mem_replicate.mp hx).2]
        rfl
      rw [ha]
      refine q _ fun c o e => ?_
      by_cases hc : c = d
      · rw [hc] at e ⊢
        rw [hd] at e
        rw [← e]
        exact upd_same
      · rw [upd_ne hc]
        exact b2 c o hc e
theorem ok_needvalue {f fI : Addr} {fd fdI : FuncData} (F : Fun K "need_value" "need_value" sNeedValue f fd) (I : Fun K "is_value" "is_value" sIsValue fI fdI) (bI : Binds K fdI ["value"] []) (gI : mg "is_value" = some (.ref fI))
    (GI : FnOk P w K mg base CX0 2 fI fdI ["value"] spIsValue) : FnOk P w K mg base CX0 3 f fd ["value"] spNeedValue := by
  refine F.ok scNeedValue (fun vs H Q E h => ?_) (fun cdv A outer s H vs Q E hr h => ?_)
  · obtain ⟨d, zs, kvs, rfl, _⟩ := h
    rfl
  · obtain ⟨d, zs, kvs, rfl, hd, hv, q⟩ := h
    refine ⟨_, pss_one (ps_if (pt_not (pt_val (pe_call GI hr rfl gI I.kp bI .nil pass0 (pa_cons (pv 0) pa_nil)))) (pss_one ps_never) pss_nil), ?_⟩
    exact ⟨_, rfl, d, zs, kvs, rfl, hd, hv, fun H' s' => ⟨_, rfl, iteF (q H' s')⟩⟩
theorem ok_needrecord {f fN fV : Addr} {fd fdN fdV : FuncData} (F : Fun K "need_record" "need_record" sNeedRecord f fd) (kN : PySem.W.keepIn K (.ref fN) = true) (bN : Binds K fdN ["value"] []) (gN : mg "need_name" = some (.ref fN)) (GN : FnOk P w K mg base CX0 2 fN fdN ["value"] spNeedName)
    (kV : PySem.W.keepIn K (.ref fV) = true) (bV : Binds K fdV ["value"] []) (gV : mg "need_value" = some (.ref fV)) (GV : FnOk P w K mg base CX0 3 fV fdV ["value"] spNeedValue) : FnOk P w K mg base CX0 4 f fd ["key", "value"] spNeedRecord := by
  refine F.ok scNeedRecord (fun vs H Q E h => ?_) (fun cdv A outer s H vs Q E hr h => ?_)
  · obtain ⟨y, d, zs, kvs, rfl, _⟩ := h
    rfl
  · obtain ⟨y, d, zs, kvs, rfl, hy, hd, hv, q⟩ := h
    refine ⟨_, pss_cons (ps_expr (pe_call GN (hr.mono (by decide)) rfl gN kN bN .nil pass0 (pa_cons (pv 0) pa_nil))) (pss_one (ps_expr (pe_call GV hr rfl gV kV bV .nil pass0 (pa_cons (pv 1) pa_nil)))), ?_⟩
    exact ⟨_, rfl, y, rfl, hy, fun H1 s1 => ⟨_, rfl, d, zs, kvs, rfl, s1 _ _ hd, hv, fun H2 s2 => q H2 (s1.trans s2)⟩⟩
end
end G
set_option Elab.async false
set_option linter.all false
set_option maxRecDepth 100000
set_option maxHeartbeats 2000000
/-! O1: x in o, o[i], for x in o, len(o) by a class's own methods. -/
namespace G
open PySem PySem.Spec PyProof.Rows L2
/-- the class at C has its own m, the def at f -/
structure OwnM (K : PySem.W.Frag) (C : Addr) (m : Str) (f : Addr) : Prop where
  at_ : PySem.W.findIn K (.ref C) m = some (some (.ref f))
  fn : PySem.W.isFn K (.ref f) = true
section
variable {prog : Program} {w : World} {A : Around} {E : Value → Shared → Prop} {s : Shared} {K : PySem.W.Frag} {x C f : Addr} {ox : Obj} {od : Option Obj} {y : Value}
theorem in_own {Q : Bool → Shared → Prop} (X : K.In s.heap) (I : PySem.W.InstAt s.heap x ox C od) (e : OwnM K C "__contains__" f) (h : wpAny (model prog w) A (call (.ref f) [.ref x, y]) (fun v s' => ∃ b, v = .bool b ∧ Q b s') E s) :
    wpAny (model prog w) A (contains (.ref x) y) Q E s := by
  have sp : PySem.W.Looks (model prog w) s.heap (specialOf (.ref x) "__contains__") (some (.ref f)) := I.type.andThen (PySem.W.looks_findIn X e.at_)
  have hf := beq_iff_eq.mp e.fn
  unfold contains
  refine wpAny_holding ?_
  show wpAny _ _ (specialOf (.ref x) "__contains__" >>= _) _ _ _
  refine wpAny_bind (sp.here ?_)
  rw [if_neg (show ¬ ((some (Value.ref f) == some Value.none) = true) from Bool.false_ne_true)]
  unfold callSpecialUnlessNone?
  refine wpAny_bind (wpAny_bind (sp.here (wpAny_holding (wpAny_bind ((PySem.W.bind_fn X _ hf).here ?_)))))
  dsimp only
  rw [if_neg (show ¬ ((Value.ref f == Value.none) = true) from Bool.false_ne_true)]
  refine wpAny_bind (wpAny_mono h (fun v s' z => ?_) fun _ _ z => z)
  obtain ⟨b, rfl, q⟩ := z
  exact wpAny_pure (wpAny_truthy_bool q)
end
end G
set_option Elab.async false
set_option linter.all false
set_option maxRecDepth 100000
set_option maxHeartbeats 2000000
/-! O2: rules of x in o, o[i], for x in o. -/
namespace G
open PySem PySem.Spec PyProof.Rows L2 ItX
section
variable {X : Cx} {C g : Addr} {fd : FuncData} {ps : List Str} {n : Nat} {sp : Sp} {E : XK}
/-- x in o -/
def rInO (C : Addr) (sp : Sp) (E : XK) (neg : Bool) : R2 := fun x y H Q => ∃ a dx fs, y = .ref a ∧ H a = some (.ins C dx fs) ∧ sp [y, x] H (fun v H' => ∃ k : Bool, v = .bl k ∧ Q (.bl (cond neg (!k) k)) H') E
theorem in_run (e : OwnM X.K C "__contains__" g) (hb : Binds X.K fd ps []) (F : FnOk X.prog X.w X.K X.mg X.base CX0 n g fd ps sp) (hr : Room n X.A) (hx : Passes CX0 X E) {pins : List (Addr × Obj)} {σ : L2.St} {H : Hp} {s : Shared} {a dx : Addr} {fs : List (Str × V)} {x : V} {v : Value} {R : Bool → V → Hp → Prop}
    (I : Inv X pins σ H s) (rx : RelV x v) (ha : H a = some (.ins C dx fs)) {Q : Bool → Shared → Prop} (q : sp [.ref a, x] H (fun v H' => ∃ k : Bool, v = .bl k ∧ R k v H') E)
    (hq : ∀ k s' H', Inv X pins σ H' s' → R k (.bl k) H' → Q k s') : wpAny (model X.prog X.w) X.A (contains (.ref a) v) Q X.xe s := by
  obtain ⟨ox, od, J⟩ := insX_at I ha
  refine in_own I.kIn J e ?_
  refine wpAny_mono (run_fn (us := [.ref a, v]) (vs := [.ref a, x]) F hr hb .nil hx I (.cons rfl (.cons rx .nil)) q) (fun w s' z => ?_) fun _ _ x => x
  obtain ⟨z', H', I', rz, k, rfl, qz⟩ := z
  obtain rfl : w = Value.bool k := rz
  exact ⟨k, rfl, hq k s' H' I' qz⟩
theorem op_inO (e : OwnM X.K C "__contains__" g) (hb : Binds X.K fd ps []) (F : FnOk X.prog X.w X.K X.mg X.base CX0 n g fd ps sp) (hr : Room n X.A) (hx : Passes CX0 X E) : OpR X (compareOp .In) (rInO C sp E false) := by
  intro pins s σ H x y v u Q I rx ry h
  obtain ⟨a, dx, fs, rfl, ha, q⟩ := h
  cases (show u = Value.ref a from ry)
  refine wpAny_bind (in_run (R := fun k v H' => Q (.bl k) H') e hb F hr hx I rx ha q fun k s' H' I' z => ?_)
  exact wpAny_pure ⟨.bl k, H', I', rfl, z⟩
theorem op_ninO (e : OwnM X.K C "__contains__" g) (hb : Binds X.K fd ps []) (F : FnOk X.prog X.w X.K X.mg X.base CX0 n g fd ps sp) (hr : Room n X.A) (hx : Passes CX0 X E) : OpR X (compareOp .NotIn) (rInO C sp E true) := by
  intro pins s σ H x y v u Q I rx ry h
  obtain ⟨a, dx, fs, rfl, ha, q⟩ := h
  cases (show u = Value.ref a from ry)
  refine wpAny_bind (in_run (R := fun k v H' => Q (.bl (!k)) H') e hb F hr hx I rx ha q fun k s' H' I' z => ?_)
  exact wpAny_pure ⟨.bl (!k), H', I', rfl, z⟩
/-- o[i] -/
def tGetO (C : Addr) (sp : Sp) (E : XK) (ta ti : TE) : TE := fun σ H Q => ta σ H fun x H1 => ti σ H1 fun y H2 => ∃ a dx fs, x = .ref a ∧ H2 a = some (.ins C dx fs) ∧ sp [x, y] H2 Q E
theorem pe_getO {e i : Expr} {pos : Pos} {ta ti : TE} (m : OwnM X.K C "__getitem__" g) (hf : PySem.W.fnIn X.K g = true) (hb : Binds X.K fd ps []) (F : FnOk X.prog X.w X.K X.mg X.base CX0 n g fd ps sp) (hr : Room (n + 1) X.A) (he : PE X e ta) (hi : PE X i ti)
    (hsl : ∀ (a : Addr) (v : Value), subscripted i true (.ref a) v = runValue (.builtin "lifetime.subscript" ⟨[.ref a, v], []⟩) := by intro _ _; with_unfolding_all rfl) : PE X (.Subscript e i pos) (tGetO C sp E0 ta ti) := by
  refine ⟨fun pins s σ H Q I h => ?_⟩
  refine Subscript_ (thn (he.run pins s σ H _ I h) fun v s1 ⟨x, H1, I1, r1, q1⟩ => thn (hi.run pins s1 σ H1 _ I1 q1) fun u s2 ⟨y, H2, I2, r2, a, dx, fs, ex, ha, q⟩ => ?_)
  subst ex
  obtain rfl : v = Value.ref a := r1
  obtain ⟨ox, od, J⟩ := insX_at I2 ha
  obtain ⟨mm, hF⟩ := I2.fr
  refine PySem.W.sub_K hF I2.ok.mod.kin J m.at_ hf m.fn ?_ (hsl a u)
  have hl : ([Value.ref a, u] ++ []).length = ps.length := by
    have := F.len _ _ _ _ q
    exact this
  refine wpAny_call (codeAny_mono (F.run X.A.in1 X.stack s2 H2 ⟨[.ref a, u], []⟩ ([.ref a, u] ++ []) [.ref a, y] _ E0 hr.in1 I2.env0.in1 (hb s2 [.ref a, u] I2.kIn hl) (.cons rfl (.cons r2 .nil)) q) fun r s' hq => ?_)
  cases r with
  | error e => exact False.elim hq
  | ok fl =>
    cases fl with
    | ret u => exact I2.after hq
    | next => exact False.elim hq
    | brk => exact False.elim hq
    | cont => exact False.elim hq
end
/-! ### for x in o -/
/-- as FnOk, its promise knows how many objects there were -/
structure FnS (P : Program) (w : World) (K : PySem.W.Frag) (mg : Str → Option Value) (base : Heap) (k : Nat) (f : Addr) (fd : FuncData) (ps : List Str) (sp : Nat → Sp) : Prop where
  go : ∀ (A : Around) (outer : List Env) (s : Shared) (H : Hp) (args : Args) (us : List Value) (vs : List V) (Q : VK) (E : XK),
    Room k A → Env0 P w K mg base A outer s H → BindsTo s fd args (ps.zip us) → Vals vs us → sp s.heap.objs.size vs H Q E → codeAny (model P w) A (.call (.ref f) args) (CR CX0 outer P w H s Q E) s
section
variable {P : Program} {w : World} {K : PySem.W.Frag} {mg : Str → Option Value} {base : Heap}
theorem FnS.of_body {x qual : Str} {st : Stmt} {f : Addr} {fd : FuncData} {N ps : List Str} {k : Nat} {sp : Nat → Sp} (F : Fun K x qual st f fd) (S : FnScope N ps (defScope st))
    (size : ∀ n vs H Q E, sp n vs H Q E → vs.length = ps.length)
    (body : ∀ (cdv : Value) (A : Around) (outer : List Env) (s : Shared) (H : Hp) (vs : List V) (Q : VK) (E : XK),
      Room k (A.deeper (envOfC qual (defScope st) s.heap.objs.size f cdv)) → sp s.heap.objs.size vs H Q E →
      ∃ t, PSs (cxOf CX0 P w K mg base N qual (defScope st) f cdv A outer s H E).nox (defBody st) t ∧ t { nx := fun _ H' => Q .non H', rt := Q } (start N vs) H) :
    FnS P w K mg base (k + 1) f fd ps sp := by
  obtain ⟨_, _, _, _, _, _, cdv, _, _, rfl, lk, hcd⟩ := F.ex
  refine ⟨fun A outer s H args us vs Q E hr e0 hb r h => ?_⟩
  have inS : K.In s.heap := e0.mod.kin.keeps fun b o e => (e0.bs b o e).1
  have noL : s.heap.NoLimit := e0.mod.nolimit.keeps fun b o e => (e0.bs b o e).1
  refine codeAny_call_function hr.depth (inS _ _ lk) rfl S.co S.gen rfl
    (PySem.W.codeRec_of inS hcd) (hb _ _ _ _ ?_)
  refine wpAny_newFunctionEnv_cells S.kind
    (fun ⟨n, v⟩ hy => ?_) fun env he s1 x => ?_
  · rcases S.par n (List.of_mem_zip hy).1 with q | q
    · exact Or.inl q
    · exact Or.inr ⟨q, PySem.W.cellsFrom_some _ _ _ (Or.inl q)⟩
  · subst he
    refine ⟨noL.keeps x.toInCall.keep, codeAny_func ?_⟩
    obtain ⟨t, ht, hq⟩ := body cdv A outer s H vs Q E (hr.deeper _) h
    have J := inv_start (CX := CX0) (P := P) (w := w) (K := K) (mg := mg) (base := base) (E := E) S hr.hd e0 (size _ _ _ _ _ h) r x
    refine wpAny_mono (ht.nox.run [] s1 (start N vs) H _ J hq) (fun fl s' z => ?_) fun e s' z => z
    cases fl with
    | ret u =>
      obtain ⟨v, σ', H', J', rv, q⟩ := z
      exact ⟨v, H', J'.os, J'.bare, J'.base, J'.hok, rv, q⟩
    | next =>
      obtain ⟨σ', H', J', q⟩ := z
      exact ⟨.non, H', J'.os, J'.bare, J'.base, J'.hok, rfl, q⟩
    | brk =>
      obtain ⟨_, _, _, q⟩ := z
      exact q.elim
    | cont =>
      obtain ⟨_, _, _, q⟩ := z
      exact q.elim
end
/-- an __iter__ that gives the iterator of the list in the field fld -/
def spIter (K : PySem.W.Frag) (C : Addr) (fld : Str) (n : Nat) : Sp := fun vs H Q _ => ∃ (a dx l : Addr) (fs : List (Str × V)) (xs : List V), vs = [.ref a] ∧ H a = some (.ins C dx fs) ∧ fs.lookup fld = some (.ref l) ∧ SqL K H l xs ∧
  ∀ it, H it = none → n ≤ it → Q (.ref it) (upd H it (ItO l it 0))
def iOwn (K : PySem.W.Frag) (C : Addr) (fld : Str) (te : TE) : TI := fun σ H R => te σ H fun x H1 => ∃ (a dx l : Addr) (fs : List (Str × V)) (xs : List V), x = .ref a ∧ H1 a = some (.ins C dx fs) ∧ fs.lookup fld = some (.ref l) ∧ SqL K H1 l xs ∧ R (Itl K l) H1
theorem pi_own {X : Cx} {C g : Addr} {fd : FuncData} {n : Nat} {fld : Str} {e tg : Expr} {te : TE} (he : PE X e te) (m : OwnM X.K C "__iter__" g) (hb : Binds X.K fd ["self"] []) (F : FnS X.prog X.w X.K X.mg X.base n g fd ["self"] (spIter X.K C fld)) (hr : Room n X.A) : PI X tg e (iOwn X.K C fld te) := by
  refine ⟨fun pins s σ H R I h => ?_⟩
  refine thn (he.run pins s σ H _ I h) fun u s1 ⟨x, H1, I1, rx, a, dx, l, fs, xs, ex, ea, lk, sq, q⟩ => ?_
  subst ex
  obtain rfl : u = Value.ref a := rx
  obtain ⟨ox, od, J⟩ := insX_at I1 ea
  obtain ⟨mm, hF⟩ := I1.fr
  refine PySem.W.owit_iter hF I1.ok.mod.kin J m.at_ m.fn ?_
  refine wpAny_call (codeAny_mono (F.go X.A X.stack s1 H1 ⟨[Value.ref a], []⟩ ([Value.ref a] ++ []) [V.ref a] (fun v H2 => ∃ it, v = .ref it ∧ H1 it = none ∧ X.s_0.heap.objs.size ≤ it ∧ H2 = upd H1 it (ItO l it 0)) E0 hr I1.env0 (hb s1 [Value.ref a] I1.kIn rfl) (show Vals [V.ref a] [Value.ref a] from .cons rfl .nil)
    ⟨a, dx, l, fs, xs, rfl, ea, lk, sq, fun it hn hs => ⟨it, rfl, hn, Nat.le_trans I1.sz hs, rfl⟩⟩) fun r s' hq => ?_)
  cases r with
  | error e => exact False.elim hq
  | ok fl =>
    cases fl with
    | ret u =>
      obtain ⟨v, H', I2, rv, it, rfl, hn, hs, rfl⟩ := I1.after hq
      cases (show u = Value.ref it from rv)
      have hi : (upd H1 it (ItO l it 0)) it = some (ItO l it 0) := upd_same
      have eo := itO_get I2 hi
      have st : s'.heap.IsListIter it l (0 : Nat) := ⟨_, eo, rfl, rfl⟩
      have hT : s'.TypeIs (.ref it) "list_iterator" := ⟨_, eo, rfl⟩
      unfold PySem.W.OwitIt
      refine wpAny_specialOf (name := Str.ofString "__next__") hT slot_listiter_next.lookup ?_
      have hi' := hi
      unfold ItO at hi'
      have ed : dropH (upd H1 it (ItO l it 0)) it = H1 := by
        funext b
        by_cases hb : b = it
        · rw [hb, hn]
          exact dropH_same
        · rw [dropH_ne hb, upd_ne hb]
      refine ⟨it, [it], _, _, dropH (upd H1 it (ItO l it 0)) it, rfl, inv_drop I2 hi', turn_list l it, st, fun b hb => ?_, ?_⟩
      · have e : b = it := by simpa using hb
        rw [e]
        exact inv_fp I2 hi hs
      · rw [ed]
        exact q
    | next => exact False.elim hq
    | brk => exact False.elim hq
    | cont => exact False.elim hq
end G
set_option Elab.async false
set_option linter.all false
set_option maxRecDepth 100000
set_option maxHeartbeats 2000000
/-! O3: xs[::-1], isinstance(x, (list, tuple)), lists of the same things compared. -/
namespace G
open PySem PySem.Spec PyProof.Rows L2 HT
theorem pick_rev (its : List Value) : slicePick its.toArray none none (some (-1)) = its.reverse.toArray := by
  have e : ∀ k, k ≤ its.length → (((List.range k).map fun (m : Nat) => (((its.length : Nat) : Int) - 1 + (-1) * (m : Int)).toNat).filterMap fun j => its.toArray[j]?) = its.reverse.take k := by
    intro k
    induction k with
    | zero =>
      intro _
      simp
    | succ k ih =>
      intro hk
      rw [List.range_succ, List.map_append, List.filterMap_append, ih (by omega), List.take_add_one]
      congr 1
      have e1 : (((its.length : Nat) : Int) - 1 + (-1) * (k : Int)).toNat = its.length - 1 - k := by omega
      have hk2 : its.length - 1 - k < its.length := by omega
      simp only [List.map_cons, List.map_nil, List.filterMap_cons, List.filterMap_nil]
      rw [e1, List.getElem?_toArray, List.getElem?_eq_getElem hk2, List.getElem?_reverse (by omega)]
      simp [hk2]
  have r : sliceRange ((its.length : Int) - 1) (-1) (-1) = (List.range its.length).map fun (m : Nat) => (((its.length : Nat) : Int) - 1 + (-1) * (m : Int)).toNat := by
    unfold sliceRange
    have c : (if (-1 : Int) > 0 then (if (its.length : Int) - 1 < -1 then ((-1) - ((its.length : Int) - 1) + (-1) - 1) / (-1) else 0) else (if (its.length : Int) - 1 > -1 then ((its.length : Int) - 1 - (-1) - (-1) - 1) / (-(-1)) else 0)).toNat = its.length := by
      rw [if_neg (by decide)]
      split
      · rw [show (-(-1) : Int) = 1 by decide, Int.ediv_one]
        omega
      · omega
    show (List.range _).map _ = _
    rw [c]
  have b : sliceBounds none none (some (-1)) its.toArray.size = ((its.length : Int) - 1, -1, -1) := by
    rw [List.size_toArray]
    rfl
  unfold slicePick
  rw [b]
  dsimp only
  rw [r, e _ (Nat.le_refl _), List.take_of_length_le (by rw [List.length_reverse]; exact Nat.le_refl _)]
def tBackL (K : PySem.W.Frag) (te : TE) (tp : TO) : TE := fun σ H Q => te σ H fun x H1 => tp σ H1 fun o H2 => ∃ a xs, x = .ref a ∧ SqL K H2 a xs ∧ o = some (-1) ∧ ∀ p, H2 p = none → Q (.ref p) (upd H2 p (.lst xs.reverse))
theorem pe_backL {X : Cx} {e st : Expr} {te : TE} {tp : TO} {p3 pos : Pos} (he : PE X e te) (hst : PO X (some st) tp)
    (hsub : ∀ a l : Addr, subscripted (.Slice none none (some st) p3) false (.ref a) (.ref l) = operate [.ref a, .ref l] (getItem (.ref a) (.ref l)) := by intro _ _; with_unfolding_all rfl) :
    PE X (.Subscript e (.Slice none none (some st) p3) pos) (tBackL X.K te tp) := by
  refine ⟨fun pins s σ H Q I h => ?_⟩
  refine Subscript_ (thn (he.run pins s σ H _ I h) fun v s1 ⟨x, H1, I1, r1, q1⟩ => ?_)
  refine wpAny_Slice (thn (po_none.run pins s1 σ H1 (fun o H2 => o = none ∧ H2 = H1) I1 ⟨rfl, rfl⟩) fun vl s2 ⟨l, H2, I2, pl, el, e2⟩ => ?_)
  subst el e2
  refine thn (po_none.run pins s2 σ H2 (fun o H3 => o = none ∧ H3 = H2) I2 ⟨rfl, rfl⟩) fun vu s3 ⟨u, H3, I3, pu, eu, e3⟩ => ?_
  subst eu e3
  refine thn (hst.run pins s3 σ H3 _ I3 q1) fun vs s4 ⟨o, H4, I4, ps, a, xs, ex, hx, eo, q⟩ => ?_
  subst ex eo
  cases r1
  have I5 : Inv X pins σ H4 { s4 with heap := s4.heap.push { cls := .type "slice", data := .fields #[vl, vu, vs] } } := I4.kept (t' := s4.toks) fun b ob q => Heap.get?_push_of_some _ q
  obtain ⟨its, r, ht, hz⟩ := I5.list hx
  have hlen : its.length = xs.length := r.length.symm
  show wpAny (model X.prog X.w) X.A (subscriptTail e (.Slice none none (some st) p3) (.ref a) (.ref s4.heap.objs.size)) (EP X pins σ Q) X.xe { s4 with heap := s4.heap.push { cls := .type "slice", data := .fields #[vl, vu, vs] } }
  refine tail_any (ops := [.ref a, .ref s4.heap.objs.size]) ht.isList.typeIs slot_list_getitem.lookup ?_ (hsub _ _)
  refine wpAny_getItem_list_slice ht.isList (Heap.IsSliceOf.new _ _ _ _) pl pu ps (by decide) ?_ (by rw [List.size_toArray]; omega)
  rw [pick_rev]
  refine ⟨.ref _, _, I5.laid (t' := s4.toks) (o := .lst xs.reverse) (fun b ob q => Heap.get?_push_of_some _ q) (Nat.le_refl _) ?_, rfl, q _ (I5.hok.fresh (Nat.le_refl _))⟩
  exact ⟨by rw [List.length_reverse]; exact hz, _, 0, Vals.reverse r, Heap.get?_push_size _ rfl⟩
/-! ### isinstance(x, (list, tuple)) -/
def tIsLT (K : PySem.W.Frag) (te : TE) : TE := fun σ H Q => te σ H fun x H1 => (∃ t xs, x = .ref t ∧ (SqL K H1 t xs ∨ SqT K H1 t xs)) ∧ ∀ T, H1 T = none → Q (.bl true) (upd H1 T (.tup [.ty "list", .ty "tuple"]))
theorem lt_list (t : Addr) : AnswersAll (fun s => s.TypeIs (.ref t) "list") (.ref t) [.type "list", .type "tuple"] [true, false] :=
  ⟨Answers.of_true PySem.F.isi_meta_list sub_list_self, Answers.of_false_list (by decide +kernel) PySem.F.isi_meta_tuple PySem.F.sub_list_tuple, True.intro⟩
theorem lt_tuple (t : Addr) : AnswersAll (fun s => s.TypeIs (.ref t) "tuple") (.ref t) [.type "list", .type "tuple"] [false, true] :=
  ⟨Answers.of_false_tuple (by decide +kernel) PySem.F.isi_meta_list PySem.F.sub_tuple_list, Answers.of_true PySem.F.isi_meta_tuple PySem.F.isi_sub_tuple, True.intro⟩
theorem pe_isiLT {X : Cx} {p pos tpos : Pos} {e : Expr} {es : List Expr} {te : TE} {k : Nat} (he : PE X e te) (hg : Gl X "isinstance") (hm : X.mg "isinstance" = none) (hes : PA X es (tCons (tC (.ty "list")) (tCons (tC (.ty "tuple")) tNil)))
    (n1 : starEach [e, .Tuple es k tpos] X.env = (false, eval e X.env) :: starEach [.Tuple es k tpos] X.env := by rfl) (n2 : starEach [.Tuple es k tpos] X.env = (false, eval (.Tuple es k tpos) X.env) :: starEach [] X.env := by rfl)
    (n3 : (backTo pos (starEach [.Tuple es k tpos] X.env)).any (·.1) = false := by rfl) : PE X (.Call (.Name "isinstance" p) [e, .Tuple es k tpos] [] pos) (tIsLT X.K te) := by
  refine ⟨fun pins s σ H Q I h => ?_⟩
  refine wpAny_Call_Name_kw (ld_blt I hg hm PyProof.Rows.boot_isinstance ?_ (by decide) (by decide))
  refine PyProof.Rows.callWith_builtin1 ?_ n1 n3
  rw [n1]
  show wpAny _ _ (spliced ((false, eval e X.env) :: backTo pos (starEach [.Tuple es k tpos] X.env))) _ _ s
  refine Calls.spliced_cons (thn (he.run pins s σ H _ I h) fun u s1 ⟨x, H1, I1, r1, ⟨t, xs, ex, hT⟩, q1⟩ => ?_)
  subst ex
  obtain rfl : u = Value.ref t := r1
  rw [n2]
  show wpAny _ _ (spliced ((false, eval (.Tuple es k tpos) X.env) :: backTo pos (starEach [] X.env))) _ _ s1
  refine Calls.spliced_cons (wpAny_Tuple_spliced (thn (hes.run tpos pins s1 σ H1 (fun ys H' => ys = [.ty "list", .ty "tuple"] ∧ H' = H1) I1 ⟨rfl, rfl⟩) fun us s2 ⟨ys, H2, I2, r2, ey, eH⟩ => ?_))
  subst ey eH
  have eu := vals_ty2 r2
  subst eu
  have two : 2 ≤ sizeLine := by rw [sizeLine_eq]; omega
  refine ⟨two, ?_⟩
  have fresh := I2.hok.fresh (Nat.le_refl s2.heap.objs.size)
  have I3 := I2.laid (a := s2.heap.objs.size) (o := .tup [.ty "list", .ty "tuple"]) (h' := s2.heap.push { cls := .type "tuple", data := .seq [Value.type "list", Value.type "tuple"].toArray }) (t' := s2.toks) (fun b u e => Heap.get?_push_of_some _ e) (Nat.le_refl _)
    ⟨two, [.type "list", .type "tuple"], r2, ⟨_, Heap.get?_push_size _ rfl, rfl, _, rfl⟩⟩
  refine Calls.spliced_nil ?_
  rcases hT with hT | hT
  · obtain ⟨its, _, pl, _⟩ := I2.list hT
    obtain ⟨o, ho, hc, _⟩ := pl.isList
    exact call_isinstance (isinstance_tuple (x := .ref t) (Tx := "list") (tp := s2.heap.objs.size) (lt_list t)) ⟨⟨o, Heap.get?_push_of_some _ ho, hc⟩, Heap.get?_push_size _ rfl, fun tk => ⟨.bl true, _, I3.tok tk, rfl, q1 _ fresh⟩⟩
  · obtain ⟨its, _, ⟨o, ho, hc, _⟩, _⟩ := I2.tuple hT
    exact call_isinstance (isinstance_tuple (x := .ref t) (Tx := "tuple") (tp := s2.heap.objs.size) (lt_tuple t)) ⟨⟨o, Heap.get?_push_of_some _ ho, hc⟩, Heap.get?_push_size _ rfl, fun tk => ⟨.bl true, _, I3.tok tk, rfl, q1 _ fresh⟩⟩
/-! ### lists of the same things -/
def sameB : V → Bool
  | .ref _ => true
  | v => flatB v
theorem items_same {A : Around} {s : Shared} : ∀ {xs : List V} {us ws : List Value}, (∀ v ∈ xs, sameB v = true) → Vals xs us → Vals xs ws → ∀ j (h1 : j < us.length) (h2 : j < ws.length), SeqAt.EqAt A s us[j] ws[j] true
  | [], _, _, _, .nil, .nil, j, h1, _ => absurd h1 (Nat.not_lt_zero j)
  | x :: xs, _, _, hf, .cons r1 t1, .cons r2 t2, 0, _, _ => by
    have f := hf x List.mem_cons_self
    cases x with
    | ref a =>
      cases r1
      cases r2
      exact SeqAt.EqAt.same _
    | _ => exact eqAt_same r1 r2 f
  | x :: xs, _, _, hf, .cons r1 t1, .cons r2 t2, j + 1, h1, h2 => items_same (fun v hv => hf v (List.mem_cons_of_mem _ hv)) t1 t2 j (Nat.lt_of_succ_lt_succ h1) (Nat.lt_of_succ_lt_succ h2)
section
variable {X : Cx}
def rNeS (K : PySem.W.Frag) : R2 := fun x y H Q => ∃ a b xs, x = .ref a ∧ y = .ref b ∧ SqL K H a xs ∧ SqL K H b xs ∧ (∀ v ∈ xs, sameB v = true) ∧ Q (.bl false) H
theorem op_neS (hu : X.A.units < cLine) : OpR X (compareOp .NotEq) (rNeS X.K) := by
  intro pins s σ H x y v u Q I rx ry h
  obtain ⟨a, b, xs, rfl, rfl, ha, hb, hf, q⟩ := h
  cases (show v = Value.ref a from rx)
  cases (show u = Value.ref b from ry)
  obtain ⟨us, r1, p1, _⟩ := I.list ha
  obtain ⟨ws, r2, p2, _⟩ := I.list hb
  have hsz : us.toArray.size = ws.toArray.size := by rw [List.size_toArray, List.size_toArray, ← r1.length, ← r2.length]
  refine SeqAt.RcNeAt.lists (e := fun _ => true) p1.isList p2.isList hsz hu (fun j h1 h2 => ?_) X.prog X.w _ _ ?_
  · have k := items_same (A := X.A.in1) (s := s) hf r1 r2 j (by simpa using h1) (by simpa using h2)
    simpa using k
  · rw [show ((List.range us.toArray.size).all fun _ => true) = true from List.all_eq_true.mpr fun _ _ => rfl]
    exact ⟨.bl false, H, I, rfl, q⟩
end
end G
set_option Elab.async false
set_option linter.all false
set_option maxRecDepth 100000
set_option maxHeartbeats 4000000
/-! VN: drawn names differ. -/
namespace G
open PySem PySem.Spec PyProof.Rows L2
def Cop (st : Nat) : Prop := st ∈ [1, 3, 5, 7, 9, 11, 15, 17]
theorem cop_le {st : Nat} (h : Cop st) : st ≤ 17 := by
  unfold Cop at h
  simp at h
  omega
theorem cop_inj {st bg i j : Nat} (h : Cop st) (e : (bg + st * i) % 26 = (bg + st * j) % 26) : i % 26 = j % 26 := by
  unfold Cop at h
  simp only [List.mem_cons, List.not_mem_nil, or_false] at h
  rcases h with rfl | rfl | rfl | rfl | rfl | rfl | rfl | rfl <;> omega
theorem abc_is : ∀ j : Fin 26, abc.cps[(j : Nat)]? = some (97 + (j : Nat)) := by decide +kernel
theorem abc_code {j c n : Nat} (hj : j < 26) (hc : abc.cps[j]? = some c) (e : j = n) : cs (⟨#[c]⟩ : Str) = [97 + n] := by
  have z := abc_is ⟨j, hj⟩
  rw [hc] at z
  rw [← e, ← Option.some.inj z]
theorem abc_code2 {j c : Nat} (hj : j < 26) (hc : abc.cps[j]? = some c) : cs (⟨#[c]⟩ : Str) = [97 + j] := abc_code hj hc rfl
/-- how the i-th name is written -/
def BaseF (md : Bool) (P : List Nat) (bg st i : Nat) (y : Str) : Prop := (md = true ∧ ∃ R, cs y = (97 + (bg + st * i) % 26) :: R) ∨ (md = false ∧ cs y = P ++ [97 + (bg + st * i) % 26])
def Form (md : Bool) (P : List Nat) (bg st i : Nat) (y : Str) : Prop := (md = true ∧ i < 26 ∧ ∃ R, cs y = (97 + (bg + st * i) % 26) :: R) ∨ (md = false ∧ i < 26 ∧ cs y = P ++ [97 + (bg + st * i) % 26]) ∨ (md = false ∧ 26 ≤ i ∧ cs y = P ++ [97 + (bg + st * i) % 26, 97 + i / 26])
theorem form_lt {md : Bool} {P : List Nat} {bg st i : Nat} {y : Str} (h : BaseF md P bg st i y) (hi : i < 26) : Form md P bg st i y := by
  rcases h with ⟨e, r⟩ | ⟨e, r⟩
  · exact .inl ⟨e, hi, r⟩
  · exact .inr (.inl ⟨e, hi, r⟩)
theorem form_ge {md : Bool} {P : List Nat} {bg st i : Nat} {y u : Str} (h : BaseF md P bg st i y) (hi : 26 ≤ i) (hm : md = true → i < 26) (e : cs u = cs y ++ [97 + i / 26]) : Form md P bg st i u := by
  rcases h with ⟨em, r⟩ | ⟨em, r⟩
  · have := hm em
    omega
  · refine .inr (.inr ⟨em, hi, ?_⟩)
    rw [e, r, List.append_assoc]
    rfl
theorem form_app {G : Nat → Str → Prop} {zs : List Str} {u : Str} {i : Nat} (hl : zs.length = i) (hf : ∀ (k : Nat) (y : Str), zs[k]? = some y → G k y) (hu : G i u) : ∀ (k : Nat) (y : Str), (zs ++ [u])[k]? = some y → G k y := fun k y h => by
  rcases Nat.lt_or_ge k zs.length with hk | hk
  · rw [List.getElem?_append_left hk] at h
    exact hf k y h
  · rw [List.getElem?_append_right hk] at h
    have hk0 : k - zs.length = 0 := by
      rcases Nat.eq_zero_or_pos (k - zs.length) with e | e
      · exact e
      · rw [List.getElem?_eq_none (by rw [List.length_singleton]; omega)] at h
        cases h
    rw [hk0] at h
    have e : u = y := Option.some.inj h
    have ek : k = i := by omega
    rw [ek, ← e]
    exact hu
theorem app_two {P : List Nat} {a b c d : Nat} (h : P ++ [a, b] = P ++ [c, d]) : a = c ∧ b = d := by
  have := List.append_cancel_left h
  injection this with e1 e2
  injection e2 with e3 _
  exact ⟨e1, e3⟩
theorem form_inj {md : Bool} {P : List Nat} {bg st i j : Nat} {y : Str} (hc : Cop st) (h1 : Form md P bg st i y) (h2 : Form md P bg st j y) : i = j := by
  rcases h1 with ⟨m1, l1, R1, e1⟩ | ⟨m1, l1, e1⟩ | ⟨m1, l1, e1⟩
  · rcases h2 with ⟨m2, l2, R2, e2⟩ | ⟨m2, l2, e2⟩ | ⟨m2, l2, e2⟩
    · rw [e1] at e2
      injection e2 with e3 _
      have := cop_inj (i := i) (j := j) hc (by omega : (bg + st * i) % 26 = (bg + st * j) % 26)
      omega
    · rw [m1] at m2
      cases m2
    · rw [m1] at m2
      cases m2
  · rcases h2 with ⟨m2, l2, R2, e2⟩ | ⟨m2, l2, e2⟩ | ⟨m2, l2, e2⟩
    · rw [m1] at m2
      cases m2
    · rw [e1] at e2
      have e3 := List.append_cancel_left e2
      injection e3 with e4 _
      have := cop_inj (i := i) (j := j) hc (by omega : (bg + st * i) % 26 = (bg + st * j) % 26)
      omega
    · rw [e1] at e2
      have e3 := List.append_cancel_left e2
      injection e3 with _ e4
      cases e4
  · rcases h2 with ⟨m2, l2, R2, e2⟩ | ⟨m2, l2, e2⟩ | ⟨m2, l2, e2⟩
    · rw [m1] at m2
      cases m2
    · rw [e1] at e2
      have e3 := List.append_cancel_left e2
      injection e3 with _ e4
      cases e4
    · rw [e1] at e2
      obtain ⟨e3, e4⟩ := app_two e2
      have := cop_inj (i := i) (j := j) hc (by omega : (bg + st * i) % 26 = (bg + st * j) % 26)
      omega
theorem nodup_at {zs : List Str} (h : ∀ (i j : Nat) (y : Str), zs[i]? = some y → zs[j]? = some y → i = j) : zs.Nodup := by
  rw [List.nodup_iff_pairwise_ne, List.pairwise_iff_getElem]
  intro i j hi hj hij e
  have h1 : zs[i]? = some zs[i] := List.getElem?_eq_getElem hi
  have h2 : zs[j]? = some zs[i] := by rw [List.getElem?_eq_getElem hj, e]
  have := h i j _ h1 h2
  omega
theorem form_nodup {md : Bool} {P : List Nat} {bg st : Nat} {zs : List Str} (hc : Cop st) (hf : ∀ (k : Nat) (y : Str), zs[k]? = some y → Form md P bg st k y) (_ : zs.length ≤ 600) : zs.Nodup :=
  nodup_at fun i j y h1 h2 => form_inj hc (hf i y h1) (hf j y h2)
theorem len_nodup {zs : List Str} (hf : ∀ (k : Nat) (y : Str), zs[k]? = some y → y.length = k + 1) : zs.Nodup :=
  nodup_at fun i j y h1 h2 => by
    have := hf i y h1
    have := hf j y h2
    omega
theorem perm_nodup {ys us : List Str} {qs : List Vd} (pm : qs.Perm (ys.map fun z => (V.str z, PyData.str z))) (e : qs.map (·.1) = us.map V.str) (h : ys.Nodup) : us.Nodup := by
  have p1 : (qs.map (·.1)).Perm ((ys.map fun z => (V.str z, PyData.str z)).map (·.1)) := pm.map _
  rw [e, List.map_map] at p1
  have h2 : (ys.map V.str).Nodup := h.map V.str fun a b hab hn => hab (V.str.inj hn)
  have h3 : (us.map V.str).Nodup := p1.nodup_iff.mpr h2
  unfold List.Nodup at *
  rw [List.pairwise_map] at h3
  exact h3.imp fun hne e => hne (congrArg V.str e)
def spNamesD : Sp := fun vs H Q _ => ∃ (b : Addr) (m n : Nat), vs = [.ref b, .int (m : Int)] ∧ BoxAt H b n ∧ n ≤ 50000 ∧ m ≤ 100 ∧
  ∀ (p : Addr) (H' : Hp) (zs : List Str), zs.length = m → (∀ z ∈ zs, NameZ z) → zs.Nodup → H p = none → H' p = some (.lst (zs.map V.str)) → BoxAt H' b (n + 11 + m) → But b H H' → Q (.ref p) H'
section
variable {P : Program} {w : World} {K : PySem.W.Frag} {mg : Str → Option Value} {base : Heap}
theorem ok_namesD {f fT fM : Addr} {fd fdT fdM : FuncData} (F : Fun K "_law_names" "_law_names" sNames f fd) (T : Fun K "_law_take" "_law_take" sTake fT fdT) (bT : Binds K fdT ["_law_box_here", "_law_many"] []) (gT : mg "_law_take" = some (.ref fT))
    (M : Fun K "_law_mixed" "_law_mixed" sMixed fM fdM) (bM : Binds K fdM ["_law_box_here", "_law_some"] []) (gM : mg "_law_mixed" = some (.ref fM)) (ml : mg "len" = none) (mL : mg "list" = none) (mr : mg "range" = none) :
    FnOk P w K mg base CX0 3 f fd ["_law_box_here", "_law_many"] spNamesD := by
  have GT : FnOk P w K mg base CX0 1 fT fdT ["_law_box_here", "_law_many"] spTake := ok_take T
  have GM : FnOk P w K mg base CX0 2 fM fdM ["_law_box_here", "_law_some"] (spMixed K) := ok_mixed M T bT gT ml mL
  refine F.ok scNames (fun vs H Q E h => ?_) (fun cdv A outer s H vs Q E hr h => ?_)
  · obtain ⟨b, m, n, rfl, _⟩ := h
    rfl
  · obtain ⟨b, m, n, rfl, B, hn, hm, q⟩ := h
    have hr1 := hr.mono (show 1 ≤ 2 by decide)
    obtain ⟨ts, psl, qsl⟩ : ∃ t, PSs (cxOf CX0 P w K mg base nNames "_law_names" (defScope sNames) f cdv A outer s H E).nox ((defBody sNames).drop 5) t ∧
        ∀ (way cut bg st : Nat) (z : Str) (x8 : Option V) (H1 : Hp), cut ≤ 7 → (26 < m → cut ≤ 6) → bg < 26 → Cop st → LowZ z → z.length = 7 → BoxAt H1 b (n + 11) → But b H H1 → t { nx := fun _ H' => Q .non H', rt := Q } [some (.ref b), some (.int (m : Int)), some (.str abc), some (.int (way : Int)), some (.int (cut : Int)), some (.int (bg : Int)), some (.int (st : Int)), some (.str z), x8, none, none, none] H1 := by
      refine ⟨_, pss_cons (ps_set (i := 9) scNames.nd rfl (.inl rfl) (pe_lst pa_nil))
      (pss_cons (ps_for PassesOwn.never rfl (pi_range1 rfl mr (pa_cons (pv 1) pa_nil)) (pg_name (i := 8) scNames.nd rfl (.inl rfl))
        (pss_cons (ps_set (i := 10) scNames.nd rfl (.inl rfl) (pe_item_str (pv 2) (pe_op op_mod (pe_op op_add (pv 5) (pe_op op_mul (pv 6) (pv 8))) pe_int) (fun _ _ => rfl)))
        (pss_cons (ps_set (i := 11) scNames.nd rfl (.inl rfl) (pe_op op_add_str (pe_slice sl_str (pv 7) po_none (po_some (pv 4))) (pv 10)))
        (pss_cons (ps_if (PW.pt (pw_and (pt_cmpR op_eq (pv 3) pe_int (nomark _)) (pw_and1 (pt_cmpR op_lt (pv 1) pe_int (nomark _)))))
          (pss_one (ps_set (i := 11) scNames.nd rfl (.inl rfl) (pe_op op_add_str (pv 10) (pe_slice sl_str (pv 7) po_none (po_some (pe_op op_mod (pe_op op_add (pv 4) (pe_op op_mul pe_int (pv 8))) pe_int)))))) pss_nil)
        (pss_one (ps_expr (pe_bm PySem.F.plainAttrs_list PySem.F.slot_list_append PySem.F.type_list_append mt_append (pv 9) (pa_cons
          (pe_ifExp (pt_cmpR op_lt (pv 8) pe_int (nomark _)) (pv 11) (pe_op op_add_str (pv 11) (pe_item_str (pv 2) (pe_op op_fdiv (pv 8) pe_int) (fun _ _ => rfl)))) pa_nil))))))))
      (pss_one (ps_ret (pv 9)))), ?_⟩
      intro way cut bg st z x8 H1 hcut hcut2 hbg hcop hz hl B1 k1
      have hst := cop_le hcop
      generalize hmd : (decide (V.int (way : Int) = V.int 1) && decide ((m : Int) < 27)) = md
      have hm26 : md = true → m < 27 := fun e => by
        rw [e] at hmd
        have := of_decide_eq_true (Bool.and_eq_true_iff.mp hmd).2
        omega
      refine ⟨Nat.zero_le _, fun D hD => ?_⟩
      have nD := box_ne B1 hD
      have fD := free_of k1 nD hD
      refine ⟨_, rfl, _, rfl, by omega, by omega, ?_⟩
      rw [Int.toNat_natCast m]
      refine for_range (lo := 0) (n := m) (fun i σ H2 => ∃ (zs : List Str) (x8 x10 x11 : Option V), σ = [some (.ref b), some (.int (m : Int)), some (.str abc), some (.int (way : Int)), some (.int (cut : Int)), some (.int (bg : Int)), some (.int (st : Int)), some (.str z), x8, some (.ref D), x10, x11] ∧
        H2 D = some (.lst (zs.map V.str)) ∧ zs.length = i ∧ (∀ y ∈ zs, NameZ y) ∧ (∀ (k : Nat) (y : Str), zs[k]? = some y → Form md (cs (cutS z none (some (cut : Int)))) bg st k y) ∧ BoxAt H2 b (n + 11) ∧ But b H H2) ?_ ?_ ?_
      · exact ⟨[], x8, none, none, rfl, upd_same, rfl, (fun y h => nomatch h), (fun k y h => by simp at h), box_new B1 hD, but_upd k1 fD⟩
      · rintro i σ H2 hi ⟨zs, x8, x10, x11, rfl, e2, hlz, hy, hf, B2, k2⟩
        have r := emod_in ((bg : Int) + (st : Int) * (0 + (i : Int))) 26 (by decide)
        obtain ⟨j, ej, hj⟩ := draw_at r.1 r.2 (n := 26) rfl
        obtain ⟨c, hc, c97⟩ := abc_at hj
        refine ⟨_, rfl, _, rfl, _, rfl, _, rfl, _, _, rfl, rfl, .inl ⟨by omega, by omega⟩, _, _, rfl, rfl, _, _, rfl, rfl, (by show (0 : Int) < 26; decide), _, _, c, rfl, rfl, r.1, by omega, (show _ < ((26 : Nat) : Int) by omega), (by rw [ej]; exact hc), ?_⟩
        have lo := low_one c97
        have len1 : (⟨#[c]⟩ : Str).length = 1 := rfl
        have ec : cs (⟨#[c]⟩ : Str) = [97 + (bg + st * i) % 26] := abc_code hj hc (by have ej2 := ej; rw [Int.zero_add] at ej2; omega)
        generalize (⟨#[c]⟩ : Str) = lt at lo len1 ec
        have cl := cut_len z cut
        refine ⟨_, rfl, _, rfl, _, rfl, z, rfl, small_size (by omega), _, rfl, _, _, rfl, rfl, small_size (by omega), ?_⟩
        have Y0 : LowZ (cutS z none (some (cut : Int)) ++ lt) ∧ 1 ≤ (cutS z none (some (cut : Int)) ++ lt).length ∧ (cutS z none (some (cut : Int)) ++ lt).length ≤ 8 ∧ (26 ≤ i → (cutS z none (some (cut : Int)) ++ lt).length ≤ 7) := by
          rw [app_len]
          exact ⟨(hz.cut _ _).app lo, by omega, by omega, fun _ => by omega⟩
        have r8 := emod_in ((cut : Int) + 3 * (0 + (i : Int))) 8 (by decide)
        refine ⟨_, rfl, rfl, _, rfl, ite2 (fun hw => ?_) (fun hw => ?_)⟩
        · refine ⟨_, rfl, _, _, rfl, rfl, _, rfl, ite2 (fun h27 => ?_) (fun h27 => ?_)⟩
          · have hm27 : (m : Int) < 27 := of_decide_eq_true h27
            obtain ⟨j8, ej8, hj8⟩ := draw_at r8.1 r8.2 (n := 8) rfl
            have cl8 := cut_len z j8
            refine ⟨_, rfl, _, rfl, _, rfl, _, rfl, _, _, rfl, rfl, .inl ⟨by decide, by decide⟩, _, _, rfl, rfl, _, _, rfl, rfl, (by show (0 : Int) < 8; decide), _, rfl, z, rfl, small_size (by omega), _, _, rfl, rfl, ?_, ?_⟩
            · rw [ej8, len1]
              exact small_size (by omega)
            have Y : NameI (lt ++ cutS z none (some (((cut : Int) + 3 * (0 + (i : Int))) % 8))) i ∧ BaseF md (cs (cutS z none (some (cut : Int)))) bg st i (lt ++ cutS z none (some (((cut : Int) + 3 * (0 + (i : Int))) % 8))) := by
              refine ⟨?_, .inl ⟨?_, cs (cutS z none (some (((cut : Int) + 3 * (0 + (i : Int))) % 8))), by rw [cs_app, ec]; rfl⟩⟩
              · unfold NameI
                rw [ej8, app_len]
                exact ⟨lo.app (hz.cut _ _), by omega, by omega, fun h => by omega⟩
              · rw [← hmd, hw, h27]
                rfl
            revert Y
            generalize (lt ++ cutS z none (some (((cut : Int) + 3 * (0 + (i : Int))) % 8))) = y
            intro Y
            obtain ⟨⟨y1, y2, y3, y4⟩, y5⟩ := Y
            have done : ∀ (u : Str) (x8 x10 x11 : Option V), NameZ u → Form md (cs (cutS z none (some (cut : Int)))) bg st i u → ∃ (zs' : List Str) (x8' x10' x11' : Option V), [some (V.ref b), some (.int (m : Int)), some (.str abc), some (.int (way : Int)), some (.int (cut : Int)), some (.int (bg : Int)), some (.int (st : Int)), some (.str z), x8, some (.ref D), x10, x11] = [some (.ref b), some (.int (m : Int)), some (.str abc), some (.int (way : Int)), some (.int (cut : Int)), some (.int (bg : Int)), some (.int (st : Int)), some (.str z), x8', some (.ref D), x10', x11'] ∧
                upd H2 D (.lst (zs.map V.str ++ [.str u])) D = some (.lst (zs'.map V.str)) ∧ zs'.length = i + 1 ∧ (∀ y ∈ zs', NameZ y) ∧ (∀ (k : Nat) (y : Str), zs'[k]? = some y → Form md (cs (cutS z none (some (cut : Int)))) bg st k y) ∧ BoxAt (upd H2 D (.lst (zs.map V.str ++ [.str u]))) b (n + 11) ∧ But b H (upd H2 D (.lst (zs.map V.str ++ [.str u]))) := fun u x8 x10 x11 hu hu2 => by
              refine ⟨zs ++ [u], x8, x10, x11, rfl, ?_, ?_, fun v hv => ?_, form_app hlz hf hu2, box_upd B2 nD, but_upd k2 fD⟩
              · rw [upd_same, List.map_append]
                rfl
              · rw [List.length_append, hlz]
                rfl
              · rcases List.mem_append.mp hv with hv | hv
                · exact hy v hv
                · rw [List.mem_singleton.mp hv]
                  exact hu
            have room : (zs.map V.str).length < sizeLine := by
              rw [List.length_map]
              exact small1000 (by omega)
            refine ⟨_, rfl, .inl ⟨rfl, _, .of e2⟩, _, rfl, _, _, rfl, rfl, _, rfl, ite2 (fun h26 => ?_) (fun h26 => ?_)⟩
            · exact ⟨_, rfl, D, _, _, rfl, rfl, e2, room, done y _ _ _ ⟨y1, y2, y3⟩ (form_lt y5 (by have := of_decide_eq_true h26; omega))⟩
            · have h26' : ¬ ((0 + (i : Int)) < 26) := fun h => h26 (decide_eq_true h)
              have yl := y4 (by omega)
              have hd : (0 + (i : Int)) / 26 = ((i / 26 : Nat) : Int) := by omega
              obtain ⟨c2, hc2, c297⟩ := abc_at (j := i / 26) (by omega)
              refine ⟨_, rfl, _, rfl, _, rfl, _, _, rfl, rfl, ⟨by decide, by decide⟩, _, _, c2, rfl, rfl, by omega, by omega, (show _ < ((26 : Nat) : Int) by omega), (by rw [hd]; exact hc2), _, _, rfl, rfl, ?_, D, _, _, rfl, rfl, e2, room, ?_⟩
              · show y.length + 1 ≤ sizeLine
                exact small_size (by omega)
              · have l2 : (y ++ (⟨#[c2]⟩ : Str)).length = y.length + 1 := app_len y ⟨#[c2]⟩
                exact done (y ++ ⟨#[c2]⟩) _ _ _ ⟨y1.app (low_one c297), by omega, by omega⟩ (form_ge y5 (by omega) (fun e => by have := hm26 e; omega) (by rw [cs_app, abc_code2 (by omega) hc2]))
          · have Y : NameI (cutS z none (some (cut : Int)) ++ lt) i ∧ BaseF md (cs (cutS z none (some (cut : Int)))) bg st i (cutS z none (some (cut : Int)) ++ lt) := ⟨Y0, .inr ⟨by rw [← hmd, Bool.eq_false_iff.mpr h27, Bool.and_false], by rw [cs_app, ec]⟩⟩
            revert Y
            generalize (cutS z none (some (cut : Int)) ++ lt) = y
            intro Y
            obtain ⟨⟨y1, y2, y3, y4⟩, y5⟩ := Y
            have done : ∀ (u : Str) (x8 x10 x11 : Option V), NameZ u → Form md (cs (cutS z none (some (cut : Int)))) bg st i u → ∃ (zs' : List Str) (x8' x10' x11' : Option V), [some (V.ref b), some (.int (m : Int)), some (.str abc), some (.int (way : Int)), some (.int (cut : Int)), some (.int (bg : Int)), some (.int (st : Int)), some (.str z), x8, some (.ref D), x10, x11] = [some (.ref b), some (.int (m : Int)), some (.str abc), some (.int (way : Int)), some (.int (cut : Int)), some (.int (bg : Int)), some (.int (st : Int)), some (.str z), x8', some (.ref D), x10', x11'] ∧
                upd H2 D (.lst (zs.map V.str ++ [.str u])) D = some (.lst (zs'.map V.str)) ∧ zs'.length = i + 1 ∧ (∀ y ∈ zs', NameZ y) ∧ (∀ (k : Nat) (y : Str), zs'[k]? = some y → Form md (cs (cutS z none (some (cut : Int)))) bg st k y) ∧ BoxAt (upd H2 D (.lst (zs.map V.str ++ [.str u]))) b (n + 11) ∧ But b H (upd H2 D (.lst (zs.map V.str ++ [.str u]))) := fun u x8 x10 x11 hu hu2 => by
              refine ⟨zs ++ [u], x8, x10, x11, rfl, ?_, ?_, fun v hv => ?_, form_app hlz hf hu2, box_upd B2 nD, but_upd k2 fD⟩
              · rw [upd_same, List.map_append]
                rfl
              · rw [List.length_append, hlz]
                rfl
              · rcases List.mem_append.mp hv with hv | hv
                · exact hy v hv
                · rw [List.mem_singleton.mp hv]
                  exact hu
            have room : (zs.map V.str).length < sizeLine := by
              rw [List.length_map]
              exact small1000 (by omega)
            refine ⟨_, rfl, .inl ⟨rfl, _, .of e2⟩, _, rfl, _, _, rfl, rfl, _, rfl, ite2 (fun h26 => ?_) (fun h26 => ?_)⟩
            · exact ⟨_, rfl, D, _, _, rfl, rfl, e2, room, done y _ _ _ ⟨y1, y2, y3⟩ (form_lt y5 (by have := of_decide_eq_true h26; omega))⟩
            · have h26' : ¬ ((0 + (i : Int)) < 26) := fun h => h26 (decide_eq_true h)
              have yl := y4 (by omega)
              have hd : (0 + (i : Int)) / 26 = ((i / 26 : Nat) : Int) := by omega
              obtain ⟨c2, hc2, c297⟩ := abc_at (j := i / 26) (by omega)
              refine ⟨_, rfl, _, rfl, _, rfl, _, _, rfl, rfl, ⟨by decide, by decide⟩, _, _, c2, rfl, rfl, by omega, by omega, (show _ < ((26 : Nat) : Int) by omega), (by rw [hd]; exact hc2), _, _, rfl, rfl, ?_, D, _, _, rfl, rfl, e2, room, ?_⟩
              · show y.length + 1 ≤ sizeLine
                exact small_size (by omega)
              · have l2 : (y ++ (⟨#[c2]⟩ : Str)).length = y.length + 1 := app_len y ⟨#[c2]⟩
                exact done (y ++ ⟨#[c2]⟩) _ _ _ ⟨y1.app (low_one c297), by omega, by omega⟩ (form_ge y5 (by omega) (fun e => by have := hm26 e; omega) (by rw [cs_app, abc_code2 (by omega) hc2]))
        · have Y : NameI (cutS z none (some (cut : Int)) ++ lt) i ∧ BaseF md (cs (cutS z none (some (cut : Int)))) bg st i (cutS z none (some (cut : Int)) ++ lt) := ⟨Y0, .inr ⟨by rw [← hmd, Bool.eq_false_iff.mpr hw, Bool.false_and], by rw [cs_app, ec]⟩⟩
          revert Y
          generalize (cutS z none (some (cut : Int)) ++ lt) = y
          intro Y
          obtain ⟨⟨y1, y2, y3, y4⟩, y5⟩ := Y
          have done : ∀ (u : Str) (x8 x10 x11 : Option V), NameZ u → Form md (cs (cutS z none (some (cut : Int)))) bg st i u → ∃ (zs' : List Str) (x8' x10' x11' : Option V), [some (V.ref b), some (.int (m : Int)), some (.str abc), some (.int (way : Int)), some (.int (cut : Int)), some (.int (bg : Int)), some (.int (st : Int)), some (.str z), x8, some (.ref D), x10, x11] = [some (.ref b), some (.int (m : Int)), some (.str abc), some (.int (way : Int)), some (.int (cut : Int)), some (.int (bg : Int)), some (.int (st : Int)), some (.str z), x8', some (.ref D), x10', x11'] ∧
              upd H2 D (.lst (zs.map V.str ++ [.str u])) D = some (.lst (zs'.map V.str)) ∧ zs'.length = i + 1 ∧ (∀ y ∈ zs', NameZ y) ∧ (∀ (k : Nat) (y : Str), zs'[k]? = some y → Form md (cs (cutS z none (some (cut : Int)))) bg st k y) ∧ BoxAt (upd H2 D (.lst (zs.map V.str ++ [.str u]))) b (n + 11) ∧ But b H (upd H2 D (.lst (zs.map V.str ++ [.str u]))) := fun u x8 x10 x11 hu hu2 => by
            refine ⟨zs ++ [u], x8, x10, x11, rfl, ?_, ?_, fun v hv => ?_, form_app hlz hf hu2, box_upd B2 nD, but_upd k2 fD⟩
            · rw [upd_same, List.map_append]
              rfl
            · rw [List.length_append, hlz]
              rfl
            · rcases List.mem_append.mp hv with hv | hv
              · exact hy v hv
              · rw [List.mem_singleton.mp hv]
                exact hu
          have room : (zs.map V.str).length < sizeLine := by
            rw [List.length_map]
            exact small1000 (by omega)
          refine ⟨_, rfl, .inl ⟨rfl, _, .of e2⟩, _, rfl, _, _, rfl, rfl, _, rfl, ite2 (fun h26 => ?_) (fun h26 => ?_)⟩
          · exact ⟨_, rfl, D, _, _, rfl, rfl, e2, room, done y _ _ _ ⟨y1, y2, y3⟩ (form_lt y5 (by have := of_decide_eq_true h26; omega))⟩
          · have h26' : ¬ ((0 + (i : Int)) < 26) := fun h => h26 (decide_eq_true h)
            have yl := y4 (by omega)
            have hd : (0 + (i : Int)) / 26 = ((i / 26 : Nat) : Int) := by omega
            obtain ⟨c2, hc2, c297⟩ := abc_at (j := i / 26) (by omega)
            refine ⟨_, rfl, _, rfl, _, rfl, _, _, rfl, rfl, ⟨by decide, by decide⟩, _, _, c2, rfl, rfl, by omega, by omega, (show _ < ((26 : Nat) : Int) by omega), (by rw [hd]; exact hc2), _, _, rfl, rfl, ?_, D, _, _, rfl, rfl, e2, room, ?_⟩
            · show y.length + 1 ≤ sizeLine
              exact small_size (by omega)
            · have l2 : (y ++ (⟨#[c2]⟩ : Str)).length = y.length + 1 := app_len y ⟨#[c2]⟩
              exact done (y ++ ⟨#[c2]⟩) _ _ _ ⟨y1.app (low_one c297), by omega, by omega⟩ (form_ge y5 (by omega) (fun e => by have := hm26 e; omega) (by rw [cs_app, abc_code2 (by omega) hc2]))
      · rintro σ H2 ⟨zs, x8, x10, x11, rfl, e2, hlz, hy, hf, B2, k2⟩
        exact ⟨_, rfl, q D H2 zs hlz hy (form_nodup hcop hf (by omega)) fD e2 (B2.mono (by omega)) k2⟩
    obtain ⟨tl, pl, ql⟩ : ∃ t, PSs (cxOf CX0 P w K mg base nNames "_law_names" (defScope sNames) f cdv A outer s H E).nox ((defBody sNames).drop 2) t ∧
        ∀ (way cut bg : Nat) (H1 : Hp), cut ≤ 7 → (26 < m → cut ≤ 6) → bg < 26 → BoxAt H1 b (n + 3) → But b H H1 → t { nx := fun _ H' => Q .non H', rt := Q } [some (.ref b), some (.int (m : Int)), some (.str abc), some (.int (way : Int)), some (.int (cut : Int)), some (.int (bg : Int)), none, none, none, none, none, none] H1 := by
      refine ⟨_, pss_cons (ps_asg (pe_tup (pa_cons (pe_ix ix_list (pe_lst (pa_cons pe_int (pa_cons pe_int (pa_cons pe_int (pa_cons pe_int (pa_cons pe_int (pa_cons pe_int (pa_cons pe_int (pa_cons pe_int pa_nil)))))))))
          (pe_call GT hr1 rfl gT T.kp bT .nil pass0 (pa_cons (pv 0) (pa_cons pe_int pa_nil))) (fun _ _ => rfl)) (pa_cons pe_str pa_nil)))
        (pg_tup (by rfl) (pgs_cons (pg_name (i := 6) scNames.nd rfl (.inl rfl)) (pgs_cons (pg_name (i := 7) scNames.nd rfl (.inr rfl)) pgs_nil))))
      (pss_cons (ps_for PassesOwn.never rfl (pi_range1 rfl mr (pa_cons pe_int pa_nil)) (pg_name (i := 8) scNames.nd rfl (.inl rfl))
        (pss_one (ps_set (i := 7) scNames.nd rfl (.inr rfl) (pe_op op_add_str (pv 7) (pe_item_str (pv 2) (pe_call GT hr1 rfl gT T.kp bT .nil pass0 (pa_cons (pv 0) (pa_cons pe_int pa_nil))) (fun _ _ => rfl))))))
      (pss_cons (ps_if (PW.pt (pw_and (pt_cmpR op_eq (pv 3) pe_int (nomark _)) (pw_and1 (pt_cmpR op_lt (pv 1) pe_int (nomark _)))))
        (pss_one (ps_ret (pe_call GM hr rfl gM M.kp bM .nil pass0 (pa_cons (pv 0) (pa_cons (pe_lc (own := [("_law_k", 8)]) (g := gName 8) (tt := tYes) (by rfl) scNames.nd (pi_range1 rfl mr (pa_cons (pv 1) pa_nil))
          (blkOk_by (own := [("_law_k", 8)]) (N := nNames) (sc := defScope sNames) (by decide +kernel)) (fun _ _ _ _ _ => pg_name (i := 8) scNames.nd rfl (.inl rfl)) (fun _ _ _ _ _ => pts_nil)
          (fun _ _ _ _ _ => pe_slice sl_str (pe_op op_add_str (pv 7) (pe_item_str (pv 2) (pv 5) (fun _ _ => rfl))) po_none (po_some (pe_op op_add (pv 8) pe_int)))) pa_nil))))) pss_nil)
      psl)), ?_⟩
      intro way cut bg H1 hcut hcut2 hbg B1 k1
      refine ⟨(by show 8 ≤ sizeLine; decide), fun p1 hp1 => ?_⟩
      have np1 := box_ne B1 hp1
      refine ⟨_, rfl, b, 8, n + 3, rfl, box_new B1 hp1, by omega, by decide, by decide, fun r H2 r0 r1 B2 k2 => ?_⟩
      obtain ⟨j, rfl, hj⟩ := draw_at (n := 8) r0 r1 rfl
      have e2 := k2 _ _ np1 upd_same
      have kk2 : But b H H2 := (k1.trans (But.new hp1)).trans k2
      obtain ⟨st, hst, hst17⟩ : ∃ st : Nat, ([.int 1, .int 3, .int 5, .int 7, .int 9, .int 11, .int 15, .int 17] : List V)[j]? = some (.int (st : Int)) ∧ Cop st := by
        match j, hj with
        | 0, _ => exact ⟨1, rfl, by unfold Cop; decide⟩
        | 1, _ => exact ⟨3, rfl, by unfold Cop; decide⟩
        | 2, _ => exact ⟨5, rfl, by unfold Cop; decide⟩
        | 3, _ => exact ⟨7, rfl, by unfold Cop; decide⟩
        | 4, _ => exact ⟨9, rfl, by unfold Cop; decide⟩
        | 5, _ => exact ⟨11, rfl, by unfold Cop; decide⟩
        | 6, _ => exact ⟨15, rfl, by unfold Cop; decide⟩
        | 7, _ => exact ⟨17, rfl, by unfold Cop; decide⟩
      refine ⟨p1, _, _, .int (st : Int), rfl, rfl, .of e2, atI_nat hst, (by show 2 ≤ sizeLine; decide), fun p2 hp2 => ?_⟩
      have np2 := box_ne B2 hp2
      refine ⟨p2, _, rfl, .of upd_same, rfl, _, _, rfl, _, _, rfl, rfl, ?_⟩
      have B3 : BoxAt (upd H2 p2 (.tup [.int (st : Int), .str ""])) b (n + 4) := box_new B2 hp2
      have k3 : But b H (upd H2 p2 (.tup [.int (st : Int), .str ""])) := kk2.trans (But.new hp2)
      generalize upd H2 p2 (.tup [.int (st : Int), .str ""]) = H3 at B3 k3
      -- the stem
      refine ⟨_, rfl, by decide, by decide, ?_⟩
      refine for_range (lo := 0) (n := 7) (fun i σ H4 => ∃ (z : Str) (x8 : Option V), σ = [some (.ref b), some (.int (m : Int)), some (.str abc), some (.int (way : Int)), some (.int (cut : Int)), some (.int (bg : Int)), some (.int (st : Int)), some (.str z), x8, none, none, none] ∧ LowZ z ∧ z.length = i ∧ BoxAt H4 b (n + 4 + i) ∧ But b H H4) ?_ ?_ ?_
      · exact ⟨"", none, rfl, (fun c h => nomatch h), rfl, B3, k3⟩
      · rintro i σ H4 hi ⟨z, x8, rfl, hz, hl, B4, k4⟩
        refine ⟨_, rfl, _, rfl, _, rfl, b, 26, n + 4 + i, rfl, B4, by omega, by decide, by decide, fun r H5 r0 r1 B5 k5 => ?_⟩
        obtain ⟨j, rfl, hj⟩ := draw_at (n := 26) r0 r1 rfl
        obtain ⟨c, hc, c97⟩ := abc_at hj
        refine ⟨_, _, c, rfl, rfl, by omega, by omega, (show ((j : Nat) : Int) < ((26 : Nat) : Int) by omega), hc, ?_⟩
        refine ⟨_, _, rfl, rfl, ?_, ?_⟩
        · show z.length + 1 ≤ sizeLine
          rw [sizeLine_eq]
          omega
        · refine ⟨z ++ ⟨#[c]⟩, _, rfl, hz.app (low_one c97), ?_, B5, k4.trans k5⟩
          rw [app_len, hl]
          rfl
      · rintro σ H4 ⟨z, x8, rfl, hz, hl, B4, k4⟩
        -- from here on two ways
        have namesOf : ∀ (zs : List Str) (qs : List Vd), qs.Perm (zs.map fun z => (V.str z, PyData.str z)) → (∀ z ∈ zs, NameZ z) →
            ∃ ys : List Str, qs.map (·.1) = ys.map V.str ∧ ys.length = zs.length ∧ ∀ y ∈ ys, NameZ y := fun zs qs pm hz => by
          have each : ∀ x ∈ qs, ∃ y, x = (V.str y, PyData.str y) ∧ NameZ y := fun x hx => by
            obtain ⟨y, hy, e⟩ := List.mem_map.mp (pm.mem_iff.mp hx)
            exact ⟨y, e.symm, hz y hy⟩
          have hlen : qs.length = zs.length := by
            rw [pm.length_eq, List.length_map]
          rw [← hlen]
          clear pm hlen
          induction qs with
          | nil => exact ⟨[], rfl, rfl, fun y hy => nomatch hy⟩
          | cons x qs ih =>
            obtain ⟨y, rfl, hy⟩ := each x List.mem_cons_self
            obtain ⟨ys, e1, e2, e3⟩ := ih fun x hx => each x (List.mem_cons_of_mem _ hx)
            refine ⟨y :: ys, ?_, congrArg (· + 1) e2, fun u hu => ?_⟩
            · rw [List.map_cons, e1]
              rfl
            · rcases List.mem_cons.mp hu with rfl | hu
              · exact hy
              · exact e3 u hu
        have mInt : (m : Int).toNat = m := Int.toNat_natCast m
        refine ⟨_, rfl, rfl, _, rfl, ite2 (fun _ => ?_) (fun _ => ?_)⟩
        · refine ⟨_, rfl, _, _, rfl, rfl, _, rfl, ite2 (fun h9 => ?_) (fun _ => ?_)⟩
          · have hm9 : (m : Int) < 9 := of_decide_eq_true h9
            refine ⟨_, rfl, _, rfl, _, rfl, by omega, by omega, fun D hD => ?_⟩
            have nD := box_ne B4 hD
            have fD := free_of k4 nD hD
            rw [mInt]
            refine lc_range (lo := 0) (n := m) (fun i H5 => ∃ ys : List Str, H5 D = some (.lst (ys.map V.str)) ∧ ys.length = i ∧ (∀ y ∈ ys, NameZ y) ∧ (∀ (k : Nat) (y : Str), ys[k]? = some y → y.length = k + 1) ∧ BoxAt H5 b (n + 11) ∧ But b H H5) ?_ ?_ ?_
            · exact ⟨[], upd_same, rfl, (fun y h => nomatch h), (fun k y h => by simp at h), box_new B4 hD, but_upd k4 fD⟩
            · rintro i H5 hi ⟨ys, e5, hl5, hy, hf5, B5, k5⟩
              refine ⟨rfl, ?_⟩
              unfold tYes
              dsimp only
              rw [if_pos rfl]
              obtain ⟨c, hc, c97⟩ := abc_at hbg
              refine ⟨_, rfl, _, rfl, _, rfl, _, _, c, rfl, rfl, by omega, by omega, (show ((bg : Nat) : Int) < ((26 : Nat) : Int) by omega), hc, _, _, rfl, rfl, ?_, ?_⟩
              · show z.length + 1 ≤ sizeLine
                rw [sizeLine_eq]
                omega
              have lz : (z ++ ⟨#[c]⟩).length = 8 := by
                rw [app_len, hl]
                rfl
              refine ⟨_, rfl, _, _, rfl, rfl, _, rfl, _, rfl, small_size (by omega), ?_⟩
              have e0 : (0 + (i : Int) + 1 : Int) = ((i + 1 : Nat) : Int) := by omega
              rw [e0]
              have cl := cut_len (z ++ ⟨#[c]⟩) (i + 1)
              refine ⟨_, e5, ?_, ys ++ [cutS (z ++ ⟨#[c]⟩) none (some ((i + 1 : Nat) : Int))], ?_, ?_, ?_, form_app (G := fun k y => y.length = k + 1) hl5 hf5 (by show (cutS (z ++ ⟨#[c]⟩) none (some ((i + 1 : Nat) : Int))).length = i + 1; omega), ?_, ?_⟩
              · rw [List.length_map]
                exact small1000 (by omega)
              · rw [upd_same, List.map_append]
                rfl
              · rw [List.length_append, hl5]
                rfl
              · intro y h
                rcases List.mem_append.mp h with h | h
                · exact hy y h
                · rw [List.mem_singleton.mp h]
                  exact ⟨(hz.app (low_one c97)).cut _ _, by omega, by omega⟩
              · exact box_upd B5 nD
              · exact but_upd k5 fD
            · rintro H5 ⟨ys, e5, hl5, hy, hf5, B5, k5⟩
              refine ⟨b, D, n + 11, ys.map fun z => (V.str z, PyData.str z), rfl, B5, ?_, .inl (.of ?_), ?_, fun p H6 qs pm np e6 B6 k6 => ?_⟩
              · rw [List.length_map]
                omega
              · rw [e5, List.map_map]
                rfl
              · intro x hx
                obtain ⟨y, hyy, rfl⟩ := List.mem_map.mp hx
                exact ⟨(hy y hyy).1.lay, fun H' _ => .str y⟩
              · obtain ⟨us, u1, u2, u3⟩ := namesOf ys qs pm hy
                rw [u1] at e6
                rw [List.length_map, hl5] at B6
                exact q p H6 us (u2.trans hl5) u3 (perm_nodup pm u1 (len_nodup hf5)) (free_of k5 (box_ne B5 np) np) e6 B6 (k5.trans k6)
          · exact qsl way cut bg st z x8 H4 hcut hcut2 hbg hst17 hz hl B4 k4
        · exact qsl way cut bg st z x8 H4 hcut hcut2 hbg hst17 hz hl B4 k4
    refine ⟨_, pss_cons (ps_set (i := 2) scNames.nd rfl (.inr rfl) pe_str)
      (pss_cons (ps_asg (pe_tup (pa_cons (pe_call GT hr1 rfl gT T.kp bT .nil pass0 (pa_cons (pv 0) (pa_cons pe_int pa_nil)))
          (pa_cons (pe_call GT hr1 rfl gT T.kp bT .nil pass0 (pa_cons (pv 0) (pa_cons (pe_ifExp (pt_cmpR op_lt (pv 1) pe_int (nomark _)) pe_int pe_int) pa_nil)))
          (pa_cons (pe_call GT hr1 rfl gT T.kp bT .nil pass0 (pa_cons (pv 0) (pa_cons pe_int pa_nil))) pa_nil))))
        (pg_tup (by rfl) (pgs_cons (pg_name (i := 3) scNames.nd rfl (.inl rfl)) (pgs_cons (pg_name (i := 4) scNames.nd rfl (.inl rfl)) (pgs_cons (pg_name (i := 5) scNames.nd rfl (.inr rfl)) pgs_nil))))) pl), ?_⟩
    refine ⟨_, rfl, b, 4, n, rfl, B, by omega, by decide, by decide, fun way H1 w0 w1 B1 k1 => ?_⟩
    obtain ⟨way, rfl, _⟩ := draw_at (n := 4) w0 w1 rfl
    refine ⟨_, rfl, _, rfl, _, _, rfl, rfl, _, rfl, ite2 (fun hm27 => ?_) (fun hm27 => ?_)⟩
    · refine ⟨b, 8, n + 1, rfl, B1, by omega, by decide, by decide, fun cut H2 c0 c1 B2 k2 => ?_⟩
      obtain ⟨cut, rfl, hcut⟩ := draw_at (n := 8) c0 c1 rfl
      refine ⟨_, rfl, b, 26, n + 2, rfl, B2, by omega, by decide, by decide, fun bg H3 g0 g1 B3 k3 => ?_⟩
      obtain ⟨bg, rfl, hbg⟩ := draw_at (n := 26) g0 g1 rfl
      refine ⟨(by show 3 ≤ sizeLine; decide), fun p hp => ⟨p, _, rfl, .of upd_same, rfl, _, _, rfl, _, _, rfl, _, _, rfl, rfl, ?_⟩⟩
      have hm' : (m : Int) < 27 := of_decide_eq_true hm27
      exact ql way cut bg _ (by omega) (by omega) hbg (box_new B3 hp) (((k1.trans k2).trans k3).trans (But.new hp))
    · refine ⟨b, 7, n + 1, rfl, B1, by omega, by decide, by decide, fun cut H2 c0 c1 B2 k2 => ?_⟩
      obtain ⟨cut, rfl, hcut⟩ := draw_at (n := 7) c0 c1 rfl
      refine ⟨_, rfl, b, 26, n + 2, rfl, B2, by omega, by decide, by decide, fun bg H3 g0 g1 B3 k3 => ?_⟩
      obtain ⟨bg, rfl, hbg⟩ := draw_at (n := 26) g0 g1 rfl
      refine ⟨(by show 3 ≤ sizeLine; decide), fun p hp => ⟨p, _, rfl, .of upd_same, rfl, _, _, rfl, _, _, rfl, _, _, rfl, rfl, ?_⟩⟩
      exact ql way cut bg _ (by omega) (by omega) hbg (box_new B3 hp) (((k1.trans k2).trans k3).trans (But.new hp))
end
end G
set_option Elab.async false
set_option linter.all false
set_option maxRecDepth 100000
set_option maxHeartbeats 4000000
/-! RC1: records as pairs; checked_pairs. -/
namespace G
open PySem PySem.Spec PyProof.Rows L2 NdefX
theorem ne_if {A B : Prop} {x y : V} (e : x = y) (h : B) : if (!decide (x = y)) = true then A else B := by
  rw [decide_eq_true e]
  exact iteF h
theorem ifN {A B : Prop} {c : Bool} (e : c = false) (h : B) : if c = true then A else B := by
  rw [e]
  exact iteF h
theorem ifY {A B : Prop} {c : Bool} (e : c = true) (h : A) : if c = true then A else B := by
  rw [e]
  exact iteT h
/-- a key and its value -/
abbrev Pr : Type := Str × List (Key × V)
def PrAt (H : Hp) (t : Addr) (p : Pr) : Prop := ∃ d, H t = some (.tup [.str p.1, .ref d]) ∧ H d = some (.dK p.2)
def AllPr (H : Hp) : List Addr → List Pr → Prop
  | [], [] => True
  | t :: ts, p :: ps => PrAt H t p ∧ AllPr H ts ps
  | _, _ => False
/-- what is never changed here -/
def stillF : HO → Bool
  | .ins _ _ _ => true
  | .tup _ => true
  | .dK _ => true
  | _ => false
def SF (H H' : Hp) : Prop := ∀ p o, H p = some o → stillF o = true → H' p = some o
theorem SF.of_same {H H' : Hp} (s : Same H H') : SF H H' := fun p o e _ => s p o e
theorem SF.trans {H H1 H2 : Hp} (a : SF H H1) (b : SF H1 H2) : SF H H2 := fun p o e z => b p o (a p o e z) z
theorem SF.put {H : Hp} {l : Addr} {xs : List V} {u : HO} (e : H l = some (.lst xs)) : SF H (upd H l u) := fun p o ec hv => by
  refine (upd_ne fun z => ?_).trans ec
  rw [z, e] at ec
  rw [← Option.some.inj ec] at hv
  cases hv
theorem SF.of_but {H H' : Hp} {b : Addr} {n : Nat} (B : BoxAt H b n) (k : But b H H') : SF H H' := fun p o e z => k p o (fun q => by
  obtain ⟨_, _, _, eb, _⟩ := B
  rw [q, eb] at e
  rw [← Option.some.inj e] at z
  cases z) e
theorem PrAt.sf {H H' : Hp} (s : SF H H') {t : Addr} {p : Pr} : PrAt H t p → PrAt H' t p := fun ⟨d, e1, e2⟩ => ⟨d, s _ _ e1 rfl, s _ _ e2 rfl⟩
theorem AllPr.sf {H H' : Hp} (s : SF H H') : ∀ {ts : List Addr} {ps : List Pr}, AllPr H ts ps → AllPr H' ts ps
  | [], [], _ => trivial
  | _ :: _, _ :: _, h => ⟨h.1.sf s, AllPr.sf s h.2⟩
  | [], _ :: _, h => h.elim
  | _ :: _, [], h => h.elim
theorem AllPr.len {H : Hp} : ∀ {ts : List Addr} {ps : List Pr}, AllPr H ts ps → ts.length = ps.length
  | [], [], _ => rfl
  | _ :: ts, _ :: ps, h => by
    rw [List.length_cons, List.length_cons, AllPr.len h.2]
  | [], _ :: _, h => h.elim
  | _ :: _, [], h => h.elim
theorem AllPr.app {H : Hp} : ∀ {ts us : List Addr} {ps qs : List Pr}, AllPr H ts ps → AllPr H us qs → AllPr H (ts ++ us) (ps ++ qs)
  | [], _, [], _, _, h => h
  | _ :: _, _, _ :: _, _, h, h2 => ⟨h.1, AllPr.app h.2 h2⟩
  | [], _, _ :: _, _, h, _ => h.elim
  | _ :: _, _, [], _, h, _ => h.elim
theorem AllPr.get {H : Hp} : ∀ {ts : List Addr} {ps : List Pr} {i : Nat} {t : Addr}, AllPr H ts ps → ts[i]? = some t → ∃ p, ps[i]? = some p ∧ PrAt H t p
  | _ :: _, p :: _, 0, _, h, e => by
    cases e
    exact ⟨p, rfl, h.1⟩
  | _ :: ts, _ :: ps, i + 1, _, h, e => AllPr.get (ts := ts) (ps := ps) (i := i) h.2 e
  | [], [], _, _, _, e => by cases e
  | [], _ :: _, _, _, h, _ => h.elim
  | _ :: _, [], _, _, h, _ => h.elim
theorem AllPr.at {H : Hp} {ts : List Addr} {ps : List Pr} {i : Nat} {p : Pr} (h : AllPr H ts ps) (e : ps[i]? = some p) : ∃ t, ts[i]? = some t ∧ PrAt H t p := by
  have hi : i < ts.length := by
    rw [h.len]
    exact (List.getElem?_eq_some_iff.mp e).1
  obtain ⟨q, hq, hp⟩ := h.get (List.getElem?_eq_getElem hi)
  rw [e] at hq
  cases hq
  exact ⟨_, List.getElem?_eq_getElem hi, hp⟩
/-- what is new since H -/
def Nw (H H' : Hp) : Hp := fun c => match H c with
  | none => H' c
  | some _ => none
theorem Nw.at {H H' : Hp} {c : Addr} (h : H c = none) : Nw H H' c = H' c := by
  unfold Nw
  rw [h]
theorem Nw.no {H H' : Hp} {c : Addr} {o : HO} (h : H c = some o) : Nw H H' c = none := by
  unfold Nw
  rw [h]
theorem Nw.split {H H' : Hp} {c : Addr} {o : HO} (h : Nw H H' c = some o) : H c = none ∧ H' c = some o := by
  cases e : H c with
  | none =>
    rw [Nw.at e] at h
    exact ⟨rfl, h⟩
  | some u =>
    rw [Nw.no e] at h
    cases h
theorem Nw.sub {H H' : Hp} : Same (Nw H H') H' := fun _ _ h => (Nw.split h).2
theorem Nw.sf {H H1 H2 : Hp} (s : SF H1 H2) : SF (Nw H H1) (Nw H H2) := fun c o h z => by
  obtain ⟨e1, e2⟩ := Nw.split h
  rw [Nw.at e1]
  exact s c o e2 z
theorem Nw.same {H H1 H2 : Hp} (s : Same H1 H2) : Same (Nw H H1) (Nw H H2) := fun c o h => by
  obtain ⟨e1, e2⟩ := Nw.split h
  rw [Nw.at e1]
  exact s c o e2
theorem Nw.base {H0 H H' : Hp} (s : Same H0 H) : Same (Nw H H') (Nw H0 H') := fun c o h => by
  obtain ⟨e1, e2⟩ := Nw.split h
  rw [Nw.at (s.free e1)]
  exact e2
/-- a list of records as it must be -/
structure PsOk (ps : List Pr) : Prop where
  few : ps.length ≤ 40
  nd : (ps.map (·.1)).Nodup
  nm : ∀ p ∈ ps, NameZ p.1
  val : ∀ p ∈ ps, ∃ zs, ValOk zs p.2
  kd : ∀ p ∈ ps, (p.2.map (·.1)).Nodup
theorem str_beq (a b : Str) : (a == b) = decide (a = b) := by
  by_cases h : a = b
  · rw [decide_eq_true h, h]
    exact beq_self_eq_true _
  · rw [decide_eq_false h]
    exact Bool.eq_false_iff.mpr fun e => h (beq_iff_eq.mp e)
theorem inV_str (y : Str) : ∀ zs : List Str, inV (.str y) (zs.map V.str) = decide (y ∈ zs)
  | [] => rfl
  | z :: zs => by
    show ((z == y) || inV (.str y) (zs.map V.str)) = decide (y ∈ z :: zs)
    rw [inV_str y zs, str_beq]
    by_cases h : z = y
    · subst h
      rw [decide_eq_true rfl, decide_eq_true List.mem_cons_self]
      rfl
    · rw [decide_eq_false h, Bool.false_or]
      by_cases h2 : y ∈ zs
      · rw [decide_eq_true h2, decide_eq_true (List.mem_cons_of_mem _ h2)]
      · rw [decide_eq_false h2, decide_eq_false fun e => (List.mem_cons.mp e).elim (fun e => h e.symm) h2]
theorem flat_strs (zs : List Str) : (zs.map V.str).all flatV = true := List.all_eq_true.mpr fun x hx => by
  obtain ⟨z, _, rfl⟩ := List.mem_map.mp hx
  rfl
abbrev nmsOf (ps : List Pr) : List Str := ps.map (·.1)
abbrev sIsList : Stmt := topS 18
abbrev sChk : Stmt := topS 26
abbrev nChk : List Str := ["pairs", "taken", "names", "copies", "item", "key", "value"]
theorem scIsList : FnScope ["value", "most"] ["value", "most"] (defScope sIsList) := ⟨rfl, rfl, rfl, by decide +kernel, rfl, by decide +kernel, by decide +kernel⟩
theorem scChk : FnScope nChk ["pairs", "taken"] (defScope sChk) := ⟨rfl, rfl, rfl, by decide +kernel, rfl, by decide +kernel, by decide +kernel⟩
def spIsList (K : PySem.W.Frag) : Sp := fun vs H Q _ => ∃ (l : Addr) (n : Nat) (xs : List V), vs = [.ref l, .int (n : Nat)] ∧ (SqL K H l xs ∨ SqT K H l xs) ∧ xs.length ≤ n ∧ ∀ H', Same H H' → Q (.bl true) H'
theorem sqL_keep {K : PySem.W.Frag} {H H' : Hp} {l : Addr} {xs : List V} (s : Same H H') : SqL K H l xs → SqL K H' l xs
  | .inl (.inl h) => .inl (.inl (s _ _ h))
  | .inl (.inr ⟨o, h⟩) => .inl (.inr ⟨o, s _ _ h⟩)
  | .inr h => .inr h
theorem sqT_keep {K : PySem.W.Frag} {H H' : Hp} {l : Addr} {xs : List V} (s : Same H H') : SqT K H l xs → SqT K H' l xs
  | .inl (.inl h) => .inl (.inl (s _ _ h))
  | .inl (.inr ⟨o, h⟩) => .inl (.inr ⟨o, s _ _ h⟩)
  | .inr h => .inr h
/-- a list or a tuple -/
def SqLT (K : PySem.W.Frag) (H : Hp) (l : Addr) (xs : List V) : Prop := SqL K H l xs ∨ SqT K H l xs
theorem SqLT.keep {K : PySem.W.Frag} {H H' : Hp} {l : Addr} {xs : List V} (s : Same H H') : SqLT K H l xs → SqLT K H' l xs
  | .inl h => .inl (sqL_keep s h)
  | .inr h => .inr (sqT_keep s h)
/-- for x in a list or a tuple -/
def iLT (K : PySem.W.Frag) (tl : TE) : TI := fun σ H R => tl σ H fun x H1 => ∃ a, x = .ref a ∧ (((∃ xs, SqL K H1 a xs) ∧ R (Itl K a) H1) ∨ ((∃ xs, SqT K H1 a xs) ∧ R (Itt K a) H1))
theorem pi_lt {X : Cx} {tg l : Expr} {tl : TE} (hl : PE X l tl) : PI X tg l (iLT X.K tl) := by
  refine ⟨fun pins s σ H R I h => ?_⟩
  refine thn (hl.run pins s σ H _ I h) fun v s1 ⟨x, H1, I1, r1, a, e, k⟩ => ?_
  subst e
  obtain rfl : v = Value.ref a := r1
  have fp : ∀ b ∈ [s1.heap.objs.size], _ := fun b hb => by
    obtain rfl : b = s1.heap.objs.size := by simpa using hb
    exact I1.fpOk (Nat.le_refl _) (I1.hok.fresh (Nat.le_refl _))
  rcases k with ⟨⟨xs, hq⟩, q⟩ | ⟨⟨xs, hq⟩, q⟩
  · obtain ⟨its, rv, pl, _⟩ := I1.list hq
    refine wpAny_pyIter_list pl.isList ⟨s1.heap.objs.size, [s1.heap.objs.size], _, _, H1, rfl, ?_, turn_list a _, ?_, fp, q⟩
    · exact I1.kept (t' := s1.toks) fun b o e => Heap.get?_push_of_some _ e
    · exact ⟨_, Heap.get?_push_size _ rfl, rfl, rfl⟩
  · obtain ⟨its, rv, pl, _⟩ := I1.tuple hq
    refine wpAny_pyIter_tuple (show s1.heap.IsTuple a its.toArray from pl) ⟨s1.heap.objs.size, [s1.heap.objs.size], _, _, H1, rfl, ?_, turn_tuple a _, ?_, fp, q⟩
    · exact I1.kept (t' := s1.toks) fun b o e => Heap.get?_push_of_some _ e
    · exact ⟨_, Heap.get?_push_size _ rfl, rfl, rfl⟩
theorem for_lt {K : PySem.W.Frag} {a : Addr} {xs : List V} {g : TG} {tb : TS} {D : Ends} {σ : L2.St} {H H0 : Hp} (Pv : Nat → L2.St → Hp → Prop) (hq : SqLT K H0 a xs) (h0 : Pv 0 σ H) (hl : ∀ i σ' H', i ≤ xs.length → Pv i σ' H' → Same H0 H')
    (hs : ∀ i x σ H, xs[i]? = some x → Pv i σ H → g x σ H fun σ2 H2 => tb { D with nx := Pv (i + 1), ct := Pv (i + 1), bk := D.nx } σ2 H2) (hd : ∀ σ H, Pv xs.length σ H → D.nx σ H) :
    ((∃ xs, SqL K H a xs) ∧ ∃ W : Nat → Nat → L2.St → Hp → Prop, (∃ m, W 0 m σ H) ∧ ∀ i m σ H, W i m σ H →
      ((Itl K a).stop i H ∧ D.nx σ H) ∨ ((Itl K a).go i H ∧ ∃ N : L2.St → Hp → Prop, (∀ σ' H', N σ' H' → ∃ m', m' < m ∧ W (i + 1) m' σ' H') ∧ ∀ x H', (Itl K a).yld i H x H' → g x σ H' fun σ2 H2 => tb { D with nx := N, ct := N, bk := D.nx } σ2 H2)) ∨
    ((∃ xs, SqT K H a xs) ∧ ∃ W : Nat → Nat → L2.St → Hp → Prop, (∃ m, W 0 m σ H) ∧ ∀ i m σ H, W i m σ H →
      ((Itt K a).stop i H ∧ D.nx σ H) ∨ ((Itt K a).go i H ∧ ∃ N : L2.St → Hp → Prop, (∀ σ' H', N σ' H' → ∃ m', m' < m ∧ W (i + 1) m' σ' H') ∧ ∀ x H', (Itt K a).yld i H x H' → g x σ H' fun σ2 H2 => tb { D with nx := N, ct := N, bk := D.nx } σ2 H2)) := by
  rcases hq with hq | hq
  · exact .inl ⟨⟨xs, sqL_keep (hl 0 σ H (Nat.zero_le _) h0) hq⟩, for_list (xs := xs) Pv h0 (fun i σ' H' hi p => sqL_keep (hl i σ' H' hi p) hq) hs hd⟩
  · exact .inr ⟨⟨xs, sqT_keep (hl 0 σ H (Nat.zero_le _) h0) hq⟩, for_tup (xs := xs) Pv h0 (fun i σ' H' hi p => sqT_keep (hl i σ' H' hi p) hq) hs hd⟩
def spChk (K : PySem.W.Frag) : Sp := fun vs H Q _ => ∃ (l e : Addr) (ts : List Addr) (ps : List Pr) (zs : List Str), vs = [.ref l, .ref e] ∧ SqLT K H l (ts.map V.ref) ∧ AllPr H ts ps ∧ PsOk ps ∧ H e = some (.lst (zs.map V.str)) ∧ zs.length ≤ 40 ∧ (∀ p ∈ ps, p.1 ∉ zs) ∧
  ∀ (c : Addr) (us : List Addr) (H' : Hp), H c = none → Same H H' → H' c = some (.lst (us.map V.ref)) → AllPr (Nw H H') us ps → Q (.ref c) H'
section
variable {P : Program} {w : World} {K : PySem.W.Frag} {mg : Str → Option Value} {base : Heap}
theorem ok_islist {f : Addr} {fd : FuncData} (F : Fun K "is_list" "is_list" sIsList f fd) (mi : mg "isinstance" = none) (ml : mg "len" = none) (mL : mg "list" = none) (mt : mg "tuple" = none) : FnOk P w K mg base CX0 1 f fd ["value", "most"] (spIsList K) := by
  refine F.ok scIsList (fun vs H Q E h => ?_) (fun cdv A outer s H vs Q E hr h => ?_)
  · obtain ⟨l, n, xs, rfl, _⟩ := h
    rfl
  · obtain ⟨l, n, xs, rfl, hx, hl, q⟩ := h
    refine ⟨_, pss_one (ps_ret (pe_and (pe_isiLT (pv 0) (by rfl) mi (pa_cons (pe_bltn (v := .ty "list") (u := .type "list") (by rfl) mL (by decide +kernel) rfl) (pa_cons (pe_bltn (v := .ty "tuple") (u := .type "tuple") (by rfl) mt (by decide +kernel) rfl) pa_nil)))
      (pe_one (pe_cmpR op_le (pe_callB call_len_seq (by rfl) ml PySem.boot_len (pa_cons (pv 0) pa_nil)) (pv 1) (nomark _))))), ?_⟩
    refine ⟨_, rfl, ⟨l, xs, rfl, hx⟩, fun T hT => ⟨_, rfl, ifY rfl ?_⟩⟩
    have sT := Same.new (o := .tup [.ty "list", .ty "tuple"]) hT
    have hx2 : SqL K (upd H T (.tup [.ty "list", .ty "tuple"])) l xs ∨ SqT K (upd H T (.tup [.ty "list", .ty "tuple"])) l xs := by
      rcases hx with hx | hx
      · left
        rcases hx with (h | ⟨o, h⟩) | h
        · exact .inl (.inl (sT _ _ h))
        · exact .inl (.inr ⟨o, sT _ _ h⟩)
        · exact .inr h
      · right
        rcases hx with (h | ⟨o, h⟩) | h
        · exact .inl (.inl (sT _ _ h))
        · exact .inl (.inr ⟨o, sT _ _ h⟩)
        · exact .inr h
    refine ⟨_, rfl, l, xs, rfl, hx2, _, rfl, _, _, rfl, rfl, ?_⟩
    have e : decide (((xs.length : Nat) : Int) ≤ (n : Int)) = true := decide_eq_true (by omega)
    show Q (.bl (decide (((xs.length : Nat) : Int) ≤ (n : Int)))) _
    rw [e]
    exact q _ sT
theorem ok_chk {f fL fR : Addr} {fd fdL fdR : FuncData} {t1 : Tok} (F : Fun K "checked_pairs" "checked_pairs" sChk f fd) (GL : FnOk P w K mg base CX0 1 fL fdL ["value", "most"] (spIsList K)) (gL : mg "is_list" = some (.ref fL)) (kL : PySem.W.keepIn K (.ref fL) = true) (bL : Binds K fdL ["value", "most"] [])
    (GR : FnOk P w K mg base CX0 4 fR fdR ["key", "value"] spNeedRecord) (gR : mg "need_record" = some (.ref fR)) (kR : PySem.W.keepIn K (.ref fR) = true) (bR : Binds K fdR ["key", "value"] []) (gM : mg "MOST_RECORDS" = some (.int 40 t1))
    (mi : mg "isinstance" = none) (ml : mg "len" = none) (mL : mg "list" = none) (mt : mg "tuple" = none) (md : mg "dict" = none) : FnOk P w K mg base CX0 5 f fd ["pairs", "taken"] (spChk K) := by
  refine F.ok scChk (fun vs H Q E h => ?_) (fun cdv A outer s H vs Q E hr h => ?_)
  · obtain ⟨l, e, ts, ps, zs, rfl, _⟩ := h
    rfl
  · obtain ⟨l, e, ts, ps, ys, rfl, el, al, ok, ee, y40, hys, q⟩ := h
    have hr1 := hr.mono (show 1 ≤ 4 by decide)
    refine ⟨_, pss_cons (ps_if (pt_not (pt_val (pe_call GL hr1 rfl gL kL bL .nil pass0 (pa_cons (pv 0) (pa_cons (pe_glob (v := .int 40) rfl gM ⟨_, rfl⟩) pa_nil))))) (pss_one ps_never) pss_nil)
      (pss_cons (ps_set (i := 2) scChk.nd rfl (.inl rfl) (pe_callTy call_list_of (by rfl) mL (by decide +kernel) (pa_cons (pv 1) pa_nil)))
      (pss_cons (ps_set (i := 3) scChk.nd rfl (.inl rfl) (pe_lst pa_nil))
      (pss_cons (ps_for PassesOwn.never rfl (pi_lt (pv 0)) (pg_name (i := 4) scChk.nd rfl (.inl rfl))
        (pss_cons (ps_if (PW.pt (pw_or (pt_not (pt_val (pt_isi "tuple" (pv 4) (hm := mi) (mn := mt)))) (pw_or1 (pt_cmpR op_ne (pe_callB call_len_seq (by rfl) ml PySem.boot_len (pa_cons (pv 4) pa_nil)) pe_int (nomark _))))) (pss_one ps_never) pss_nil)
        (pss_cons (ps_asg (pv 4) (pg_tup (by rfl) (pgs_cons (pg_name (i := 5) scChk.nd rfl (.inl rfl)) (pgs_cons (pg_name (i := 6) scChk.nd rfl (.inl rfl)) pgs_nil))))
        (pss_cons (ps_expr (pe_call GR hr rfl gR kR bR .nil pass0 (pa_cons (pv 5) (pa_cons (pv 6) pa_nil))))
        (pss_cons (ps_if (pt_cmpR op_in_seq (pv 5) (pv 2) (by rfl)) (pss_one ps_never) pss_nil)
        (pss_cons (ps_expr (pe_bm PySem.F.plainAttrs_list PySem.F.slot_list_append PySem.F.type_list_append mt_append (pv 2) (pa_cons (pv 5) pa_nil)))
        (pss_one (ps_expr (pe_bm PySem.F.plainAttrs_list PySem.F.slot_list_append PySem.F.type_list_append mt_append (pv 3) (pa_cons (pe_tup (pa_cons (pv 5) (pa_cons (pe_callTy call_dictD (by rfl) md (by decide +kernel) (pa_cons (pv 6) pa_nil)) pa_nil))) pa_nil))))))))))
      (pss_one (ps_ret (pv 3)))))), ?_⟩
    have len : ts.length = ps.length := al.len
    have l40 := ok.few
    refine ⟨_, rfl, l, 40, _, rfl, el, (by rw [List.length_map]; omega), fun H1 s1 => ⟨_, rfl, iteF ?_⟩⟩
    refine ⟨_, rfl, e, _, rfl, .inl (.of (s1 _ _ ee)), fun nl hnl => ⟨Nat.zero_le _, fun cl hcl => ?_⟩⟩
    have s2 := s1.trans (Same.new (o := .lst (ys.map V.str)) hnl)
    have fn : H nl = none := s1.free hnl
    have fc : H cl = none := s2.free hcl
    have nnc : nl ≠ cl := fun z => by
      rw [← z, upd_same] at hcl
      cases hcl
    have s3 := s2.trans (Same.new (o := .lst []) hcl)
    have en : (upd (upd H1 nl (.lst (ys.map V.str))) cl (.lst [])) nl = some (.lst (ys.map V.str)) := (upd_ne nnc).trans upd_same
    have ec : (upd (upd H1 nl (.lst (ys.map V.str))) cl (.lst [])) cl = some (.lst []) := upd_same
    generalize upd (upd H1 nl (.lst (ys.map V.str))) cl (.lst []) = H2 at s3 en ec ⊢
    refine ⟨_, rfl, l, rfl, ?_⟩
    refine for_lt (xs := ts.map V.ref) (fun i σ H3 => ∃ (x4 x5 x6 : Option V) (us : List Addr), σ = [some (.ref l), some (.ref e), some (.ref nl), some (.ref cl), x4, x5, x6] ∧ Same H H3 ∧ H3 nl = some (.lst ((ys ++ nmsOf (ps.take i)).map V.str)) ∧ H3 cl = some (.lst (us.map V.ref)) ∧ AllPr (Nw H H3) us (ps.take i)) el ?_ ?_ ?_ ?_
    · exact ⟨none, none, none, [], rfl, s3, by rw [List.take_zero, show nmsOf ([] : List Pr) = [] from rfl, List.append_nil]; exact en, ec, trivial⟩
    · rintro i σ H3 _ ⟨x4, x5, x6, us, rfl, s4, _⟩
      exact s4
    · rintro i x σ H3 hx ⟨x4, x5, x6, us, rfl, s4, en3, ec3, al3⟩
      rw [List.getElem?_map] at hx
      obtain ⟨t, hti, rfl⟩ := Option.map_eq_some_iff.mp hx
      obtain ⟨p, hpi, hp⟩ := al.get hti
      have hpm := List.mem_of_getElem? hpi
      have hil : i < ps.length := (List.getElem?_eq_some_iff.mp hpi).1
      obtain ⟨d, et, ed⟩ := hp
      obtain ⟨zs, hv⟩ := ok.val p hpm
      refine ⟨_, rfl, _, _, _, _, _, rfl, .ty _, .base (.tup (s4 _ _ et)), kit_t (.tuple []), _, rfl, iteF ?_⟩
      refine ⟨_, rfl, t, _, rfl, .inr (.of (s4 _ _ et)), rfl, _, rfl, ne_if rfl ?_⟩
      refine ⟨_, rfl, t, _, rfl, .of (s4 _ _ et), rfl, _, _, rfl, _, _, rfl, rfl, ?_⟩
      refine ⟨_, rfl, _, rfl, p.1, d, zs, p.2, rfl, ok.nm p hpm, s4 _ _ ed, hv, fun H4 s5 => ?_⟩
      have hno : p.1 ∉ nmsOf (ps.take i) := fun hm => by
        obtain ⟨q', hq', eq'⟩ := List.mem_map.mp hm
        obtain ⟨j, hj⟩ := List.mem_iff_getElem?.mp hq'
        have hji : j < i := by
          have := (List.getElem?_eq_some_iff.mp hj).1
          rw [List.length_take] at this
          omega
        rw [List.getElem?_take_of_lt hji] at hj
        have hjl := (List.getElem?_eq_some_iff.mp hj).1
        have nd := ok.nd
        rw [List.nodup_iff_pairwise_ne, List.pairwise_iff_getElem] at nd
        have z := nd j i (by rw [List.length_map]; exact hjl) (by rw [List.length_map]; exact hil) hji
        rw [List.getElem_map, List.getElem_map, (List.getElem?_eq_some_iff.mp hj).2, (List.getElem?_eq_some_iff.mp hpi).2] at z
        exact z eq'
      have hno2 : p.1 ∉ ys ++ nmsOf (ps.take i) := fun z => (List.mem_append.mp z).elim (hys p hpm) hno
      have en4 := s5 _ _ en3
      have ec4 := s5 _ _ ec3
      have al4 := al3.sf (.of_same (Nw.same (H := H) s5))
      refine ⟨_, rfl, _, rfl, nl, _, rfl, .inl (.of en4), rfl, flat_strs _, _, rfl, ?_⟩
      rw [show (if false = true then !inV (V.str p.1) ((ys ++ nmsOf (ps.take i)).map V.str) else inV (V.str p.1) ((ys ++ nmsOf (ps.take i)).map V.str)) = false from (inV_str _ _).trans (decide_eq_false hno2)]
      refine iteF ?_
      refine ⟨_, rfl, .inl ⟨rfl, _, .of en4⟩, _, rfl, nl, _, _, rfl, rfl, en4, ?_, ?_⟩
      · rw [List.length_map, List.length_append, List.length_map, List.length_take]
        exact small1000 (by omega)
      have sf1 : SF H4 (upd H4 nl (.lst ((ys ++ nmsOf (ps.take i)).map V.str ++ [V.str p.1]))) := .put en4
      have ec5 : (upd H4 nl (.lst ((ys ++ nmsOf (ps.take i)).map V.str ++ [V.str p.1]))) cl = some (.lst (us.map V.ref)) := (upd_ne nnc.symm).trans ec4
      have en5 : (upd H4 nl (.lst ((ys ++ nmsOf (ps.take i)).map V.str ++ [V.str p.1]))) nl = some (.lst ((ys ++ nmsOf (ps.take (i + 1))).map V.str)) := by
        rw [upd_same, List.take_add_one, hpi]
        simp [nmsOf]
      have s6 : Same H (upd H4 nl (.lst ((ys ++ nmsOf (ps.take i)).map V.str ++ [V.str p.1]))) := fun c o eo => (upd_ne (ne_of_none eo fn)).trans (s5 _ _ (s4 _ _ eo))
      have al5 := al4.sf (Nw.sf (H := H) sf1)
      generalize upd H4 nl (.lst ((ys ++ nmsOf (ps.take i)).map V.str ++ [V.str p.1])) = H5 at ec5 en5 s6 al5 ⊢
      refine ⟨_, rfl, .inl ⟨rfl, _, .of ec5⟩, _, rfl, _, rfl, d, p.2, rfl, .inl (s6 _ _ ed), fun dn hdn => ⟨(by show 2 ≤ sizeLine; decide), fun tn htn => ?_⟩⟩
      have s7 := (Same.new (o := .dK p.2) hdn).trans (Same.new (o := .tup [.str p.1, .ref dn]) htn)
      have ec7 := s7 _ _ ec5
      refine ⟨cl, _, _, rfl, rfl, ec7, ?_, ?_⟩
      · rw [List.length_map, al5.len, List.length_take]
        exact small1000 (by omega)
      · refine ⟨_, _, _, us ++ [tn], rfl, fun c o eo => (upd_ne (ne_of_none eo fc)).trans (s7 _ _ (s6 _ _ eo)), (upd_ne nnc).trans (s7 _ _ en5), ?_, ?_⟩
        · rw [upd_same, List.map_append]
          rfl
        · have fd' : H dn = none := s6.free hdn
          have ft : H tn = none := (s6.trans (Same.new hdn)).free htn
          have one : AllPr (Nw H (upd (upd H5 dn (.dK p.2)) tn (.tup [.str p.1, .ref dn]))) [tn] [p] := ⟨⟨dn, (Nw.at ft).trans upd_same, (Nw.at fd').trans (Same.new htn _ _ upd_same)⟩, trivial⟩
          have all := (al5.sf (.of_same (Nw.same (H := H) s7))).app one
          have e9 : ps.take (i + 1) = ps.take i ++ [p] := by
            rw [List.take_add_one, hpi]
            rfl
          rw [e9]
          exact all.sf (Nw.sf (.put ec7))
    · rintro σ H3 ⟨x4, x5, x6, us, rfl, s4, en3, ec3, al3⟩
      rw [List.length_map, len, List.take_length] at al3
      exact ⟨_, rfl, q cl us H3 fc s4 ec3 al3⟩
end
end G
set_option Elab.async false
set_option linter.all false
set_option maxRecDepth 100000
set_option maxHeartbeats 2000000
/-! O4: dicts of ints compared; a list compared with an empty one; things in a drawn order. -/
namespace G
open PySem PySem.Spec PyProof.Rows L2
def dEq (ks ls : List (Key × V)) : Bool := ks.length == ls.length && ks.all fun p => decide (valV ls p.1 = some p.2)
def AllInt (ks : List (Key × V)) : Prop := ∀ p ∈ ks, ∃ i, p.2 = V.int i
theorem int_valV {ls : List (Key × V)} (h : AllInt ls) {k : Key} {v : V} (e : valV ls k = some v) : ∃ i, v = V.int i := by
  have h2 : Option.map (fun p : Key × V => p.2) (ls.find? fun kv => decide (kv.1 = k)) = some v := e
  obtain ⟨p, hp, rfl⟩ := Option.map_eq_some_iff.mp h2
  exact h p (List.mem_of_find?_eq_some hp)
theorem hits_int {A : Around} {s : Shared} {ls : List (Key × V)} {vb : List (Key × Value)} (rb : KV ls vb) (hl : AllInt ls) {ks : List (Key × V)} {va : List (Key × Value)} (ra : KV ks va) :
    AllInt ks → PySem.W.KeqHits A s vb va (ks.all fun p => decide (valV ls p.1 = some p.2)) := by
  unfold KV at ra
  induction ra with
  | nil => intro _; exact .nil
  | @cons p q ps qs h t ih =>
    intro hp
    obtain ⟨h1, h2⟩ := h
    obtain ⟨i, ei⟩ := hp p List.mem_cons_self
    have ih' := ih fun p' hm => hp p' (List.mem_cons_of_mem _ hm)
    obtain ⟨k, v⟩ := q
    have h1' : p.1 = k := h1
    subst h1'
    rw [ei] at h2
    obtain ⟨t1, rfl⟩ := (show ∃ t, v = Value.int i t from h2)
    rw [List.all_cons]
    cases e : valV ls p.1 with
    | none =>
      have rr : RelO none (valueAt vb p.1) := by rw [← e]; exact rb.val p.1
      have hn : valueAt vb p.1 = none := by
        cases z : valueAt vb p.1 with
        | none => rfl
        | some y =>
          rw [z] at rr
          exact rr.elim
      rw [decide_eq_false (show ¬ (none = some p.2) from fun z => nomatch z), Bool.false_and]
      exact .miss hn
    | some x =>
      obtain ⟨j, rfl⟩ := int_valV hl e
      have rr : RelO (some (.int j)) (valueAt vb p.1) := by rw [← e]; exact rb.val p.1
      obtain ⟨y, hy, ry⟩ := rr.some_of
      obtain ⟨t2, rfl⟩ := (show ∃ t, y = Value.int j t from ry)
      rw [ei]
      have q := SeqAt.EqAt.int_int (A := A) (s := s) i t1 j t2
      have e2 : decide (some (V.int j) = some (V.int i)) = (i == j) := by
        by_cases z : i = j
        · rw [z, decide_eq_true rfl]
          exact (beq_self_eq_true _).symm
        · rw [decide_eq_false fun h => z (V.int.inj (Option.some.inj h)).symm]
          exact (Bool.eq_false_iff.mpr fun h => z (beq_iff_eq.mp h)).symm
      rw [e2]
      exact .hit hy q ih'
section
variable {X : Cx}
def rNeDI : R2 := fun x y H Q => ∃ a b ks ls, x = .ref a ∧ y = .ref b ∧ H a = some (.dK ks) ∧ H b = some (.dK ls) ∧ AllInt ks ∧ AllInt ls ∧ Q (.bl (!dEq ks ls)) H
theorem op_neDI (hu : X.A.units < cLine) : OpR X (compareOp .NotEq) rNeDI := by
  intro pins s σ H x y v u Q I rx ry h
  obtain ⟨a, b, ks, ls, rfl, rfl, ea, eb, ik, il, q⟩ := h
  obtain rfl : v = Value.ref a := rx
  obtain rfl : u = Value.ref b := ry
  obtain ⟨_, ya, va, ra, da⟩ := (show ObjOk X.prog X.w H s.heap a (.dK ks) from I.hok a _ ea)
  obtain ⟨_, yb, vb, rb, db⟩ := (show ObjOk X.prog X.w H s.heap b (.dK ls) from I.hok b _ eb)
  have e : dEq ks ls = (va.length == vb.length && ks.all fun p => decide (valV ls p.1 = some p.2)) := by
    rw [← ra.length, ← rb.length]
    rfl
  exact PySem.W.keq_ne (knd := mixKind X.prog X.w) ya yb da db hu (fun _ => hits_int rb il ra ik) (fin_bl I q (by rw [e]))
def rNeNil (K : PySem.W.Frag) : R2 := fun x y H Q => ∃ a b xs, x = .ref a ∧ y = .ref b ∧ SqL K H a xs ∧ SqL K H b [] ∧ Q (.bl (!xs.isEmpty)) H
theorem op_neNil (hu : X.A.units < cLine) : OpR X (compareOp .NotEq) (rNeNil X.K) := by
  intro pins s σ H x y v u Q I rx ry h
  obtain ⟨a, b, xs, rfl, rfl, ha, hb, q⟩ := h
  cases (show v = Value.ref a from rx)
  cases (show u = Value.ref b from ry)
  obtain ⟨us, r1, p1, _⟩ := I.list ha
  obtain ⟨ws, r2, p2, _⟩ := I.list hb
  cases r2
  cases xs with
  | nil =>
    cases r1
    refine SeqAt.RcNeAt.lists (e := fun _ => true) p1.isList p2.isList rfl hu (fun j h1 h2 => absurd h1 (Nat.not_lt_zero j)) X.prog X.w _ _ ?_
    exact ⟨.bl false, H, I, rfl, q⟩
  | cons x xs =>
    refine SeqAt.RcNeAt.lists_lengths p1.isList p2.isList ?_ hu X.prog X.w _ _ ?_
    · have := r1.length
      rw [List.length_cons] at this
      rw [List.size_toArray, List.size_toArray, ← this]
      rfl
    · exact ⟨.bl true, H, I, rfl, q⟩
end
/-- things in a drawn order -/
def spMixR (K : PySem.W.Frag) : Sp := fun vs H Q _ => ∃ (b a : Addr) (n : Nat) (xs : List V), vs = [.ref b, .ref a] ∧ BoxAt H b n ∧ n + xs.length ≤ 100000 ∧ SqL K H a xs ∧
  ∀ (p : Addr) (H' : Hp) (ys : List V), ys.Perm xs → H p = none → H' p = some (.lst ys) → BoxAt H' b (n + xs.length) → But b H H' → Q (.ref p) H'
section
variable {P : Program} {w : World} {K : PySem.W.Frag} {mg : Str → Option Value} {base : Heap}
theorem ok_mixR {f fT : Addr} {fd fdT : FuncData} (F : Fun K "_law_mixed" "_law_mixed" sMixed f fd) (T : Fun K "_law_take" "_law_take" sTake fT fdT) (bT : Binds K fdT ["_law_box_here", "_law_many"] []) (gT : mg "_law_take" = some (.ref fT))
    (ml : mg "len" = none) (mL : mg "list" = none) : FnOk P w K mg base CX0 2 f fd ["_law_box_here", "_law_some"] (spMixR K) := by
  refine F.ok scMixed (fun vs H Q E h => ?_) (fun cdv A outer s H vs Q E hr h => ?_)
  · obtain ⟨b, a, n, ps, rfl, _⟩ := h
    rfl
  · obtain ⟨b, a, n, ps, rfl, B, hn, hS, q⟩ := h
    have big : ∀ {k : Nat}, k ≤ 100000 → k < sizeLine := fun {k} h => by
      rw [sizeLine_eq]
      omega
    refine ⟨_, pss_cons (ps_par (i := 2) (j := 3) (by rfl) scMixed.nd rfl rfl (by decide) rfl rfl (pa_cons (pe_callTy call_list_of (by rfl) mL (by decide +kernel) (pa_cons (pv 1) pa_nil)) (pa_cons (pe_lst pa_nil) pa_nil)) (by rfl))
      (pss_cons (ps_while PassesOwn.never (pt_cmpR (op_neNil (Nat.lt_of_succ_lt (hu_of hr))) (pv 2) (pe_lst pa_nil) (nomark _))
        (pss_one (ps_expr (pe_bm PySem.F.plainAttrs_list PySem.F.slot_list_append PySem.F.type_list_append mt_append (pv 3) (pa_cons
          (pe_bm PySem.F.plainAttrs_list PySem.F.slot_list_pop PySem.F.type_list_pop mt_popAt (pv 2)
            (pa_cons (pe_call (ok_take T) hr rfl gT T.kp bT .nil pass0 (pa_cons (pv 0) (pa_cons (pe_callB call_len_seq (by rfl) ml PySem.boot_len (pa_cons (pv 2) pa_nil)) pa_nil))) pa_nil)) pa_nil)))))
      (pss_one (ps_ret (pv 3)))), ?_⟩
    refine ⟨_, rfl, a, _, rfl, .inl hS, fun l hl => ⟨by decide, fun p hp0 => ⟨_, _, rfl, ?_⟩⟩⟩
    have nlp : l ≠ p := fun z => by
      rw [z, upd_same] at hp0
      cases hp0
    have hpn : H p = none := (upd_ne nlp.symm).symm.trans hp0
    have nbl : b ≠ l := by
      obtain ⟨_, _, _, e, _⟩ := B
      exact ne_of_none e hl
    have nbp : b ≠ p := by
      obtain ⟨_, _, _, e, _⟩ := B
      exact ne_of_none e hpn
    refine ⟨fun m σ H1 => ∃ qs rs : List V, m = qs.length ∧ σ = [some (.ref b), some (.ref a), some (.ref l), some (.ref p)] ∧ H1 l = some (.lst qs) ∧ H1 p = some (.lst rs) ∧
        (rs ++ qs).Perm ps ∧ BoxAt H1 b (n + rs.length) ∧ But b H H1, ⟨ps.length, ps, [], rfl, rfl, ?_, upd_same, .refl _, ?_, ?_⟩, ?_⟩
    · rw [upd_ne nlp, upd_same]
    · exact (B.keep fun o e => by rw [upd_ne nbp, upd_ne nbl]; exact e).mono (Nat.le_add_right _ _)
    · exact (But.new hl).trans (But.new hp0)
    · rintro m σ H1 ⟨qs, rs, rfl, rfl, el, ep, pm, B1, s1⟩
      have hlen : rs.length + qs.length = ps.length := by
        rw [← List.length_append]
        exact pm.length_eq
      refine ⟨_, rfl, by decide, fun t ht => ?_⟩
      have nlt : l ≠ t := ne_of_none el ht
      have s2 : But b H (upd H1 t (.lst [])) := s1.trans (But.new ht)
      refine ⟨l, t, qs, rfl, rfl, .of ((upd_ne nlt).trans el), .of upd_same, _, rfl, ?_⟩
      · cases qs with
        | nil =>
          refine iteF ?_
          refine ⟨_, rfl, ?_⟩
          rw [List.append_nil] at pm
          refine q p _ rs pm hpn ?_ ?_ s2
          · rw [upd_ne (ne_of_none ep ht)]
            exact ep
          · have e : rs.length = ps.length := pm.length_eq
            rw [← e]
            exact B1.keep fun o e => by rw [upd_ne (ne_of_none e ht)]; exact e
        | cons y ys =>
          refine iteT ?_
          have hlen' : rs.length + (ys.length + 1) = ps.length := hlen
          refine ⟨fun σ' H' => ∃ m', m' < (y :: ys).length ∧ ∃ qs rs : List V, m' = qs.length ∧ σ' = [some (.ref b), some (.ref a), some (.ref l), some (.ref p)] ∧ H' l = some (.lst qs) ∧ H' p = some (.lst rs) ∧
            (rs ++ qs).Perm ps ∧ BoxAt H' b (n + rs.length) ∧ But b H H', fun _ _ h => h, ?_⟩
          have ep2 : upd H1 t (.lst []) p = some (.lst rs) := by
            rw [upd_ne (ne_of_none ep ht)]
            exact ep
          have el2 : upd H1 t (.lst []) l = some (.lst (y :: ys)) := by
            rw [upd_ne nlt]
            exact el
          have B2 : BoxAt (upd H1 t (.lst [])) b (n + rs.length) := B1.keep fun o e => by rw [upd_ne (ne_of_none e ht)]; exact e
          refine ⟨_, rfl, .inl ⟨rfl, _, .of ep2⟩, _, rfl, .inl ⟨rfl, _, .of el2⟩, _, rfl, _, rfl, l, _, rfl, .inl (.of el2), b, _, n + rs.length, rfl, B2, by omega, ?_, ?_, fun r H3 r0 r1 B3 s3 => ?_⟩
          · show (0 : Int) < ((ys.length + 1 : Nat) : Int)
            omega
          · show ((ys.length + 1 : Nat) : Int) < _
            have : ys.length + 1 ≤ 100000 := by omega
            omega
          · obtain ⟨j, rfl, hj⟩ := draw_at r0 r1 (n := (y :: ys).length) rfl
            have el3 : H3 l = some (.lst (y :: ys)) := s3 _ _ nbl.symm el2
            have ep3 : H3 p = some (.lst rs) := s3 _ _ nbp.symm ep2
            have hj5 : j < 100000 := by
              have e : (y :: ys).length = ys.length + 1 := rfl
              omega
            refine ⟨l, _, (j : Int), j, (y :: ys)[j], rfl, rfl, el3, by omega, by omega, ?_, ?_, ?_⟩
            · have := PySem.seqIndex_of (k := (j : Int)) (n := (y :: ys).length) (by omega) (by omega)
              rw [this]
              rfl
            · exact List.getElem?_eq_getElem hj
            · refine ⟨p, _, _, rfl, rfl, by rw [upd_ne nlp.symm]; exact ep3, ?_, ?_⟩
              · exact big (by omega)
              · refine ⟨((y :: ys).eraseIdx j).length, ?_, (y :: ys).eraseIdx j, rs ++ [(y :: ys)[j]], rfl, rfl, ?_, ?_, ?_, ?_, ?_⟩
                · rw [List.length_eraseIdx, if_pos hj]
                  show (ys.length + 1) - 1 < ys.length + 1
                  omega
                · rw [upd_ne nlp, upd_same]
                · rw [upd_same]
                · rw [List.append_assoc]
                  refine List.Perm.trans (List.Perm.append_left rs ?_) pm
                  exact erase_perm hj
                · rw [List.length_append, List.length_singleton]
                  exact B3.keep fun o e => by rw [upd_ne nbp, upd_ne nbl]; exact e
                · intro c o nc e
                  have e3 := (s2.trans s3) c o nc e
                  rw [upd_ne (ne_of_none e hpn), upd_ne (ne_of_none e hl)]
                  exact e3
end
end G
set_option Elab.async false
set_option linter.all false
set_option maxRecDepth 100000
set_option maxHeartbeats 4000000
/-! RC2: Records: made, asked. -/
namespace G
open PySem PySem.Spec PyProof.Rows L2 NdefX
abbrev sRc (j : Nat) : Stmt := inClass (topS 25) j
abbrev nRcI : List Str := ["self", "pairs", "key", "value"]
abbrev nRcP : List Str := ["self", "key", "value"]
theorem scRcI : FnScope nRcI ["self", "pairs"] (defScope (sRc 0)) := ⟨rfl, rfl, rfl, by decide +kernel, rfl, by decide +kernel, by decide +kernel⟩
theorem scRcP : FnScope nRcP ["self"] (defScope (sRc 2)) := ⟨rfl, rfl, rfl, by decide +kernel, rfl, by decide +kernel, by decide +kernel⟩
theorem scRcL : FnScope ["self", "key"] ["self", "key"] (defScope (sRc 3)) := ⟨rfl, rfl, rfl, by decide +kernel, rfl, by decide +kernel, by decide +kernel⟩
theorem scRcG : FnScope ["self", "key", "at"] ["self", "key"] (defScope (sRc 4)) := ⟨rfl, rfl, rfl, by decide +kernel, rfl, by decide +kernel, by decide +kernel⟩
theorem scRcC : FnScope ["self", "item"] ["self", "item"] (defScope (sRc 6)) := ⟨rfl, rfl, rfl, by decide +kernel, rfl, by decide +kernel, by decide +kernel⟩
theorem scRcT : FnScope ["self"] ["self"] (defScope (sRc 7)) := ⟨rfl, rfl, rfl, by decide +kernel, rfl, by decide +kernel, by decide +kernel⟩
/-- what is asked of the class -/
structure RcC (K : PySem.W.Frag) (C : Addr) : Prop where
  cl : Cls K C
  n1 : NoAttr K C "own_pairs"
  n2 : NoAttr K C "own_names"
/-- at a stands Records(ps) -/
def RecAt (C : Addr) (H : Hp) (a : Addr) (ps : List Pr) : Prop := ∃ (dx l n : Addr) (ts : List Addr), H a = some (.ins C dx [("own_pairs", .ref l), ("own_names", .ref n)]) ∧ H l = some (.lst (ts.map V.ref)) ∧ AllPr H ts ps ∧ H n = some (.lst ((nmsOf ps).map V.str))
theorem RecAt.same {C a : Addr} {H H' : Hp} {ps : List Pr} (h : RecAt C H a ps) (s : Same H H') : RecAt C H' a ps := let ⟨dx, l, n, ts, e1, e2, e3, e4⟩ := h; ⟨dx, l, n, ts, s _ _ e1, s _ _ e2, e3.sf (.of_same s), s _ _ e4⟩
theorem RecAt.box {C a b : Addr} {H H' : Hp} {ps : List Pr} {m : Nat} (h : RecAt C H a ps) (B : BoxAt H b m) (k : But b H H') : RecAt C H' a ps := by
  obtain ⟨dx, l, n, ts, e1, e2, e3, e4⟩ := h
  have nb : ∀ (c : Addr) (xs : List V), H c = some (.lst xs) → (∀ i r, xs = V.int i :: r → False) → c ≠ b := fun c xs e z q => by
    obtain ⟨x, y, t, eb, _⟩ := B
    rw [q, eb] at e
    exact z _ _ (HO.lst.inj (Option.some.inj e)).symm
  refine ⟨dx, l, n, ts, SF.of_but B k _ _ e1 rfl, k _ _ (nb l _ e2 ?_) e2, e3.sf (.of_but B k), k _ _ (nb n _ e4 ?_) e4⟩
  · intro i r z
    cases ts <;> cases z
  · intro i r z
    cases ps <;> cases z
theorem RecAt.of_nw {C a : Addr} {H H' : Hp} {ps : List Pr} (h : RecAt C (Nw H H') a ps) : RecAt C H' a ps := h.same Nw.sub
theorem Nw.old {H H' : Hp} {a : Addr} {o u : HO} (h : H a = some o) : Nw H (upd H' a u) = Nw H H' := by
  funext c
  cases e : H c with
  | none =>
    rw [Nw.at e, Nw.at e]
    exact upd_ne fun z => by
      rw [z, h] at e
      cases e
  | some x => rw [Nw.no e, Nw.no e]
def spRcI (K : PySem.W.Frag) (C : Addr) : Sp := fun vs H Q _ => ∃ (a dx p : Addr) (ts : List Addr) (ps : List Pr), vs = [.ref a, .ref p] ∧ H a = some (.ins C dx []) ∧ SqLT K H p (ts.map V.ref) ∧ AllPr H ts ps ∧ PsOk ps ∧
  ∀ (H' : Hp) (l n : Addr) (us : List Addr), But a H H' → H' a = some (.ins C dx [("own_pairs", .ref l), ("own_names", .ref n)]) → Nw H H' l = some (.lst (us.map V.ref)) → AllPr (Nw H H') us ps → Nw H H' n = some (.lst ((nmsOf ps).map V.str)) → Q .non H'
def spRcP (C : Addr) : Sp := fun vs H Q _ => ∃ (a : Addr) (ps : List Pr), vs = [.ref a] ∧ RecAt C H a ps ∧ PsOk ps ∧
  ∀ (p : Addr) (ts : List Addr) (H' : Hp), H p = none → Same H H' → H' p = some (.lst (ts.map V.ref)) → AllPr (Nw H H') ts ps → Q (.ref p) H'
def spRcL (C : Addr) : Sp := fun vs H Q _ => ∃ (a : Addr) (ps : List Pr) (i : Nat) (p : Pr), vs = [.ref a, .str p.1] ∧ RecAt C H a ps ∧ PsOk ps ∧ ps[i]? = some p ∧ Q (.int (i : Nat)) H
def spRcG (C : Addr) : Sp := fun vs H Q _ => ∃ (a : Addr) (ps : List Pr) (i : Nat) (p : Pr), vs = [.ref a, .str p.1] ∧ RecAt C H a ps ∧ PsOk ps ∧ ps[i]? = some p ∧ ∀ d, H d = none → Q (.ref d) (upd H d (.dK p.2))
def spRcC (C : Addr) : Sp := fun vs H Q _ => ∃ (a : Addr) (ps : List Pr) (z : Str), vs = [.ref a, .str z] ∧ RecAt C H a ps ∧ Q (.bl (decide (z ∈ nmsOf ps))) H
theorem PsOk.at_uniq {ps : List Pr} (ok : PsOk ps) {i j : Nat} {p q : Pr} (hi : ps[i]? = some p) (hj : ps[j]? = some q) (e : q.1 = p.1) : j = i := by
  have li := (List.getElem?_eq_some_iff.mp hi).1
  have lj := (List.getElem?_eq_some_iff.mp hj).1
  have nd := ok.nd
  rw [List.nodup_iff_pairwise_ne, List.pairwise_iff_getElem] at nd
  rcases Nat.lt_trichotomy j i with h | h | h
  · have z := nd j i (by rw [List.length_map]; exact lj) (by rw [List.length_map]; exact li) h
    rw [List.getElem_map, List.getElem_map, (List.getElem?_eq_some_iff.mp hj).2, (List.getElem?_eq_some_iff.mp hi).2] at z
    exact (z e).elim
  · exact h
  · have z := nd i j (by rw [List.length_map]; exact li) (by rw [List.length_map]; exact lj) h
    rw [List.getElem_map, List.getElem_map, (List.getElem?_eq_some_iff.mp hj).2, (List.getElem?_eq_some_iff.mp hi).2] at z
    exact (z e.symm).elim
theorem free_but {a p : Addr} {H H' : Hp} (k : But a H H') (n : p ≠ a) (h : H' p = none) : H p = none := by
  cases e : H p with
  | none => rfl
  | some o =>
    rw [k p o n e] at h
    cases h
section
variable {P : Program} {w : World} {K : PySem.W.Frag} {mg : Str → Option Value} {base : Heap} {f C : Addr} {fd : FuncData}
theorem fund_ok {x qual : Str} {st : Stmt} {N ps : List Str} {k : Nat} {sp : Sp} {dvs : List V} {kws : List (Str × V)} (F : FunD K x qual (defArgs st) (defBody st) (defScope st) dvs kws f fd) (S : FnScope N ps (defScope st)) (len : ∀ vs H Q E, sp vs H Q E → vs.length = ps.length)
    (hbody : ∀ (cdv : Value) (A : Around) (outer : List Env) (s : Shared) (H : Hp) (vs : List V) (Q : VK) (E : XK), Room k (A.deeper (envOfC qual (defScope st) s.heap.objs.size f cdv)) → sp vs H Q E →
      ∃ t, PSs (cxOf CX0 P w K mg base N qual (defScope st) f cdv A outer s H E).nox (defBody st) t ∧ t { nx := fun _ H' => Q .non H', rt := Q } (start N vs) H) : FnOk P w K mg base CX0 (k + 1) f fd ps sp :=
  F.ok S len fun cdv A outer s H vs Q E hr hsp => let ⟨t, h, q⟩ := hbody cdv A outer s H vs Q E hr hsp; ⟨t, h.nox, q⟩
theorem ok_rcinit {fK : Addr} {fdK : FuncData} {dvs : List V} (F : FunD K "__init__" "Records.__init__" (defArgs (sRc 0)) (defBody (sRc 0)) (defScope (sRc 0)) dvs [] f fd) (c : RcC K C) (GK : FnOk P w K mg base CX0 5 fK fdK ["pairs", "taken"] (spChk K)) (gK : mg "checked_pairs" = some (.ref fK)) (kK : PySem.W.keepIn K (.ref fK) = true) (bK : Binds K fdK ["pairs", "taken"] []) :
    FnOk P w K mg base CX0 6 f fd ["self", "pairs"] (spRcI K C) := by
  refine fund_ok F scRcI (fun vs H Q E h => ?_) (fun cdv A outer s H vs Q E hr h => ?_)
  · obtain ⟨a, dx, p, ts, ps, rfl, _⟩ := h
    rfl
  · obtain ⟨a, dx, p, ts, ps, rfl, ha, hp, al, ok, q⟩ := h
    refine ⟨_, pss_cons (ps_fld (pv 0) (pe_call GK hr rfl gK kK bK .nil pass0 (pa_cons (pv 1) (pa_cons (pe_lst pa_nil) pa_nil))) rfl)
      (pss_one (ps_fld (pv 0) (pe_lc (own := [("key", 2), ("value", 3)]) (g := gTup K 2 (gCons (gName 2) (gCons (gName 3) gNil))) (tt := tYes) (by rfl) scRcI.nd (pi_list (pe_fld (pv 0) rfl))
        (blkOk_by (own := [("key", 2), ("value", 3)]) (N := nRcI) (sc := defScope (sRc 0)) (by decide +kernel)) (fun _ _ _ _ _ => pg_tup (by rfl) (pgs_cons (pg_name (i := 2) scRcI.nd rfl (.inl rfl)) (pgs_cons (pg_name (i := 3) scRcI.nd rfl (.inl rfl)) pgs_nil))) (fun _ _ _ _ _ => pts_nil)
        (fun _ _ _ _ _ => pv 2)) rfl)), ?_⟩
    refine ⟨_, rfl, by decide, fun e he => ?_⟩
    have s1 := Same.new (o := .lst []) he
    refine ⟨p, e, ts, ps, [], rfl, hp.keep s1, al.sf (.of_same s1), ok, upd_same, by decide, (fun _ _ h => nomatch h), fun cl us H1 hcl s2 ecl al1 => ?_⟩
    have s12 := s1.trans s2
    have fcl : H cl = none := s1.free hcl
    have nac := ne_of_none ha fcl
    have ea1 := s12 _ _ ha
    have al2 : AllPr (Nw H H1) us ps := al1.sf (.of_same (Nw.base s1))
    refine ⟨_, rfl, a, C, dx, _, rfl, ea1, c.cl, c.n1, (by show 0 < 1000; decide), ?_⟩
    have ea2 : (upd H1 a (.ins C dx [("own_pairs", .ref cl)])) a = some (.ins C dx [("own_pairs", .ref cl)]) := upd_same
    have ecl2 : (upd H1 a (.ins C dx [("own_pairs", .ref cl)])) cl = some (.lst (us.map V.ref)) := (upd_ne nac.symm).trans ecl
    have kk : But a H (upd H1 a (.ins C dx [("own_pairs", .ref cl)])) := (But.same s12).trans But.upd
    have al3 : AllPr (Nw H (upd H1 a (.ins C dx [("own_pairs", .ref cl)]))) us ps := by
      rw [Nw.old ha]
      exact al2
    rw [show putF (Str.ofString "own_pairs") (V.ref cl) [] = ([(Str.ofString "own_pairs", V.ref cl)] : List (Str × V)) from rfl]
    generalize upd H1 a (.ins C dx [("own_pairs", .ref cl)]) = H2 at ea2 ecl2 al3 kk ⊢
    have al4 := al3.sf (.of_same Nw.sub)
    refine ⟨_, rfl, a, C, dx, _, _, rfl, ea2, c.cl, c.n1, rfl, cl, rfl, ⟨_, .of ecl2⟩, fun D hD => ?_⟩
    have l40 := ok.few
    refine lc_list (xs := us.map V.ref) (fun i H3 => Same H2 H3 ∧ H3 D = some (.lst ((nmsOf (ps.take i)).map V.str))) ?_ ?_ ?_ ?_
    · exact ⟨Same.new hD, upd_same⟩
    · exact fun _ _ _ h => .of (h.1 _ _ ecl2)
    · rintro i x H3 hx ⟨s3, e3⟩
      rw [List.getElem?_map] at hx
      obtain ⟨t, hti, rfl⟩ := Option.map_eq_some_iff.mp hx
      obtain ⟨pr, hpi, d, et, ed⟩ := al4.get hti
      have hil : i < ps.length := (List.getElem?_eq_some_iff.mp hpi).1
      refine ⟨t, _, rfl, .of (s3 _ _ et), rfl, _, _, rfl, _, _, rfl, rfl, rfl, ?_⟩
      unfold tYes
      dsimp only
      rw [if_pos rfl]
      refine ⟨_, rfl, _, e3, ?_, fun c o ec => (upd_ne (ne_of_none ec hD)).trans (s3 _ _ ec), ?_⟩
      · rw [List.length_map, List.length_map, List.length_take]
        exact small1000 (by omega)
      · rw [upd_same, List.take_add_one, hpi]
        simp [nmsOf]
    · rintro H3 ⟨s3, e3⟩
      rw [List.length_map, al3.len, List.take_length] at e3
      refine ⟨_, rfl, a, C, dx, _, rfl, s3 _ _ ea2, c.cl, c.n2, (by show 1 < 1000; decide), ?_⟩
      have fD : H D = none := free_but kk (ne_of_none ea2 hD).symm hD
      refine q _ cl D us ((kk.trans (.same s3)).trans But.upd) upd_same ?_ ?_ ?_
      · rw [Nw.old ha, Nw.at fcl]
        exact s3 _ _ ecl2
      · rw [Nw.old ha]
        exact al3.sf (.of_same (Nw.same s3))
      · rw [Nw.old ha, Nw.at fD]
        exact e3
theorem rc_made2 {H1 : Hp} {R : Addr → Hp → Prop} {E : XK} {p : Addr} {ts : List Addr} {ps : List Pr} (hp : SqLT K H1 p (ts.map V.ref)) (al : AllPr H1 ts ps) (ok : PsOk ps) (q : ∀ (a : Addr) (H' : Hp), H1 a = none → RecAt C (Nw H1 H') a ps → Same H1 H' → R a H') :
    ∀ x dx, H1 x = Option.none → H1 dx = Option.none → dx ≠ x → spRcI K C [.ref x, .ref p] (upd (upd H1 dx (.own x)) x (.ins C dx [])) (fun v H2 => v = .non ∧ R x H2) E := by
  intro x dx hx hdx hne
  have s1 : Same H1 (upd (upd H1 dx (.own x)) x (.ins C dx [])) := fun c o e => (upd_ne (ne_of_none e hx)).trans ((upd_ne (ne_of_none e hdx)).trans e)
  refine ⟨x, dx, p, ts, ps, rfl, upd_same, hp.keep s1, al.sf (.of_same s1), ok, fun H' l n us k r1 r2 r3 r4 => ⟨rfl, q x _ hx ?_ fun c o e => ?_⟩⟩
  · have b := Nw.base (H' := H') s1
    exact ⟨dx, l, n, us, (Nw.at hx).trans r1, b _ _ r2, r3.sf (.of_same b), b _ _ r4⟩
  · exact k c o (ne_of_none e hx) (s1 _ _ e)
theorem rcinit_binds {E : Addr} (F : FunD K "__init__" "Records.__init__" (defArgs (sRc 0)) (defBody (sRc 0)) (defScope (sRc 0)) [.ref E] [] f fd) : Binds K fd ["self", "pairs"] [] := by
  obtain ⟨ds, h1, h2⟩ := F.binds1 (ps := ["self", "pairs"]) 2 1 (fun z => nomatch z) rfl (fun T kV doc pm an cdv ct us its l1 l2 => match us, its, l1, l2 with
    | [_, _], [_], _, _ => ⟨_, rfl, rfl⟩)
  have h3 : Vals [] ds := h1
  cases h3
  exact h2
theorem ok_rcpairs (F : Fun K "pairs" "Records.pairs" (sRc 2) f fd) (c : RcC K C) (md : mg "dict" = none) : FnOk P w K mg base CX0 1 f fd ["self"] (spRcP C) := by
  refine F.ok scRcP (fun vs H Q E h => ?_) (fun cdv A outer s H vs Q E hr h => ?_)
  · obtain ⟨a, ps, rfl, _⟩ := h
    rfl
  · obtain ⟨a, ps, rfl, ⟨dx, l, n, ts, ha, hl, al, hn⟩, ok, q⟩ := h
    refine ⟨_, pss_one (ps_ret (pe_lc (own := [("key", 1), ("value", 2)]) (g := gTup K 2 (gCons (gName 1) (gCons (gName 2) gNil))) (tt := tYes) (by rfl) scRcP.nd (pi_list (pe_fld (pv 0) rfl))
        (blkOk_by (own := [("key", 1), ("value", 2)]) (N := nRcP) (sc := defScope (sRc 2)) (by decide +kernel)) (fun _ _ _ _ _ => pg_tup (by rfl) (pgs_cons (pg_name (i := 1) scRcP.nd rfl (.inl rfl)) (pgs_cons (pg_name (i := 2) scRcP.nd rfl (.inl rfl)) pgs_nil))) (fun _ _ _ _ _ => pts_nil)
        (fun _ _ _ _ _ => pe_tup (pa_cons (pv 1) (pa_cons (pe_callTy call_dictD (by rfl) md (by decide +kernel) (pa_cons (pv 2) pa_nil)) pa_nil))))), ?_⟩
    refine ⟨_, rfl, a, C, dx, _, _, rfl, ha, c.cl, c.n1, rfl, l, rfl, ⟨_, .of hl⟩, fun D hD => ?_⟩
    have l40 := ok.few
    refine lc_list (xs := ts.map V.ref) (fun i H3 => Same H H3 ∧ ∃ us : List Addr, H3 D = some (.lst (us.map V.ref)) ∧ AllPr (Nw H H3) us (ps.take i)) ?_ ?_ ?_ ?_
    · exact ⟨Same.new hD, [], upd_same, trivial⟩
    · exact fun _ _ _ h => .of (h.1 _ _ hl)
    · rintro i x H3 hx ⟨s3, us, e3, al3⟩
      rw [List.getElem?_map] at hx
      obtain ⟨t, hti, rfl⟩ := Option.map_eq_some_iff.mp hx
      obtain ⟨pr, hpi, d, et, ed⟩ := al.get hti
      have hil : i < ps.length := (List.getElem?_eq_some_iff.mp hpi).1
      refine ⟨t, _, rfl, .of (s3 _ _ et), rfl, _, _, rfl, _, _, rfl, rfl, rfl, ?_⟩
      unfold tYes
      dsimp only
      rw [if_pos rfl]
      refine ⟨_, rfl, _, rfl, d, pr.2, rfl, .inl (s3 _ _ ed), fun dn hdn => ⟨(by show 2 ≤ sizeLine; decide), fun tn htn => ?_⟩⟩
      have s7 := (Same.new (o := .dK pr.2) hdn).trans (Same.new (o := .tup [.str pr.1, .ref dn]) htn)
      have e7 := s7 _ _ e3
      refine ⟨_, e7, ?_, fun c o eo => (upd_ne (ne_of_none eo hD)).trans (s7 _ _ (s3 _ _ eo)), us ++ [tn], ?_, ?_⟩
      · rw [List.length_map, al3.len, List.length_take]
        exact small1000 (by omega)
      · rw [upd_same, List.map_append]
        rfl
      · have fd' : H dn = none := s3.free hdn
        have ft : H tn = none := (s3.trans (Same.new hdn)).free htn
        have one : AllPr (Nw H (upd (upd H3 dn (.dK pr.2)) tn (.tup [.str pr.1, .ref dn]))) [tn] [pr] := ⟨⟨dn, (Nw.at ft).trans upd_same, (Nw.at fd').trans (Same.new htn _ _ upd_same)⟩, trivial⟩
        have all := (al3.sf (.of_same (Nw.same (H := H) s7))).app one
        have e9 : ps.take (i + 1) = ps.take i ++ [pr] := by
          rw [List.take_add_one, hpi]
          rfl
        rw [e9]
        exact all.sf (Nw.sf (.put e7))
    · rintro H3 ⟨s3, us, e3, al3⟩
      rw [List.length_map, al.len, List.take_length] at al3
      exact q D us H3 hD s3 e3 al3
theorem ok_rcplace (F : Fun K "place" "Records.place" (sRc 3) f fd) (c : RcC K C) : FnOk P w K mg base CX0 1 f fd ["self", "key"] (spRcL C) := by
  refine F.ok scRcL (fun vs H Q E h => ?_) (fun cdv A outer s H vs Q E hr h => ?_)
  · obtain ⟨a, ps, i, p, rfl, _⟩ := h
    rfl
  · obtain ⟨a, ps, i, p, rfl, ⟨dx, l, n, ts, ha, hl, al, hn⟩, ok, hi, q⟩ := h
    refine ⟨_, pss_cons (ps_if (pt_cmpR op_notIn_seq (pv 1) (pe_fld (pv 0) rfl) (by rfl)) (pss_one ps_never) pss_nil)
      (pss_one (ps_ret (pe_bm PySem.F.plainAttrs_list PySem.F.slot_list_index PySem.F.type_list_index mt_index (pe_fld (pv 0) rfl) (pa_cons (pv 1) pa_nil)))), ?_⟩
    have hin : p.1 ∈ nmsOf ps := List.mem_map.mpr ⟨p, List.mem_of_getElem? hi, rfl⟩
    refine ⟨_, rfl, _, rfl, a, C, dx, _, _, rfl, ha, c.cl, c.n2, rfl, n, _, rfl, .inl (.of hn), rfl, flat_strs _, _, rfl, ?_⟩
    rw [show (if true = true then !inV (V.str p.1) ((nmsOf ps).map V.str) else inV (V.str p.1) ((nmsOf ps).map V.str)) = false from by
      rw [if_pos rfl, inV_str, decide_eq_true hin]
      rfl]
    refine iteF ?_
    refine ⟨_, rfl, a, C, dx, _, _, rfl, ha, c.cl, c.n2, rfl, .inl ⟨rfl, _, .of hn⟩, _, rfl, n, _, _, i, .str p.1, rfl, rfl, .of hn, rfl, flat_strs _, ?_, ?_, ?_, q⟩
    · rw [List.getElem?_map, List.getElem?_map, hi]
      rfl
    · exact beq_self_eq_true _
    · intro m z' hm e
      rw [List.getElem?_map, List.getElem?_map] at e
      obtain ⟨y, ey, rfl⟩ := Option.map_eq_some_iff.mp e
      obtain ⟨r, er, rfl⟩ := Option.map_eq_some_iff.mp ey
      show (r.1 == p.1) = false
      rw [str_beq]
      refine decide_eq_false fun z => ?_
      have := ok.at_uniq hi er z
      omega
end
end G
set_option Elab.async false
set_option linter.all false
set_option maxRecDepth 100000
set_option maxHeartbeats 4000000
/-! EQ1: == and != of lists and tuples whose items are compared within one model. -/
namespace G
open PySem PySem.Spec PyProof.Rows L2
open PySem.SeqAt PySem.AutoSeq1 PySem.MeetsSeq PySem.MeetsSeq2 PySem.MeetsSeq3 PySem.SeqRoads2
section
variable {prog : Program} {w : World}
/-- the items of two sequences, compared in turn -/
abbrev Its (prog : Program) (w : World) (A : Around) (s : Shared) (us ws : Array Value) (e : Nat → Bool) : Prop :=
  ∀ j (h1 : j < us.size) (h2 : j < ws.size), EqP prog w A s us[j] ws[j] (e j)
theorem unlike_turn (p q : Addr) (us ws : Array Value) (m1 m2 : Nat) (d1 d2 : Option Addr) (z1 z2 : Array (Option Value)) (same : us.size = ws.size) (e : Nat → Bool) (left : Nat) :
    ∀ at_ : Nat, us.size - at_ = left → MeetsIn prog w (Builtin.«list.__eq__.loop» ⟨[.ref p, .ref q, rawInt at_, rawInt 3], []⟩)
      (fun A R s => s.heap.get? p = some ⟨.type "list", d1, .seq us m1, z1⟩ ∧ s.heap.get? q = some ⟨.type "list", d2, .seq ws m2, z2⟩ ∧ Its prog w A.in1 s us ws e ∧
        R (.ok (.ret (.bool (!((List.range us.size).drop at_).all e)))) s) := by
  induction left with
  | zero =>
    intro at_ hk A R s h
    obtain ⟨hp, g, d, tk, os⟩ := s
    obtain ⟨ep, eq_, he, hr⟩ := h
    wp_walk using wpAny_loadPart' ep, wpAny_loadPart' eq_
    have o1 : us[((at_ : Nat) : Int).toNat]? = none := by
      simp
      omega
    have o2 : ws[((at_ : Nat) : Int).toNat]? = none := by
      simp
      omega
    have o3 : (List.range us.size).drop at_ = [] := by
      simp
      omega
    rw [o3] at hr
    rw [o1, o2]
    wp_walk using wpAny_loadPart' ep, wpAny_loadPart' eq_
    show R (.ok (.ret (.bool (us.size != ws.size)))) _
    rw [same]
    simpa using hr
  | succ left ih =>
    intro at_ hk A R s h
    obtain ⟨hp, g, d, tk, os⟩ := s
    obtain ⟨ep, eq_, he, hr⟩ := h
    wp_walk using wpAny_loadPart' ep, wpAny_loadPart' eq_
    have l1 : at_ < us.size := by omega
    have l2 : at_ < ws.size := by omega
    have o1 : us[((at_ : Nat) : Int).toNat]? = some us[at_] := by simp [l1]
    have o2 : ws[((at_ : Nat) : Int).toNat]? = some ws[at_] := by simp [l2]
    have o3 : (List.range us.size).drop at_ = at_ :: (List.range us.size).drop (at_ + 1) := by
      simp [List.drop_eq_getElem_cons, l1]
    have o4 : ((at_ : Int) + 1) = ((at_ + 1 : Nat) : Int) := by
      push_cast
      rfl
    rw [o3, List.all_cons] at hr
    rw [o1, o2]
    refine wpAny_bind (he at_ l1 l2 _ _ ?_)
    cases ee : e at_ with
    | true =>
      rw [ee] at hr
      wp_walk
      rw [o4]
      refine ⟨plainId_quiet plain_eq_loop _, codeAny_builtin entry_eq_loop ?_⟩
      rw [Around.under_plainId plain_eq_loop _]
      exact ih (at_ + 1) (by omega) A R _ ⟨ep, eq_, he, by simpa using hr⟩
    | false =>
      rw [ee] at hr
      wp_walk using wpAny_loadPart' ep, wpAny_loadPart' eq_
      rw [o1, o2]
      wp_walk
      simpa using hr
theorem unlike_lists (p q : Addr) (us ws : Array Value) (m1 m2 : Nat) (d1 d2 : Option Addr) (z1 z2 : Array (Option Value)) (same : us.size = ws.size) (e : Nat → Bool) :
    MeetsIn prog w (Builtin.«list.__ne__» ⟨[.ref p, .ref q], []⟩)
      (fun A R s => s.heap.get? p = some ⟨.type "list", d1, .seq us m1, z1⟩ ∧ s.heap.get? q = some ⟨.type "list", d2, .seq ws m2, z2⟩ ∧ Its prog w A.in1 s us ws e ∧
        R (.ok (.ret (.bool (!(List.range us.size).all e)))) s) := by
  intro A R s h
  obtain ⟨hp, g, d, tk, os⟩ := s
  obtain ⟨ep, eq_, he, hr⟩ := h
  have sub := AutoSeq1.sub_list_list
  have hne : ¬ (us.size != ws.size) = true := by
    simp [same]
  wp_walk using wpAny_loadPart' ep, wpAny_loadPart' eq_
  refine ⟨plainId_quiet plain_eq_loop _, codeAny_builtin entry_eq_loop ?_⟩
  rw [Around.under_plainId plain_eq_loop _]
  exact unlike_turn p q us ws m1 m2 d1 d2 z1 z2 same e _ 0 rfl A R _ ⟨ep, eq_, he, by simpa using hr⟩
theorem rnP_lists {A : Around} {s : Shared} {p q : Addr} {us ws : Array Value} {e : Nat → Bool} (ep : s.heap.IsList p us) (eq_ : s.heap.IsList q ws) (same : us.size = ws.size) (hu : A.units < cLine)
    (he : Its prog w A.in1 s us ws e) (E Q : Value → Shared → Prop) (h : Q (.bool (!(List.range us.size).all e)) s) : wpAny (model prog w) A (richCompare .NotEq (.ref p) (.ref q)) Q E s := by
  obtain ⟨⟨c1, d1, t1, z1⟩, o1, k1, m1, e1⟩ := id ep
  obtain ⟨⟨c2, d2, t2, z2⟩, o2, k2, m2, e2⟩ := id eq_
  simp only at k1 e1 k2 e2
  subst k1 e1 k2 e2
  have ta : s.TypeIs (.ref p) "list" := ⟨_, o1, rfl⟩
  refine wpAny_richCompare_same_room (op := .NotEq) ta ⟨_, o2, rfl⟩ F.slot_list_ne ?_ hu
  refine call_meetsIn F.slot_list_ne ta F.entry_list_ne (F.args_list_ne_2 _ _) (unlike_lists p q us ws m1 m2 d1 d2 z1 z2 same e) ⟨o1, o2, he, ?_⟩
  exact show Value.bool (!(List.range us.size).all e) ≠ Value.notImplemented ∧ Q (.bool (!(List.range us.size).all e)) s from ⟨(fun x => nomatch x), h⟩
theorem alike_tuples (p q : Addr) (us ws : Array Value) (m1 m2 : Nat) (d1 d2 : Option Addr) (z1 z2 : Array (Option Value)) (e : Nat → Bool) :
    MeetsIn prog w (Builtin.«tuple.__eq__» ⟨[.ref p, .ref q], []⟩)
      (fun A R s => s.heap.get? p = some ⟨.type "tuple", d1, .seq us m1, z1⟩ ∧ s.heap.get? q = some ⟨.type "tuple", d2, .seq ws m2, z2⟩ ∧ Its prog w A.in1 s us ws e ∧
        R (.ok (.ret (.bool ((List.range (min us.size ws.size)).all e && us.size == ws.size)))) s) := by
  refine .of_wp fun A R s h => ?_
  obtain ⟨hp, g, d, tk, os⟩ := s
  obtain ⟨ep, eq_, he, hr⟩ := h
  have sub := AutoSeq1.sub_tuple_tuple
  have lz : (us.toList.zip ws.toList).length = min us.size ws.size := by
    simp
  wp_walk using wpAny_loadPart' ep, wpAny_loadPart' eq_, wpAny_forIn_list _ (fun rest b s' => b.1 = none ∧ s' = ⟨hp, g, d, tk, os⟩ ∧ ∃ i, rest = (us.toList.zip ws.toList).drop i ∧
    R (.ok (.ret (.bool (((List.range (min us.size ws.size)).drop i).all e && us.size == ws.size)))) ⟨hp, g, d, tk, os⟩) _
  case turn =>
    rintro ⟨y, x⟩ rest b s' ⟨eb, rfl, i, ez, hR⟩
    have li : i < (us.toList.zip ws.toList).length := by
      rcases Nat.lt_or_ge i (us.toList.zip ws.toList).length with z | z
      · exact z
      · rw [List.drop_of_length_le z] at ez
        cases ez
    have lm : i < min us.size ws.size := lz ▸ li
    have i1 : i < us.size := Nat.lt_of_lt_of_le lm (Nat.min_le_left _ _)
    have i2 : i < ws.size := Nat.lt_of_lt_of_le lm (Nat.min_le_right _ _)
    rw [List.drop_eq_getElem_cons li] at ez
    injection ez with both more
    have ey : y = us[i] := by
      have := congrArg Prod.fst both
      simpa using this
    have ex : x = ws[i] := by
      have := congrArg Prod.snd both
      simpa using this
    subst ey ex
    have dr : (List.range (min us.size ws.size)).drop i = i :: (List.range (min us.size ws.size)).drop (i + 1) := by
      simp [List.drop_eq_getElem_cons, lm]
    rw [dr, List.all_cons] at hR
    refine wpAny_bind (he i i1 i2 _ _ ?_)
    cases ee : e i with
    | true =>
      rw [ee] at hR
      wp_walk
      exact ⟨rfl, rfl, i + 1, more, by simpa using hR⟩
    | false =>
      rw [ee] at hR
      wp_walk
      exact ⟨_, rfl, by simpa using hR⟩
  case fin =>
    rintro ⟨b1, b2⟩ s' ⟨eb, rfl, i, ez, hR⟩
    simp only at eb
    subst eb
    have ge : min us.size ws.size ≤ i := by
      rcases Nat.lt_or_ge i (us.toList.zip ws.toList).length with z | z
      · rw [List.drop_eq_getElem_cons z] at ez
        cases ez
      · exact lz ▸ z
    rw [List.drop_of_length_le (by simpa using ge)] at hR
    wp_walk
    exact ⟨_, rfl, by simpa [Builtin.Tuple.tupleCompareSizes] using hR⟩
  case h =>
    exact ⟨rfl, rfl, 0, rfl, by simpa using hr⟩
theorem rcP_tuples {A : Around} {s : Shared} {p q : Addr} {us ws : Array Value} {e : Nat → Bool} (ep : s.heap.IsTuple p us) (eq_ : s.heap.IsTuple q ws) (hu : A.units < cLine)
    (he : Its prog w A.in1 s us ws e) (E Q : Value → Shared → Prop) (h : Q (.bool ((List.range (min us.size ws.size)).all e && us.size == ws.size)) s) : wpAny (model prog w) A (richCompare .Eq (.ref p) (.ref q)) Q E s := by
  obtain ⟨⟨c1, d1, t1, z1⟩, o1, k1, m1, e1⟩ := id ep
  obtain ⟨⟨c2, d2, t2, z2⟩, o2, k2, m2, e2⟩ := id eq_
  simp only at k1 e1 k2 e2
  subst k1 e1 k2 e2
  have ta : s.TypeIs (.ref p) "tuple" := ⟨_, o1, rfl⟩
  refine wpAny_richCompare_same_room (op := .Eq) ta ⟨_, o2, rfl⟩ F.slot_tuple_eq ?_ hu
  refine call_meetsIn F.slot_tuple_eq ta F.entry_tuple_eq (F.args_tuple_eq_2 _ _) (alike_tuples p q us ws m1 m2 d1 d2 z1 z2 e) ⟨o1, o2, he, ?_⟩
  exact show Value.bool ((List.range (min us.size ws.size)).all e && us.size == ws.size) ≠ Value.notImplemented ∧ Q (.bool ((List.range (min us.size ws.size)).all e && us.size == ws.size)) s from ⟨(fun x => nomatch x), h⟩
end
end G
set_option Elab.async false
set_option linter.all false
set_option maxRecDepth 100000
set_option maxHeartbeats 4000000
/-! EQ2: lists of records compared, both answers. -/
namespace G
open PySem PySem.Spec PyProof.Rows L2 PySem.SeqAt
theorem valV_mem {ks : List (Key × V)} (nd : (ks.map (·.1)).Nodup) {p : Key × V} (h : p ∈ ks) : valV ks p.1 = some p.2 := by
  show Option.map (fun p : Key × V => p.2) (ks.find? fun kv => decide (kv.1 = p.1)) = some p.2
  induction ks with
  | nil => cases h
  | cons q r ih =>
    rw [List.map_cons, List.nodup_cons] at nd
    rw [List.find?_cons]
    rcases List.mem_cons.mp h with e | hr
    · rw [e, decide_eq_true rfl]
      rfl
    · have n : q.1 ≠ p.1 := fun z => nd.1 (z ▸ List.mem_map.mpr ⟨p, hr, rfl⟩)
      rw [decide_eq_false n]
      exact ih nd.2 hr
theorem dEq_refl {ks : List (Key × V)} (nd : (ks.map (·.1)).Nodup) : dEq ks ks = true := by
  unfold dEq
  rw [beq_self_eq_true, Bool.true_and]
  exact List.all_eq_true.mpr fun p hp => decide_eq_true (valV_mem nd hp)
def prEq (p q : Pr) : Bool := decide (p.1 = q.1) && dEq p.2 q.2
def prE (ps qs : List Pr) (j : Nat) : Bool := match ps[j]?, qs[j]? with
  | some p, some q => prEq p q
  | _, _ => false
/-- are two lists of records equal -/
def plEq (ps qs : List Pr) : Bool := ps.length == qs.length && (List.range ps.length).all (prE ps qs)
structure DOk (p : Pr) : Prop where
  num : AllInt p.2
  nd : (p.2.map (·.1)).Nodup
def AllD (ps : List Pr) : Prop := ∀ p ∈ ps, DOk p
theorem PsOk.allD {ps : List Pr} (ok : PsOk ps) : AllD ps := fun p h => ⟨fun x hx => by
  obtain ⟨zs, hv⟩ := ok.val p h
  obtain ⟨z, i, e, _⟩ := hv.is x hx
  exact ⟨i, by rw [e]⟩, ok.kd p h⟩
theorem prEq_refl {p : Pr} (d : DOk p) : prEq p p = true := by
  unfold prEq
  rw [decide_eq_true rfl, dEq_refl d.nd]
  rfl
theorem plEq_refl {ps : List Pr} (d : AllD ps) : plEq ps ps = true := by
  unfold plEq
  rw [beq_self_eq_true, Bool.true_and]
  refine List.all_eq_true.mpr fun j hj => ?_
  have hl : j < ps.length := List.mem_range.mp hj
  unfold prE
  rw [List.getElem?_eq_getElem hl]
  exact prEq_refl (d _ (List.getElem_mem hl))
section
variable {X : Cx} {pins : List (Addr × Obj)} {σ : L2.St} {H : Hp} {s : Shared}
theorem dic_eqP (I : Inv X pins σ H s) {A : Around} (hu : A.units < cLine) {d c : Addr} {ks ls : List (Key × V)} (ed : H d = some (.dK ks)) (ec : H c = some (.dK ls)) (ik : AllInt ks) (il : AllInt ls) (nd : (ks.map (·.1)).Nodup) :
    EqP X.prog X.w A s (.ref d) (.ref c) (dEq ks ls) := by
  by_cases n : d = c
  · subst n
    rw [ed] at ec
    cases ec
    rw [dEq_refl nd]
    exact (SeqAt.EqAt.same _).eqP
  · refine eqP_refs n fun E Q q => ?_
    obtain ⟨_, ya, va, ra, da⟩ := (show ObjOk X.prog X.w H s.heap d (.dK ks) from I.hok d _ ed)
    obtain ⟨_, yb, vb, rb, db⟩ := (show ObjOk X.prog X.w H s.heap c (.dK ls) from I.hok c _ ec)
    have e : dEq ks ls = (va.length == vb.length && ks.all fun p => decide (valV ls p.1 = some p.2)) := by
      rw [← ra.length, ← rb.length]
      rfl
    rw [e] at q
    exact PySem.W.keq_eq (knd := mixKind X.prog X.w) ya yb da db hu (fun _ => hits_int rb il ra ik) q
theorem pr_eqP (I : Inv X pins σ H s) {A : Around} (hu : A.units + 2 < cLine) {t u : Addr} {p q : Pr} (ht : PrAt H t p) (hq : PrAt H u q) (dp : DOk p) (dq : DOk q) : EqP X.prog X.w A s (.ref t) (.ref u) (prEq p q) := by
  obtain ⟨d, et, ed⟩ := ht
  obtain ⟨c, eu, ec⟩ := hq
  by_cases n : t = u
  · subst n
    rw [et] at eu
    injection eu with e1
    injection e1 with e1
    injection e1 with e2 e3
    injection e2 with e2
    injection e3 with e3 e4
    injection e3 with e3
    subst e3
    rw [ed] at ec
    injection ec with ec
    injection ec with ec
    obtain ⟨p1, p2⟩ := p
    obtain ⟨q1, q2⟩ := q
    dsimp only at e2 ec
    subst e2 ec
    rw [prEq_refl dp]
    exact (SeqAt.EqAt.same _).eqP
  · refine eqP_refs n fun E Q h => ?_
    obtain ⟨us, r1, p1, _⟩ := I.tuple (.of et)
    obtain ⟨ws, r2, p2, _⟩ := I.tuple (.of eu)
    cases r1 with
    | cons a1 r1 =>
      cases r1 with
      | cons b1 r1 =>
        cases r1
        cases r2 with
        | cons a2 r2 =>
          cases r2 with
          | cons b2 r2 =>
            cases r2
            obtain ⟨t1, rfl⟩ := a1
            obtain ⟨t2, rfl⟩ := a2
            cases b1
            cases b2
            refine rcP_tuples (e := fun j => if j = 0 then (p.1 == q.1) else dEq p.2 q.2) p1 p2 (by omega) (fun j h1 h2 => ?_) E Q ?_
            · match j, h1, h2 with
              | 0, _, _ => exact (SeqAt.EqAt.str_str p.1 t1 q.1 t2).eqP
              | 1, _, _ => exact dic_eqP I (by show A.units + 1 < cLine; omega) ed ec dp.num dq.num dp.nd
              | j + 2, h1, _ => exact absurd h1 (by show ¬ (j + 2 < 2); omega)
            · have e : prEq p q = ((p.1 == q.1) && dEq p.2 q.2) := by
                unfold prEq
                rw [str_beq]
              rw [e] at h
              have e2 : ((List.range (min 2 2)).all (fun j => if j = 0 then (p.1 == q.1) else dEq p.2 q.2) && (2 == 2)) = ((p.1 == q.1) && dEq p.2 q.2) := by
                show (((p.1 == q.1) && (dEq p.2 q.2 && true)) && true) = _
                rw [Bool.and_true, Bool.and_true]
              exact (show Q (.bool ((List.range (min 2 2)).all (fun j => if j = 0 then (p.1 == q.1) else dEq p.2 q.2) && (2 == 2))) s from by
                rw [e2]
                exact h)
theorem pr_its (I : Inv X pins σ H s) {A : Around} (hu : A.units + 2 < cLine) {ts us : List Addr} {ps qs : List Pr} (ap : AllPr H ts ps) (aq : AllPr H us qs) (dp : AllD ps) (dq : AllD qs) {vs ws : List Value} (rv : Vals (ts.map V.ref) vs) (rw_ : Vals (us.map V.ref) ws) :
    Its X.prog X.w A s vs.toArray ws.toArray (prE ps qs) := by
  intro j h1 h2
  have l1 : j < vs.length := by simpa using h1
  have l2 : j < ws.length := by simpa using h2
  have m1 : j < ts.length := by
    have := rv.length
    rw [List.length_map] at this
    omega
  have m2 : j < us.length := by
    have := rw_.length
    rw [List.length_map] at this
    omega
  obtain ⟨p, hp, pa⟩ := ap.get (List.getElem?_eq_getElem m1)
  obtain ⟨q, hq, qa⟩ := aq.get (List.getElem?_eq_getElem m2)
  obtain ⟨v, ev, rv'⟩ := rv.get (i := j) (x := .ref ts[j]) (by rw [List.getElem?_map, List.getElem?_eq_getElem m1]; rfl)
  obtain ⟨u, eu, ru'⟩ := rw_.get (i := j) (x := .ref us[j]) (by rw [List.getElem?_map, List.getElem?_eq_getElem m2]; rfl)
  rw [List.getElem?_eq_getElem l1] at ev
  rw [List.getElem?_eq_getElem l2] at eu
  have e1 : vs.toArray[j] = .ref ts[j] := by
    have : vs[j] = .ref ts[j] := (Option.some.inj ev).trans rv'
    simpa using this
  have e2 : ws.toArray[j] = .ref us[j] := by
    have : ws[j] = .ref us[j] := (Option.some.inj eu).trans ru'
    simpa using this
  have e3 : prE ps qs j = prEq p q := by
    unfold prE
    rw [hp, hq]
  rw [e1, e2, e3]
  exact pr_eqP I hu pa qa (dp p (List.mem_of_getElem? hp)) (dq q (List.mem_of_getElem? hq))
end
/-- two lists of records -/
def rPl (pos : Bool) : R2 := fun x y H Q => ∃ (a b : Addr) (ts us : List Addr) (ps qs : List Pr), x = .ref a ∧ y = .ref b ∧ H a = some (.lst (ts.map V.ref)) ∧ H b = some (.lst (us.map V.ref)) ∧ AllPr H ts ps ∧ AllPr H us qs ∧ AllD ps ∧ AllD qs ∧ Q (.bl (cond pos (plEq ps qs) (!plEq ps qs))) H
section
variable {X : Cx}
theorem pl_size {H : Hp} {ts us : List Addr} {ps qs : List Pr} {vs ws : List Value} (ap : AllPr H ts ps) (aq : AllPr H us qs) (rv : Vals (ts.map V.ref) vs) (rw_ : Vals (us.map V.ref) ws) : vs.toArray.size = ps.length ∧ ws.toArray.size = qs.length := by
  have h1 := rv.length
  have h2 := rw_.length
  rw [List.length_map] at h1 h2
  rw [List.size_toArray, List.size_toArray, ← h1, ← h2]
  exact ⟨ap.len, aq.len⟩
theorem op_eqPl (hu : X.A.units + 4 < cLine) : OpR X (compareOp .Eq) (rPl true) := by
  intro pins s σ H x y v u Q I rx ry h
  obtain ⟨a, b, ts, us, ps, qs, rfl, rfl, ha, hb, ap, aq, dp, dq, q⟩ := h
  cases (show v = Value.ref a from rx)
  cases (show u = Value.ref b from ry)
  obtain ⟨vs, r1, p1, _⟩ := I.list (.of ha)
  obtain ⟨ws, r2, p2, _⟩ := I.list (.of hb)
  obtain ⟨z1, z2⟩ := pl_size ap aq r1 r2
  by_cases e : ps.length = qs.length
  · refine rcP_lists (e := prE ps qs) p1.isList p2.isList (by rw [z1, z2, e]) (by omega) (pr_its I (by show X.A.units + 1 + 2 < cLine; omega) ap aq dp dq r1 r2) _ _ ?_
    refine ⟨.bl (plEq ps qs), H, I, ?_, q⟩
    show _ = Value.bool (plEq ps qs)
    unfold plEq
    rw [z1, e, beq_self_eq_true, Bool.true_and]
  · refine SeqAt.RcAt.lists_lengths p1.isList p2.isList (by rw [z1, z2]; simpa using e) (by omega) X.prog X.w _ _ ?_
    refine ⟨.bl (plEq ps qs), H, I, ?_, q⟩
    show _ = Value.bool (plEq ps qs)
    unfold plEq
    rw [beq_eq_false_iff_ne.mpr e, Bool.false_and]
theorem op_nePl (hu : X.A.units + 4 < cLine) : OpR X (compareOp .NotEq) (rPl false) := by
  intro pins s σ H x y v u Q I rx ry h
  obtain ⟨a, b, ts, us, ps, qs, rfl, rfl, ha, hb, ap, aq, dp, dq, q⟩ := h
  cases (show v = Value.ref a from rx)
  cases (show u = Value.ref b from ry)
  obtain ⟨vs, r1, p1, _⟩ := I.list (.of ha)
  obtain ⟨ws, r2, p2, _⟩ := I.list (.of hb)
  obtain ⟨z1, z2⟩ := pl_size ap aq r1 r2
  by_cases e : ps.length = qs.length
  · refine rnP_lists (e := prE ps qs) p1.isList p2.isList (by rw [z1, z2, e]) (by omega) (pr_its I (by show X.A.units + 1 + 2 < cLine; omega) ap aq dp dq r1 r2) _ _ ?_
    refine ⟨.bl (!plEq ps qs), H, I, ?_, q⟩
    show _ = Value.bool (!plEq ps qs)
    unfold plEq
    rw [z1, e, beq_self_eq_true, Bool.true_and]
  · refine SeqAt.RcNeAt.lists_lengths p1.isList p2.isList (by rw [z1, z2]; simpa using e) (by omega) X.prog X.w _ _ ?_
    refine ⟨.bl (!plEq ps qs), H, I, ?_, q⟩
    show _ = Value.bool (!plEq ps qs)
    unfold plEq
    rw [beq_eq_false_iff_ne.mpr e, Bool.false_and]
    rfl
end
end G
set_option Elab.async false
set_option linter.all false
set_option maxRecDepth 100000
set_option maxHeartbeats 4000000
/-! O5: len(o) by an own __len__. -/
namespace G
open PySem PySem.Spec PyProof.Rows L2
section
variable {X : Cx} {C g : Addr} {fd : FuncData} {ps : List Str} {n : Nat} {sp : Sp}
def rLenO (C : Addr) (sp : Sp) : List V → Hp → VK → Prop := fun xs H Q => ∃ a dx fs, xs = [V.ref a] ∧ H a = some (.ins C dx fs) ∧ sp [.ref a] H (fun z H' => ∃ i : Int, z = .int i ∧ 0 ≤ i ∧ i < 2 ^ 63 ∧ Q z H') E0
theorem call_lenO (m : OwnM X.K C "__len__" g) (hb : Binds X.K fd ps []) (F : FnOk X.prog X.w X.K X.mg X.base CX0 n g fd ps sp) (hr : Room (n + 1) X.A) : CallR X (.builtin "len") (rLenO C sp) := by
  intro pins s σ H xs us Q I r h
  obtain ⟨a, dx, fs, rfl, ha, q⟩ := h
  obtain ⟨u, rfl, ru⟩ := r.one
  cases (show u = Value.ref a from ru)
  obtain ⟨ox, od, J⟩ := insX_at I ha
  obtain ⟨mm, hF⟩ := I.fr
  have hr2 : Room n X.A.in1 := hr.in1
  refine PySem.W.len_K hF I.ok.mod.kin J m.at_ m.fn ?_
  have hl : ([Value.ref a] ++ []).length = ps.length := by
    have := F.len _ _ _ _ q
    exact this
  refine wpAny_call (codeAny_mono (F.run X.A.in1 X.stack s H ⟨[Value.ref a], []⟩ ([Value.ref a] ++ []) [V.ref a] _ E0 hr2 I.env0.in1 (hb s [Value.ref a] I.kIn hl) (show Vals [V.ref a] [Value.ref a] from .cons rfl .nil) q) fun r s' hq => ?_)
  cases r with
  | error e => exact False.elim hq
  | ok fl =>
    cases fl with
    | ret u =>
      obtain ⟨v, H', I2, rv, i, rfl, h0, h1, q⟩ := I.after hq
      obtain ⟨t, rfl⟩ := (show ∃ t, u = Value.int i t from rv)
      exact ⟨⟨h0, h1⟩, .int i, H', I2.kept (t' := s'.toks + 1) (fun b o e => e), ⟨_, rfl⟩, q⟩
    | next => exact False.elim hq
    | brk => exact False.elim hq
    | cont => exact False.elim hq
end
end G
set_option Elab.async false
set_option linter.all false
set_option maxRecDepth 100000
set_option maxHeartbeats 4000000
/-! RC4: Records with one more, one fewer, one moved, another value, several more. -/
namespace G
open PySem PySem.Spec PyProof.Rows L2 NdefX
theorem scRcN : FnScope ["self"] ["self"] (defScope (sRc 5)) := ⟨rfl, rfl, rfl, by decide +kernel, rfl, by decide +kernel, by decide +kernel⟩
theorem scRcE : FnScope ["self", "other"] ["self", "other"] (defScope (sRc 8)) := ⟨rfl, rfl, rfl, by decide +kernel, rfl, by decide +kernel, by decide +kernel⟩
theorem ne_ifT {A B : Prop} {x y : V} (e : x ≠ y) (h : A) : if (!decide (x = y)) = true then A else B := by
  rw [decide_eq_false e]
  exact iteT h
theorem eq_ifT {A B : Prop} {x y : V} (e : x = y) (h : A) : if decide (x = y) = true then A else B := by
  rw [decide_eq_true e]
  exact iteT h
theorem eq_ifN {A B : Prop} {x y : V} (e : x ≠ y) (h : B) : if decide (x = y) = true then A else B := by
  rw [decide_eq_false e]
  exact iteF h
def spRcN (C : Addr) : Sp := fun vs H Q _ => ∃ (a : Addr) (ps : List Pr), vs = [.ref a] ∧ RecAt C H a ps ∧ Q (.int (ps.length : Nat)) H
def spRcE (C : Addr) : Sp := fun vs H Q _ => ∃ (a b : Addr) (ps qs : List Pr), vs = [.ref a, .ref b] ∧ RecAt C H a ps ∧ RecAt C H b qs ∧ PsOk ps ∧ PsOk qs ∧ Q (.bl (plEq ps qs)) H
section
variable {P : Program} {w : World} {K : PySem.W.Frag} {mg : Str → Option Value} {base : Heap} {f C : Addr} {fd : FuncData}
theorem ok_rclen (F : Fun K "__len__" "Records.__len__" (sRc 5) f fd) (c : RcC K C) (ml : mg "len" = none) : FnOk P w K mg base CX0 1 f fd ["self"] (spRcN C) := by
  refine F.ok scRcN (fun vs H Q E h => ?_) (fun cdv A outer s H vs Q E hr h => ?_)
  · obtain ⟨a, ps, rfl, _⟩ := h
    rfl
  · obtain ⟨a, ps, rfl, ⟨dx, l, n, ts, ha, hl, al, hn⟩, q⟩ := h
    refine ⟨_, pss_one (ps_ret (pe_callB call_len_seq (by rfl) ml PySem.boot_len (pa_cons (pe_fld (pv 0) rfl) pa_nil))), ?_⟩
    refine ⟨_, rfl, a, C, dx, _, _, rfl, ha, c.cl, c.n1, rfl, l, _, rfl, .inl (.of hl), ?_⟩
    rw [List.length_map, al.len]
    exact q
end
end G
set_option Elab.async false
set_option linter.all false
set_option maxRecDepth 100000
set_option maxHeartbeats 4000000
/-! RC5: Records changed; ==, in. -/
namespace G
open PySem PySem.Spec PyProof.Rows L2 NdefX
/-- what isinstance asks of the class -/
structure RcK (K : PySem.W.Frag) (C : Addr) : Prop where
  ha : PySem.W.findIn K (.ref C) "__class__" = some (some (.builtin "object.__class__"))
  hn : PySem.W.specialIn K (.builtin "object.__class__") "__get__" = some (some (.builtin "getset_descriptor.__get__"))
  htk : PySem.W.takesIn K (.builtin "object.__class__") = some true
  hm : PySem.W.mroIn K C (.type "object") = some true
  kit : PySem.W.kitOne K (.ref C) (.ref C) = some true
  kN : PySem.W.kitOne K (.type "NoneType") (.ref C) = some false
  kI : PySem.W.kitOne K (.type "int") (.ref C) = some false
  kS : PySem.W.kitOne K (.type "str") (.ref C) = some false
  kL : PySem.W.kitOne K (.type "list") (.ref C) = some false
  kB : PySem.W.kitOne K (.type "bool") (.ref C) = some false
  kD : PySem.W.kitOne K (.type "dict") (.ref C) = some false
section
variable {P : Program} {w : World} {K : PySem.W.Frag} {mg : Str → Option Value} {base : Heap} {f C : Addr} {fd : FuncData}
theorem ok_rceq (F : Fun K "__eq__" "Records.__eq__" (sRc 8) f fd) (c : RcC K C) (k : RcK K C) (gC : mg "Records" = some (.ref C)) (mi : mg "isinstance" = none) : FnOk P w K mg base CX0 1 f fd ["self", "other"] (spRcE C) := by
  refine F.ok scRcE (fun vs H Q E h => ?_) (fun cdv A outer s H vs Q E hr h => ?_)
  · obtain ⟨a, b, ps, qs, rfl, _⟩ := h
    rfl
  · obtain ⟨a, b, ps, qs, rfl, ⟨dx, l, n, ts, ha, hl, al, hn⟩, ⟨dy, l2, n2, us, hb, hl2, al2, hn2⟩, okp, okq, q⟩ := h
    have hu : (A.deeper (envOfC "Records.__eq__" (defScope (sRc 8)) s.heap.objs.size f cdv)).units + 4 < cLine := by have := hr.units; omega
    refine ⟨_, pss_one (ps_ret (pe_and (pe_callB call_isi (by rfl) mi (by decide +kernel) (pa_cons (pv 1) (pa_cons (pe_glob (v := .ref C) rfl gC rfl) pa_nil)))
      (pe_one (pe_cmpR (op_eqPl hu) (pe_fld (pv 0) rfl) (pe_fld (pv 1) rfl) (nomark _))))), ?_⟩
    refine ⟨_, rfl, _, _, _, _, _, rfl, .own C, .base (.ins hb c.cl k.ha k.hn k.htk k.hm), k.kit, _, rfl, iteT ?_⟩
    exact ⟨_, rfl, a, C, dx, _, _, rfl, ha, c.cl, c.n1, rfl, _, rfl, b, C, dy, _, _, rfl, hb, c.cl, c.n1, rfl, l, l2, ts, us, ps, qs, rfl, rfl, hl, hl2, al, al2, okp.allD, okq.allD, q⟩
theorem ok_rchas (F : Fun K "__contains__" "Records.__contains__" (sRc 6) f fd) (c : RcC K C) : FnOk P w K mg base CX0 1 f fd ["self", "item"] (spRcC C) := by
  refine F.ok scRcC (fun vs H Q E h => ?_) (fun cdv A outer s H vs Q E hr h => ?_)
  · obtain ⟨a, ps, z, rfl, _⟩ := h
    rfl
  · obtain ⟨a, ps, z, rfl, ⟨dx, l, n, ts, ha, hl, al, hn⟩, q⟩ := h
    refine ⟨_, pss_one (ps_ret (pe_cmpR op_in_seq (pv 1) (pe_fld (pv 0) rfl) (by rfl))), ?_⟩
    refine ⟨_, rfl, _, rfl, a, C, dx, _, _, rfl, ha, c.cl, c.n2, rfl, n, _, rfl, .inl (.of hn), rfl, flat_strs _, ?_⟩
    rw [show (if false = true then !inV (V.str z) ((nmsOf ps).map V.str) else inV (V.str z) ((nmsOf ps).map V.str)) = decide (z ∈ nmsOf ps) from inV_str _ _]
    exact q
end
end G
set_option Elab.async false
set_option linter.all false
set_option maxRecDepth 100000
set_option maxHeartbeats 4000000
/-! KX1: own exceptions over KeyError and LookupError (both are made by LookupError's __new__) are made and get their first field. -/
namespace GX
open PySem
namespace KX
open PySem.W PySem.Calls PyProof.Rows PySem.HandSPX
abbrev tlKey : List Value := [.type "KeyError", .type "LookupError", .type "Exception", .type "BaseException", .type "object"]
abbrev tlLook : List Value := [.type "LookupError", .type "Exception", .type "BaseException", .type "object"]
/-- own classes, then the built-in ones -/
structure Over (l : List Value) : Prop where
  ex : ∃ cs : List Addr, l = cs.map Value.ref ++ tlKey ∨ l = cs.map Value.ref ++ tlLook
theorem has_of {tl : List Value} (X : String) : ∀ cs : List Addr, (cs.map Value.ref ++ tl).contains (.type X) = tl.contains (.type X)
  | [] => rfl
  | c :: cs => by
    rw [List.map_cons, List.cons_append, List.contains_cons, has_of X cs]
    rfl
theorem pass_of {tl : List Value} (self : Value) (h : refuseLoop self "__setattr__" tl = pure ()) : ∀ cs : List Addr, refuseLoop self "__setattr__" (cs.map Value.ref ++ tl) = pure ()
  | [] => h
  | c :: cs => by
    rw [List.map_cons, List.cons_append, refuseLoop_ref]
    exact pass_of self h cs
theorem pass_key (self : Value) : refuseLoop self "__setattr__" tlKey = pure () := by kernel_rfl
theorem pass_look (self : Value) : refuseLoop self "__setattr__" tlLook = pure () := by kernel_rfl
theorem Over.pass {l : List Value} (o : Over l) (self : Value) : refuseLoop self "__setattr__" l = pure () := by
  obtain ⟨cs, e | e⟩ := o.ex
  · rw [e]
    exact pass_of self (pass_key self) cs
  · rw [e]
    exact pass_of self (pass_look self) cs
theorem Over.same {l : List Value} (o : Over l) {X : String} {b : Bool} (h1 : tlKey.contains (.type X) = b) (h2 : tlLook.contains (.type X) = b) : l.contains (.type X) = b := by
  obtain ⟨cs, e | e⟩ := o.ex
  · rw [e, has_of X cs, h1]
  · rw [e, has_of X cs, h2]
theorem Over.look {l : List Value} (o : Over l) : l.contains (.type "LookupError") = true := o.same (by decide +kernel) (by decide +kernel)
theorem Over.obj {l : List Value} (o : Over l) : l.contains (.type "object") = true := o.same (by decide +kernel) (by decide +kernel)
theorem Over.noA {l : List Value} (o : Over l) : l.contains (.type "AttributeError") = false := o.same (by decide +kernel) (by decide +kernel)
theorem Over.noN {l : List Value} (o : Over l) : l.contains (.type "NameError") = false := o.same (by decide +kernel) (by decide +kernel)
theorem Over.some {l : List Value} (o : Over l) : l.isEmpty = false := by
  obtain ⟨cs, e | e⟩ := o.ex <;> rw [e] <;> cases cs <;> rfl
theorem Over.own {l : List Value} (o : Over l) (C : Addr) : Over (.ref C :: l) := by
  obtain ⟨cs, e | e⟩ := o.ex
  · exact ⟨C :: cs, .inl (by rw [e]; rfl)⟩
  · exact ⟨C :: cs, .inr (by rw [e]; rfl)⟩
section
variable {prog : Program} {w : World} {A : Around} {E : Value → Shared → Prop} {R : Result → Shared → Prop} {h : Heap} {g : Array GenState} {d : Drawn} {t : Nat} {os : OsState}
variable {nm q : Str} {C N : Addr} {bs bm : List Value} {hdct : Bool} {sn : List Str} {sub : List Value} {ab : Bool} {col : Option Bool} {dd : Option Addr} {k0 k1 k2 k3 k5 : Option Value}
abbrev FL := PySem.F.excBase_LookupError
/-- __new__'s argument is looked at -/
theorem look_new {M : Model} (o : Over bm) {rest : List Value} {Q : Unit → Shared → Prop} (hC : h.get? C = some (excClassObj nm q C N bs bm hdct sn sub ab col dd k0 k1 k2 k3 k5 "LookupError.__new__")) (hq : Q () ⟨h, g, d, t, os⟩) :
    wpAny M A (checkBuiltinCall "LookupError.__new__" ⟨.ref C :: rest, []⟩) Q E ⟨h, g, d, t, os⟩ := by
  have inB : (Value.ref C :: bm).contains (.type "LookupError") = true := (o.own C).look
  have star := FL.noStar
  simp only [checkBuiltinCall, FL.newKind, FL.newSplit, FL.newRow]
  repeat (first | refine wpAny_loadPart_at hC ?_ | (refine wpAny_isSubtype_exc hC ?_; rw [inB]) | refine wpAny_staticBase_exc hC ?_ | refine wpAny_madeBy_exc hC ?_ | wp_step | simp only [bne_self_eq_false, Bool.false_eq_true, if_false])
  exact hq
theorem make_new (o : Over bm) {rest : List Value} (hC : h.get? C = some (excClassObj nm q C N bs bm hdct sn sub ab col dd k0 k1 k2 k3 k5 "LookupError.__new__")) (hz : rest.length ≤ sizeLine)
    (hq : R (.ok (.ret (.ref (h.objs.size + 1)))) ⟨(h.push (PySem.W.kdv_tup rest)).push (excO C h.objs.size), g, d, t, os⟩) : codeAny (model prog w) A (.builtin "LookupError.__new__" ⟨.ref C :: rest, []⟩) R ⟨h, g, d, t, os⟩ := by
  have ends := FL.ends
  have inB : (Value.ref C :: bm).contains (.type "LookupError") = true := (o.own C).look
  have noA : (Value.ref C :: bm).contains (.type "AttributeError") = false := (o.own C).noA
  have noN : (Value.ref C :: bm).contains (.type "NameError") = false := (o.own C).noN
  refine codeAny_builtinAt FL.entry ?_
  unfold Builtin.«BaseException.__new__»
  refine _root_.PySem.wpAt_bind ?_
  show _root_.PySem.wpAt _ _ _ (stack >>= _) _ _ _
  refine _root_.PySem.wpAt_bind (_root_.PySem.wpAt_stack fun p below => _root_.PySem.wpAt_of_wpAny ?_)
  wp_walk
  refine _root_.PySem.wpAt_of_wpAny ?_
  rw [FL.owner]
  repeat (first | with_reducible refine wpAny_madeHere_exc FL.canon hC ?_ | with_reducible refine wpAny_loadPart_at hC ?_ | (with_reducible refine wpAny_isSubtype_exc hC ?_; first | rw [inB] | rw [noA] | rw [noN]) | wp_step)
  show R _ _
  rw [Heap.size_push]
  exact hq
theorem made_call (o : Over bm) {rest : List Value} {fI : Addr} {Q : PySem.Fin → Shared → Prop} (hC : h.get? C = some (excClassObj nm q C N bs bm hdct sn sub ab col dd k0 k1 k2 k3 k5 "LookupError.__new__"))
    (hi : Looks (model prog w) h (typeLookup (.ref C) "__init__") (some (.ref fI))) (hb : ∀ self, Looks (model prog w) h (bindSpecial (.ref fI) self) (.ref fI, [self])) (hz : rest.length ≤ sizeLine)
    (hq : codeAny (model prog w) A (.call (.ref fI) ⟨.ref (h.objs.size + 1) :: rest, []⟩) (fun r s' => match r with | .ok (.ret v) => v = .none ∧ Q (.done (.ret (.ref (h.objs.size + 1)))) s' | .ok _ => False | .error e => E e s')
      ⟨(h.push (PySem.W.kdv_tup rest)).push (excO C h.objs.size), g, d, t, os⟩) : wpAny (model prog w) A (Builtin.«type.__call__» ⟨.ref C :: rest, []⟩) Q E ⟨h, g, d, t, os⟩ := by
  repeat (first | with_reducible refine wpAny_loadPart_at hC ?_ | with_reducible refine wpAny_madeBy_exc hC ?_ | wp_step)
  refine codeAny_call_builtin_code (Code.quiet_builtin _ FL.quiet) (look_new o hC (make_new o hC hz ?_))
  show wpAny _ _ _ _ _ _
  have stays : ∀ b ob, h.get? b = some ob → ((h.push (PySem.W.kdv_tup rest)).push (excO C h.objs.size)).get? b = some ob := fun b ob e => Heap.get?_push_of_some _ (Heap.get?_push_of_some _ e)
  have hC1 := stays _ _ hC
  have there : ((h.push (PySem.W.kdv_tup rest)).push (excO C h.objs.size)).get? (h.objs.size + 1) = some (excO C h.objs.size) := by heap_get
  have self_in : (Value.ref C :: bm).contains (.ref C) = true := by simp
  have i1 := hi.keeps stays
  have b1 := (hb (.ref (h.objs.size + 1))).keeps stays
  unfold isInstance
  repeat (first | with_reducible refine wpAny_loadPart_at there ?_ | (with_reducible refine wpAny_isSubtype_exc hC1 ?_; rw [self_in]) | wp_step)
  show wpAny _ _ (typeLookup (.ref C) _) _ _ _
  refine i1.at (wpAny_holding (wpAny_bind (b1.at (wpAny_bind (wpAny_call (codeAny_mono hq fun r s' z => ?_))))))
  rcases r with e | (v | _ | _ | _) <;> first | exact z | exact z.elim | skip
  obtain ⟨rfl, z⟩ := z
  first
  | exact wpAny_pure (wpAny_pure z)
  | (wp_walk; exact z)
/-- C(..): a new exception, then the own __init__ -/
theorem call_exc (o : Over bm) {rest : List Value} {fI : Addr} (hC : h.get? C = some (excClassObj nm q C N bs bm hdct sn sub ab col dd k0 k1 k2 k3 k5 "LookupError.__new__"))
    (hi : Looks (model prog w) h (typeLookup (.ref C) "__init__") (some (.ref fI))) (hb : ∀ self, Looks (model prog w) h (bindSpecial (.ref fI) self) (.ref fI, [self])) (hz : rest.length ≤ sizeLine)
    (hq : codeAny (model prog w) (A.under (.builtin "type.__call__" ⟨.ref C :: rest, []⟩)) (.call (.ref fI) ⟨.ref (h.objs.size + 1) :: rest, []⟩) (PySem.W.InitBack (h.objs.size + 1) R) ⟨(h.push (PySem.W.kdv_tup rest)).push (excO C h.objs.size), g, d, t, os⟩) :
    codeAny (model prog w) A (.call (.ref C) ⟨rest, []⟩) R ⟨h, g, d, t, os⟩ := by
  have f1 := tc_lookup
  have f2 := tc_bind (.ref C)
  have ty : (⟨h, g, d, t, os⟩ : Shared).TypeIs (.ref C) "type" := ⟨_, hC, rfl⟩
  refine codeAny_of_tree ?_
  show wpAny _ _ (callAny (.ref C) _) _ _ _
  repeat (any_goals (first | assumption | with_reducible refine wpAny_loadPart_at hC ?_ | wp_step))
  refine ⟨rfl, codeAny_call_builtin_at (Code.quiet_builtin _ (by decide +kernel)) entry_typeCall (wpAny_check_type_call_sub hC (made_call o hC hi hb hz (codeAny_mono hq fun r s' z => ?_)))⟩
  rcases r with e | (v | _ | _ | _) <;> exact z
end
section
open Builtin Builtin.ObjectAttr
variable {prog : Program} {w : World} {A : Around} {R : Result → Shared → Prop} {hp : Heap} {g : Array GenState} {d : Drawn} {t : Nat} {os : OsState}
/-- the first field of an exception that has no dict yet -/
theorem field_new {K : Frag} {name : Str} {tk : Tok} {v : Value} {x C : Addr} {fv : Array Value} {cd : ClassData} (X : K.In hp) (hx : hp.get? x = some { cls := .ref C, data := .fields fv }) (hcd : clsIn K C = some cd) (o : Over cd.mro) (hh : cd.hasDict = true)
    (ha : findIn K (.ref C) name = some none) (hq : ∀ h' tk' dx, (∀ b ob, b ≠ x → hp.get? b = some ob → h'.get? b = some ob) → hp.objs.size ≤ dx → dx ≠ x → h'.get? x = some { cls := .ref C, dict := some dx, data := .fields fv } →
      h'.Ns1 dx (fun y => if y = name then some v else none) → R (.ok (.ret .none)) ⟨h', g, d, tk', os⟩) : codeAny (model prog w) A (.call (.builtin "object.__setattr__") ⟨[.ref x, .str name tk, v], []⟩) R ⟨hp, g, d, t, os⟩ := by
  have I : InstAt hp x { cls := .ref C, data := .fields fv } C none := ⟨hx, rfl, rfl, trivial⟩
  have S := PySem.F.store_object
  have far : x ≠ hp.objs.size := Nat.ne_of_lt (Heap.lt_size hx)
  have isO : Looks (model prog w) hp (isInstance (.ref x) (.type "object")) true := I.type.andThen (looks_mroIn X (by unfold mroIn; rw [hcd, Option.bind_some, if_neg (by rw [o.some]; decide), o.obj]))
  refine codeAny_call_builtin S.slot.plain S.entry (@check_slot (model prog w) _ _ ⟨hp, g, d, t, os⟩ "object.__setattr__" "object" "__setattr__" (.ref x) [.str name tk, v] [] _ S.kind S.split isO (S.args (.ref x) (.str name tk) v) ?_)
  have mr : Looks (model prog w) hp (mroOf (.ref C)) cd.mro := (looks_clsIn X hcd).andThen .now
  have taker : Looks (model prog w) hp (storeTaker? none) none := .now
  have cl : Looks (model prog w) hp (classData C) cd := looks_clsIn X hcd
  rw [osa_eq, refuse_eq]
  refine wpAny_bind (wpAny_bind (I.type.at (wpAny_bind (mr.at ?_))))
  rw [o.pass]
  refine wpAny_pure (wpAny_bind (I.type.at (wpAny_bind ((looks_findIn X ha).at (wpAny_bind (taker.at ?_))))))
  show wpAny _ _ (storeInOwnDict (.ref x) (.ref C) (.str name tk) name v false) _ _ _
  obtain ⟨nm, bs, mro, ns, qn, hd, sn, sb, ab, col, del⟩ := cd
  dsimp only at hh
  subst hh
  unfold storeInOwnDict ownDictForStores
  repeat (first | with_reducible refine store_in_new ?_ ?_ | with_reducible refine wpAny_loadPart_at hx ?_ | with_reducible refine cl.at ?_ | wp_step)
  · exact ⟨_, #[], _, (Heap.get?_update_ne _ _ _ _ far.symm).trans (Heap.get?_push_at rfl rfl), rfl, fun e he => absurd he (by simp), fun _ => rfl⟩
  · intro h' tk' hn hs
    have hx1 : (hp.push { cls := .type "dict", data := .dict #[] }).get? x = some { cls := .ref C, data := .fields fv } := Heap.get?_push_of_some _ hx
    exact hq h' tk' hp.objs.size (fun b ob hb ho => (hs.2 b (Nat.ne_of_lt (Heap.lt_size ho))).trans ((Heap.get?_update_ne _ _ _ _ hb).trans (Heap.get?_push_of_some _ ho))) (Nat.le_refl _) far.symm ((hs.2 x far).trans (Heap.get?_update_self _ hx1 rfl)) hn
end
end KX
end GX
set_option Elab.async false
set_option linter.all false
set_option maxRecDepth 100000
set_option maxHeartbeats 4000000
/-! KX2: raising an own exception over KeyError or LookupError; methods and o[i] that raise. -/
namespace G
open PySem PySem.Spec PyProof.Rows L2
structure XParts where
  nm : Str
  q : Str
  N : Addr
  bs : List Value
  bm : List Value
  sn : List Str
  sub : List Value
  ab : Bool
  col : Option Bool
  dd : Option Addr
  k0 : Option Value
  k1 : Option Value
  k2 : Option Value
  k3 : Option Value
  k5 : Option Value
def XParts.obj (p : XParts) (C : Addr) : Obj := excClassObj p.nm p.q C p.N p.bs p.bm true p.sn p.sub p.ab p.col p.dd p.k0 p.k1 p.k2 p.k3 p.k5 "LookupError.__new__"
/-- an own class over KeyError or LookupError -/
structure OwnX (K : PySem.W.Frag) (C : Addr) : Prop where
  lk : ∃ p : XParts, K.lookup C = some (p.obj C) ∧ GX.KX.Over p.bm
  st : PySem.W.findIn K (.ref C) "__setattr__" = some (some (.builtin "object.__setattr__"))
  ex : PySem.W.subIn K (.ref C) (.type "BaseException") = some true
  ty : PySem.W.typeIn K (.ref C) = some (.type "type")
  kp : PySem.W.keepIn K (.ref C) = true
section
variable {X : Cx} {pl : List (Addr × Obj)} {ρ : L2.St} {H : Hp} {s : Shared} {a C : Addr} {f : Str} {y : V} {u : Value} {Z : Unit → Shared → Prop} {Y : Value → Shared → Prop} {A : Around}
/-- self.f = y of an exception that has no field yet -/
theorem put_first (T : OwnX X.K C) (J : Inv X pl ρ H s) (e : H a = some (exo a C none)) (no : PySem.W.findIn X.K (.ref C) f = some none) (ry : RelV y u)
    (go : ∀ z s', H z = none → z ≠ a → Inv X pl ρ (upd (upd H z (exd z [(f, y)])) a (exo a C (some z))) s' → Z () s') : wpAny (model X.prog X.w) A (setAttr (.ref a) f u) Z Y s := by
  obtain ⟨p, hC, ov⟩ := T.lk
  have cl : PySem.W.clsIn X.K C = some { name := p.nm, bases := p.bs, mro := .ref C :: p.bm, ns := p.N, qualname := p.q, hasDict := true, slotNames := p.sn, subclasses := p.sub, abstract := p.ab, collection := p.col, hasDel := false } := by
    unfold PySem.W.clsIn
    rw [hC] <;> rfl
  obtain ⟨t0, e0⟩ := exo_at J.hok e
  obtain ⟨h0, gs, dr, tk, oS⟩ := s
  refine PySem.W.set_plain J.kIn (ox := { cls := .ref C, dict := none, data := .fields #[.ref t0, .none, .none, .none, .bool false, .none] }) (od := none) ⟨e0, rfl, rfl, trivial⟩ T.st ?_
  refine GX.KX.field_new J.kIn e0 cl (ov.own C) rfl no (fun h1 tk1 z k zn za e1 en => ?_)
  have hz : H z = none := J.hok.fresh zn
  have away : ∀ {b : Addr} {o : Obj}, h0.get? b = some o → b ≠ z := fun {b o} w => Nat.ne_of_lt (Nat.lt_of_lt_of_le (Heap.lt_size w) zn)
  have nota : ∀ {b : Addr}, H b = none → b ≠ a := fun {b} n w => by
    rw [w, e] at n
    cases n
  have chg : Un X.fs [] H (upd (upd H z (exd z [(f, y)])) a (exo a C (some z))) h0 h1 := {
    keep := fun b o w n _ _ => k b o (nota n) w
    slot := fun b o w n _ _ => ⟨o.slots, k b o (nota n) w⟩
    free := fun b o w n _ => (upd_ne (nota n)).trans ((upd_ne (away w)).trans n)
    there := fun b o w _ => by
      by_cases hb : b = a
      · exact ⟨_, by rw [hb]; exact e1⟩
      · exact ⟨o, k b o hb w⟩
    tups := fun b xs w => (upd_ne (at_ne e w exo_tup)).trans ((upd_ne (ne_of_none w hz)).trans w)
    frzs := fun b o v w => (upd_ne (at_ne e w exo_frz)).trans ((upd_ne (ne_of_none w hz)).trans w)
    tbls := fun b ps w => ⟨#[], by rw [upd_ne (at_ne e w exo_tbl), upd_ne (ne_of_none w hz), w]; simp⟩ }
  refine go z _ hz za (J.un (t' := tk1) chg fun b o w => ?_)
  by_cases hb : b = a
  · rw [hb] at w ⊢
    rw [upd_same] at w
    cases w
    exact exo_ok e1
  · rw [upd_ne hb] at w
    by_cases hd : b = z
    · rw [hd] at w ⊢
      rw [upd_same] at w
      cases w
      exact exd_ok en (relO_put (fs := []) ry fun g => True.intro)
    · rw [upd_ne hd] at w
      refine (J.hok b o w).stay (fun c v hc l => k c v ?_ l) (fun c hc => (upd_ne (at_ne e hc exo_own)).trans ((upd_ne (ne_of_none hc hz)).trans hc)) (fun c xs hc => (upd_ne (at_ne e hc exo_tup)).trans ((upd_ne (ne_of_none hc hz)).trans hc))
      rcases hc with hc | hc
      · rw [hc]
        exact hb
      · exact at_ne e hc exo_own
end
/-- self.f = e, the first field -/
def tOs1 (K : PySem.W.Frag) (f : Str) (to te : TE) : TS := fun D ρ H => te ρ H fun y H1 => to ρ H1 fun x H2 => ∃ a C : Addr, x = .ref a ∧ OwnX K C ∧ PySem.W.findIn K (.ref C) f = some none ∧
  H2 a = some (exo a C none) ∧ ∀ z, H2 z = none → z ≠ a → D.nx ρ (upd (upd H2 z (exd z [(f, y)])) a (exo a C (some z)))
/-- o.m(e, ..) that may raise -/
def tMethX (C : Addr) (m : Str) (sp : Sp) (W : L2.St → XK) (ta : TE) (t : TA) : TE := fun ρ H Q => ta ρ H fun x H1 => ∃ a dx fs, x = .ref a ∧ H1 a = some (.ins C dx fs) ∧ fs.lookup m = none ∧ t ρ H1 fun vs H2 => sp (x :: vs) H2 Q (W ρ)
/-- o[i] that may raise -/
def tGetX (C : Addr) (sp : Sp) (W : L2.St → XK) (ta ti : TE) : TE := fun ρ H Q => ta ρ H fun x H1 => ti ρ H1 fun y H2 => ∃ a dx fs, x = .ref a ∧ H2 a = some (.ins C dx fs) ∧ sp [x, y] H2 Q (W ρ)
section
variable {X : Cx} {o e i : Expr} {es : List Expr} {to te ta ti : TE} {t : TA} {f m : Str} {p p' p1 p2 pos apos : Pos} {CX : CXT} {C g : Addr} {fd : FuncData} {ps : List Str} {n : Nat} {sp : Sp} {W : L2.St → XK}
theorem ps_os1 (ho : PE X o to) (he : PE X e te) (hs : swapsWith e (some (.Attribute o f p')) pos.line X.env = pure false := by rfl) : PS X (.Assign [.Attribute o f p'] e pos) (tOs1 X.K f to te) := by
  refine ⟨fun pl s ρ H D J h => ?_⟩
  refine plainObj_wpAny_Assign_Attribute (thn (he.run pl s ρ H _ J h) fun v s1 ⟨y, H1, J1, r1, q1⟩ => thn (ho.run pl s1 ρ H1 _ J1 q1) fun u s2 ⟨x, H2, J2, r2, a, C, ex, T, no, ea, q⟩ => ?_) hs
  subst ex
  obtain rfl : u = Value.ref a := r2
  exact put_first T J2 ea no r1 fun z s' n ne J' => ⟨ρ, _, J', q z n ne⟩
theorem pe_methX {pl : Sem Bool} (he : PE X o ta) (c : Cls X.K C) (hm : Meth X.K C m g) (F : FnOk X.prog X.w X.K X.mg X.base CX n g fd ps sp) (hr : Room n X.A) (hb : Binds X.K fd ps []) (hx : ∀ ρ, PassesAt CX X ρ (W ρ)) (ha : PA X (e :: es) t)
    (hst : starEach (e :: es) X.env = (false, eval e X.env) :: starEach es X.env := by rfl) (hpl : (backTo pos (starEach es X.env)).any (·.1) = false := by rfl)
    (ht : eval (.Call (.Attribute o m apos) (e :: es) [] pos) X.env = (do
      let ov ← eval o X.env
      standAt apos.atName
      let (f, first) ← holding [ov] (getMethod ov m pl)
      callWith pos f first (backTo pos (starEach (e :: es) X.env)) (backToKw pos (keywordEach [] X.env))) := by rfl) :
    PE X (.Call (.Attribute o m apos) (e :: es) [] pos) (tMethX C m sp W ta t) := by
  refine ⟨fun pins s ρ H Q J h => ?_⟩
  refine PySem.W.methodCall_KW (pl := pl) (thn (he.run pins s ρ H _ J h) fun u s1 ⟨x, H1, J1, rx, a, dx, fs, ex, ea, l, q⟩ => ?_) ht
  subst ex
  obtain rfl : u = Value.ref a := rx
  refine getmeth_ok J1 ea c hm l ?_
  exact PySem.W.callWith_K (first := [.ref a]) (h₀ := X.base) J1.ok.mod.kin hm.kp (thn (ha.run pos pins s1 ρ H1 _ J1 q) fun us s2 ⟨vs, H2, J2, r, q2⟩ => ⟨J2.kIn, run_fnS (us := .ref a :: us) (vs := .ref a :: vs) F hr hb (hx ρ) J2 (.cons rfl r) q2⟩) hst hpl
theorem pe_getX (m : OwnM X.K C "__getitem__" g) (hf : PySem.W.fnIn X.K g = true) (hb : Binds X.K fd ps []) (F : FnOk X.prog X.w X.K X.mg X.base CX n g fd ps sp) (hr : Room (n + 1) X.A) (hx : ∀ ρ, PassesAt CX X ρ (W ρ)) (he : PE X e ta) (hi : PE X i ti)
    (hsl : ∀ (a : Addr) (v : Value), subscripted i true (.ref a) v = runValue (.builtin "lifetime.subscript" ⟨[.ref a, v], []⟩) := by intro _ _; with_unfolding_all rfl) : PE X (.Subscript e i pos) (tGetX C sp W ta ti) := by
  refine ⟨fun pins s ρ H Q J h => ?_⟩
  refine Subscript_ (thn (he.run pins s ρ H _ J h) fun v s1 ⟨x, H1, J1, r1, q1⟩ => thn (hi.run pins s1 ρ H1 _ J1 q1) fun u s2 ⟨y, H2, J2, r2, a, dx, fs, ex, ha, q⟩ => ?_)
  subst ex
  obtain rfl : v = Value.ref a := r1
  obtain ⟨ox, od, I0⟩ := insX_at J2 ha
  obtain ⟨mm, hF⟩ := J2.fr
  refine PySem.W.sub_K hF J2.ok.mod.kin I0 m.at_ hf m.fn ?_ (hsl a u)
  have hl : ([Value.ref a, u] ++ []).length = ps.length := by
    have := F.len _ _ _ _ q
    exact this
  refine wpAny_call (codeAny_mono (F.run X.A.in1 X.stack s2 H2 ⟨[Value.ref a, u], []⟩ ([Value.ref a, u] ++ []) [.ref a, y] _ _ hr.in1 J2.env0.in1 (hb s2 [Value.ref a, u] J2.kIn hl) (.cons rfl (.cons r2 .nil)) q) fun r s' hq => ?_)
  cases r with
  | error e => exact hx ρ pins H2 s2 e s' J2 hq
  | ok fl =>
    cases fl with
    | ret u => exact J2.after hq
    | next => exact False.elim hq
    | brk => exact False.elim hq
    | cont => exact False.elim hq
theorem pmk_own {x : Str} {fI : Addr} {dvs : List V} {ds : List Value} (T : OwnX X.K C) (iC : PySem.W.findIn X.K (.ref C) "__init__" = some (some (.ref fI))) (tI : PySem.W.typeIn X.K (.ref fI) = some (.type "function"))
    (F1 : FnOk X.prog X.w X.K X.mg X.base CX n fI fd ps sp) (hr : Room (n + 1) X.A) (hb : Binds X.K fd ps ds) (hd : Vals dvs ds) (hx : Passes CX X (fun _ _ _ => False)) (hg : Gl X x) (hm : X.mg x = some (.ref C)) (ha : PA X (e :: es) t)
    (hdb : (x == ("__debug__" : Str)) = false := by decide) (he : starEach (e :: es) X.env = (false, eval e X.env) :: starEach es X.env := by rfl) (hpl : (backTo pos (starEach es X.env)).any (·.1) = false := by rfl) :
    PMk X (.Call (.Name x p) (e :: es) [] pos) (tMkO C sp dvs t) := by
  intro pins s ρ H Q J h
  obtain ⟨pt, hC, ov⟩ := T.lk
  refine wpAny_Call_Name_kw (ld_glob J hg hm ?_ hdb)
  refine PySem.W.callWith_K (h₀ := X.base) J.ok.mod.kin T.kp (thn (ha.run pos pins s ρ H _ J h) fun us s1 ⟨vs, H1, J1, r1, hz, q1⟩ => ⟨J1.kIn, ?_⟩) he hpl
  show wpAny _ _ (call (.ref C) us) _ _ _
  obtain ⟨h0, gs, dr, tk, oS⟩ := s1
  have up1 : h0.objs.size ≤ h0.objs.size + 1 := Nat.le_succ _
  have nw : H1 (h0.objs.size + 1) = none := J1.hok.fresh up1
  have go := q1 (h0.objs.size + 1) nw
  have kk : ∀ b w, h0.get? b = some w → ((h0.push (PySem.W.kdv_tup us)).push (PySem.HandSPX.excO C h0.objs.size)).get? b = some w := fun b w e => Heap.get?_push_of_some _ (Heap.get?_push_of_some _ e)
  have at1 : ((h0.push (PySem.W.kdv_tup us)).push (PySem.HandSPX.excO C h0.objs.size)).get? (h0.objs.size + 1) = some (PySem.HandSPX.excO C h0.objs.size) := by heap_get
  have J2 : Inv X pins ρ (upd H1 (h0.objs.size + 1) (exo (h0.objs.size + 1) C none)) ⟨(h0.push (PySem.W.kdv_tup us)).push (PySem.HandSPX.excO C h0.objs.size), gs, dr, tk, oS⟩ :=
    J1.laid (t' := tk) (a := h0.objs.size + 1) (o := exo (h0.objs.size + 1) C none) (h' := (h0.push (PySem.W.kdv_tup us)).push (PySem.HandSPX.excO C h0.objs.size)) kk up1 (exo_ok at1)
  have r2 : Vals (V.ref (h0.objs.size + 1) :: (vs ++ dvs)) (Value.ref (h0.objs.size + 1) :: (us ++ ds)) := .cons rfl (r1.append hd)
  have hl : (Value.ref (h0.objs.size + 1) :: us ++ ds).length = ps.length := by
    have e := r2.length
    rw [F1.len _ _ _ _ go] at e
    exact e.symm
  have few : us.length ≤ sizeLine := by
    have := Paired.length r1
    rw [sizeLine_eq]
    omega
  refine wpAny_call (GX.KX.call_exc ov (J1.kIn _ _ hC) (PySem.W.looks_findIn J1.kIn iC) (fun self => PySem.W.bind_fn J1.kIn self tI) few
    (codeAny_mono (F1.run _ X.stack _ _ ⟨Value.ref (h0.objs.size + 1) :: us, []⟩ (Value.ref (h0.objs.size + 1) :: (us ++ ds)) _ _ (fun _ _ _ => False) (hr.make C us []) (J2.env0.make C us []) (hb _ (Value.ref (h0.objs.size + 1) :: us) J2.kIn hl) r2 go) fun r s' z => ?_))
  cases r with
  | error er => exact hx pins ρ _ _ er s' J2 z
  | ok fl =>
    cases fl with
    | ret w =>
      obtain ⟨v, H2, os2, b2, un2, ok2, rv, ev, d, fs, ea, ed, hd1, q2⟩ := z
      subst ev
      obtain ⟨h2, g2, d2, t2, os'⟩ := s'
      exact ⟨rv, mk_end (raises_own T.ex T.ty) J1 up1 kk un2 ok2 os2 b2 ea ed hd1 q2⟩
    | next => exact False.elim z
    | brk => exact False.elim z
    | cont => exact False.elim z
end
end G
set_option Elab.async false
set_option linter.all false
set_option maxRecDepth 100000
set_option maxHeartbeats 4000000
/-! OD: things that are no name of a list of texts: x in l, x not in l. -/
namespace G
open PySem PySem.Spec PyProof.Rows L2 PySem.SeqAt
section
variable {A : Around} {s : Shared}
theorem dict_no_str (l : Addr) (es : Array DictEntry) (n : Nat) (dd : Option Addr) (sl : Array (Option Value)) (b : Str) (u : Tok) :
    Meets (Builtin.«dict.__eq__» ⟨[.ref l, .str b u], []⟩) (fun _ R s => s.heap.get? l = some { cls := .type "dict", dict := dd, data := .dict es n, slots := sl } ∧ R (.ok (.ret .notImplemented)) s) :=
  .of_wp fun prog w A R s h => by
    obtain ⟨hp, g, d, tk, os⟩ := s
    obtain ⟨hl, h⟩ := h
    have f1 := F.sub_str_dict
    wp_walk using wpAny_loadPart' hl
    exact ⟨_, rfl, h⟩
theorem str_no_dict (l : Addr) (es : Array DictEntry) (n : Nat) (dd : Option Addr) (sl : Array (Option Value)) (b : Str) (u : Tok) :
    Meets (Builtin.«str.__eq__» ⟨[.str b u, .ref l], []⟩) (fun _ R s => s.heap.get? l = some { cls := .type "dict", dict := dd, data := .dict es n, slots := sl } ∧ R (.ok (.ret .notImplemented)) s) :=
  .of_wp fun prog w A R s h => by
    obtain ⟨hp, g, d, tk, os⟩ := s
    obtain ⟨hl, h⟩ := h
    wp_walk using wpAny_loadPart' hl, wpAny_load hl
    exact ⟨_, rfl, h⟩
theorem eq_str_dict {l : Addr} {o : Obj} {es : Array DictEntry} {n : Nat} (b : Str) (u : Tok) (ho : s.heap.get? l = some o) (hc : o.cls = .type "dict") (hd : o.data = .dict es n) (hu : A.units < cLine) : EqAt A s (.str b u) (.ref l) false := fun prog w E Q h => by
  obtain ⟨cls, dd, data, sl⟩ := o
  simp only at hc hd
  subst hc hd
  unfold eqBool
  refine wpAny_holding ?_
  refine wpAny_ite_split (fun hab => absurd (eq_of_beq hab) nofun) (fun _ => ?_)
  refine wpAny_bind (rc_eq_decline_or (k := false) (typeIs_str s b u) ⟨_, ho, rfl⟩ (by decide) F.sub_dict_str F.slot_str_eq F.slot_dict_eq_refl ?_ ?_ ?_ (.inr hu) (wpAny_truthy_bool h))
  · exact fun _ hq => call_meets F.slot_str_eq (typeIs_str s b u) F.entry_str_eq (F.args_str_eq_2 _ _) (str_no_dict l es n dd sl b u) ⟨ho, hq⟩
  · exact fun _ hq => call_meets F.slot_dict_eq_refl ⟨_, ho, rfl⟩ F.entry_dict_eq (F.args_dict_eq_2 _ _) (dict_no_str l es n dd sl b u) ⟨ho, hq⟩
  · exact fun _ hq => wpAny_of_eq (rfl : isSame (.str b u) (.ref l) = pure false) hq
end
/-- a thing that is none of these texts -/
inductive NoTx (H : Hp) (zs : List Str) : V → Prop where
  | non : NoTx H zs .non
  | int (i : Int) : NoTx H zs (.int i)
  | bl (b : Bool) : NoTx H zs (.bl b)
  | str {z : Str} : z ∉ zs → NoTx H zs (.str z)
  | lst {a : Addr} {xs : List V} : H a = some (.lst xs) → NoTx H zs (.ref a)
  | tup {a : Addr} {xs : List V} : H a = some (.tup xs) → NoTx H zs (.ref a)
  | dic {a : Addr} {kvs : List (Key × V)} : H a = some (.dK kvs) → NoTx H zs (.ref a)
theorem NoTx.same {H H' : Hp} {zs : List Str} {v : V} (h : NoTx H zs v) (s : Same H H') : NoTx H' zs v := by
  cases h with
  | non => exact .non
  | int i => exact .int i
  | bl b => exact .bl b
  | str n => exact .str n
  | lst e => exact .lst (s _ _ e)
  | tup e => exact .tup (s _ _ e)
  | dic e => exact .dic (s _ _ e)
section
variable {X : Cx}
theorem notx_eq {pins : List (Addr × Obj)} {σ : L2.St} {H : Hp} {s : Shared} {A : Around} (I : Inv X pins σ H s) (hu : A.units < cLine) {x : V} {v : Value} {zs : List Str} (n : NoTx H zs x) (rx : RelV x v) {us : List Value} (r : Vals (zs.map V.str) us) : ∀ u ∈ us, EqAt A s u v false := by
  have each : ∀ (ys : List Str) (ws : List Value), (∀ y ∈ ys, y ∈ zs) → Vals (ys.map V.str) ws → ∀ u ∈ ws, EqAt A s u v false := by
    intro ys
    induction ys with
    | nil =>
      intro ws _ r u hu
      cases r
      cases hu
    | cons y ys ih =>
      intro ws hin r u hw
      cases r with
      | cons r1 r2 =>
        rename_i w1 w2
        rcases List.mem_cons.mp hw with rfl | hw
        · obtain ⟨t, rfl⟩ := r1
          cases n with
          | non =>
            cases (show v = Value.none from rx)
            exact EqAt.str_none y t
          | int i =>
            obtain ⟨t2, rfl⟩ := (show ∃ t, v = Value.int i t from rx)
            exact EqAt.str_int y t i t2
          | bl b =>
            cases (show v = Value.bool b from rx)
            exact EqAt.str_bool y t b
          | @str z hn =>
            obtain ⟨t2, rfl⟩ := (show ∃ t, v = Value.str z t from rx)
            have e : (y == z) = false := by
              rw [str_beq]
              refine decide_eq_false fun q => hn (q ▸ hin y List.mem_cons_self)
            rw [← e]
            exact EqAt.str_str y t z t2
          | lst e =>
            cases (show v = Value.ref _ from rx)
            obtain ⟨_, _, p, _⟩ := I.list (.of e)
            exact EqAt.str_list y t p.isList hu
          | tup e =>
            cases (show v = Value.ref _ from rx)
            obtain ⟨_, _, p, _⟩ := I.tuple (.of e)
            exact EqAt.str_tuple y t p hu
          | dic e =>
            cases (show v = Value.ref _ from rx)
            obtain ⟨_, _, vs, _, o, es, ep, e1, e2, e3, _⟩ := I.hok _ _ e
            exact eq_str_dict y t e1 e2.1 e3 hu
        · exact ih w2 (fun y hy => hin y (List.mem_cons_of_mem _ hy)) r2 u hw
  exact each zs us (fun y h => h) r
def rNoIn (K : PySem.W.Frag) (b : Bool) : R2 := fun x y H Q => ∃ p zs, y = .ref p ∧ SqL K H p (zs.map V.str) ∧ NoTx H zs x ∧ Q (.bl b) H
theorem any_no {us : List Value} : us.toArray.any (fun _ => false) = false := by
  simp
theorem op_noIn (hu : X.A.units + 1 < cLine) : OpR X (compareOp .In) (rNoIn X.K false) := by
  intro pins s σ H x y v u Q I rx ry h
  obtain ⟨p, zs, rfl, hl, n, q⟩ := h
  cases ry
  obtain ⟨its, r, pl, _⟩ := I.list hl
  refine SeqAt.in_listAt (fun _ => false) pl.isList (fun w hw => notx_eq I (A := X.A.in1) (show X.A.units + 1 < cLine from hu) n rx r w (by simpa using hw)) ⟨.bl _, H, I, rfl, ?_⟩
  rw [any_no]
  exact q
theorem op_noNotIn (hu : X.A.units + 1 < cLine) : OpR X (compareOp .NotIn) (rNoIn X.K true) := by
  intro pins s σ H x y v u Q I rx ry h
  obtain ⟨p, zs, rfl, hl, n, q⟩ := h
  cases ry
  obtain ⟨its, r, pl, _⟩ := I.list hl
  refine SeqAt.notIn_listAt (fun _ => false) pl.isList (fun w hw => notx_eq I (A := X.A.in1) (show X.A.units + 1 < cLine from hu) n rx r w (by simpa using hw)) ⟨.bl _, H, I, rfl, ?_⟩
  rw [any_no]
  exact q
end
end G
set_option Elab.async false
set_option linter.all false
set_option maxRecDepth 100000
set_option maxHeartbeats 4000000
/-! LR: UnknownKey raised by place and o[i]; _law_unknown. -/
namespace G
open PySem PySem.Spec PyProof.Rows L2 NdefX
abbrev sUK : Stmt := inClass (topS 8) 0
theorem scUK : FnScope ["self", "key"] ["self", "key"] (defScope sUK) := ⟨rfl, rfl, rfl, by decide +kernel, rfl, by decide +kernel, by decide +kernel⟩
abbrev sUnk : Stmt := topS 36
abbrev nUnk : List Str := ["_law_records", "_law_thing", "_law_found", "_law_door", "e"]
theorem scUnk : FnScope nUnk ["_law_records", "_law_thing"] (defScope sUnk) := ⟨rfl, rfl, rfl, by decide +kernel, rfl, by decide +kernel, by decide +kernel⟩
def spInitK (CX : Addr) : Sp := fun vs H Q _ => ∃ (a : Addr) (v : V), vs = [.ref a, v] ∧ H a = some (exo a CX none) ∧ ∀ dx, H dx = none → dx ≠ a → Q .non (upd (upd H dx (exd dx [("key", v)])) a (exo a CX (some dx)))
/-- asked for what is no key -/
def spRcX1 (C CX : Addr) : Sp := fun vs H Q E => ∃ (a : Addr) (v : V) (ps : List Pr), vs = [.ref a, v] ∧ RecAt C H a ps ∧ NoTx H (nmsOf ps) v ∧ ∀ (dd : Addr) (H' : Hp), Same H H' → H' dd = some (.xd [("key", v)]) → E (.ref CX) (some dd) H'
/-! ### a list whose place is known not to be that of sys.modules; repr of two such lists -/
def tLstN (t : TA) : TE := fun σ H Q => t σ H fun xs H1 => xs.length ≤ sizeLine ∧ ∀ p, H1 p = none → p ≠ sysModules → Q (.ref p) (upd H1 p (.lst xs))
structure ShOk (d : PyData) : Prop where
  sh : d.showable = true
  dc : d.hasDict = true → okS d = true
  dp : d.depth ≤ 4
  ms : mass d ≤ 2000
def rReprP (K : PySem.W.Frag) : List V → Hp → VK → Prop := fun vs H Q => ∃ (a p q : Addr) (x : V) (d : PyData), vs = [.ref a] ∧ H a = some (.lst [.ref p, .ref q]) ∧ H p = some (.lst [.str "unknown", x]) ∧ H q = some (.lst [.str "unknown", x]) ∧
  p ≠ sysModules ∧ q ≠ sysModules ∧ Rp K H x d ∧ ShOk d ∧ Q (.str (listText (PyData.shownAll [.list [.str "unknown", d], .list [.str "unknown", d]]))) H
section
variable {X : Cx} {es : List Expr} {t : TA} {pos : Pos}
theorem pe_lstN (h : PA X es t) : PE X (.List es pos) (tLstN t) := by
  refine ⟨fun pins s σ H Q I hq => ?_⟩
  refine wpAny_List_spliced (thn (h.run pos pins s σ H _ I hq) fun us s1 ⟨xs, H1, I1, r, z, q⟩ => ⟨r.length ▸ z, ?_⟩)
  have fr : H1 s1.heap.objs.size = none := I1.hok.fresh (Nat.le_refl _)
  exact ⟨.ref s1.heap.objs.size, upd H1 s1.heap.objs.size (.lst xs), I1.laid (t' := s1.toks) (fun b u e => Heap.get?_push_of_some _ e) (Nat.le_refl _) ⟨z, us, 0, r, Heap.get?_push_size _ rfl⟩, rfl, q _ fr (Nat.ne_of_gt I1.big)⟩
theorem pair_reads {pins : List (Addr × Obj)} {σ : L2.St} {H : Hp} {s : Shared} (I : Inv X pins σ H s) {p : Addr} {x : V} {d : PyData} (hp : H p = some (.lst [.str "unknown", x])) (np : p ≠ sysModules) (r : Rp X.K H x d) (k : ShOk d) :
    ∃ as, Reads s.heap (.ref p) (.list [.str "unknown", d]) as ∧ (d.hasDict = true → sysModules ∉ as) := by
  obtain ⟨its, rv, ⟨o, n, ho, hc, _, hd⟩, _⟩ := I.list (.of hp)
  cases rv with
  | cons r1 rv =>
    cases rv with
    | cons r2 rv =>
      cases rv
      obtain ⟨tk, rfl⟩ := r1
      obtain ⟨as, q1, z1⟩ := rp_reads I d _ _ r r2
      refine ⟨_, Reads.list ho hc hd (ReadsAll.cons (Reads.str _ _) (ReadsAll.cons q1 ReadsAll.nil)), fun z hm => ?_⟩
      have := z1 (k.dc z)
      simp at hm
      rcases hm with hm | hm
      · exact np hm.symm
      · exact this hm
theorem call_reprP (hg : X.A.guards = some []) (hu : X.A.units + 64 < cLine) : CallR X (.builtin "repr") (rReprP X.K) := by
  intro pins s σ H xs us Q I r h
  obtain ⟨a, p, q, x, d, rfl, ha, hp, hq, np, nq, hr, k, go⟩ := h
  obtain rfl := Vals.ref1 r
  obtain ⟨its, rv, ⟨o, n, ho, hc, _, hdt⟩, _⟩ := I.list (.of ha)
  cases rv with
  | cons r1 rv =>
    cases rv with
    | cons r2 rv =>
      cases rv
      cases r1
      cases r2
      obtain ⟨as, q1, z1⟩ := pair_reads I hp np hr k
      obtain ⟨bs, q2, z2⟩ := pair_reads I hq nq hr k
      have e7 : (reprText "unknown").length ≤ 20 := by decide +kernel
      have hs : PyData.showableAll [.list [.str "unknown", d], .list [.str "unknown", d]] = true := by
        have e1 : PyData.showable (.str "unknown") = true := by decide +kernel
        simp only [PyData.showableAll, PyData.showable, k.sh] at e1 ⊢
        simp [e1]
      have hdp : (PyData.list [.list [.str "unknown", d], .list [.str "unknown", d]]).depth + 1 ≤ 20 := by
        have := k.dp
        simp only [PyData.depth, PyData.depthAll]
        omega
      have hms : massAll [.list [.str "unknown", d], .list [.str "unknown", d]] ≤ 5000 := by
        have := k.ms
        simp only [massAll, mass]
        omega
      have hz := Nat.le_trans (list_text_le (PyData.shownAll [.list [.str "unknown", d], .list [.str "unknown", d]])) (Nat.le_trans (Nat.add_le_add_left (shown_all_le _ hs) 3) (show 3 + massAll [.list [.str "unknown", d], .list [.str "unknown", d]] ≤ sizeLine by rw [sizeLine_eq]; omega))
      refine repr_top ho hc hdt (ReadsAll.cons q1 (ReadsAll.cons q2 ReadsAll.nil)) hs (fun z hm => ?_) hg (by omega) hz fun h' u tk k => ⟨.str _, H, I.kept k, ⟨u, rfl⟩, go⟩
      have zd : d.hasDict = true := by
        cases e : d.hasDict with
        | true => rfl
        | false =>
          simp [PyData.hasDictAll, PyData.hasDict, e] at z
      have n1 := z1 zd
      have n2 := z2 zd
      simp at hm
      rcases hm with hm | hm
      · exact n1 hm
      · exact n2 hm
end
def tsUnk (K : PySem.W.Frag) (CX : Addr) (a : Addr) (cls : Value) (d : Option Addr) : TS := tDrop (tBM K "list" rAppend (tVar 2) (tCons (tLstN (tCons (tC (.str "unknown")) (tCons (tXf a cls d CX "key" (tVar 4)) tNil))) tNil))
def tbUnk (K : PySem.W.Frag) (C CX : Addr) (W : WX) : TS := tDrop (tBM K "list" rAppend (tVar 2) (tCons (tIf (tTest (tOp rEq (tVar 3) (tC (.int 0)))) (tGetX C (spRcX1 C CX) (WE W) (tVar 0) (tVar 1)) (tMethX C "place" (spRcX1 C CX) (WE W) (tVar 0) (tCons (tVar 1) tNil))) tNil))
theorem unk_tail {K : PySem.W.Frag} {CX a dd Dl : Addr} {D : Ends} {v : V} {x3 : Option V} {qs : List Addr} {H2 : Hp} (eC : PySem.W.exmOne K (.ref CX) (.ref CX) = some true) (e2 : H2 Dl = some (.lst (qs.map V.ref))) (l : qs.length ≤ 900) (hd : H2 dd = some (.xd [("key", v)]))
    (nx : ∀ p H3, H2 p = none → p ≠ sysModules → But Dl H2 H3 → H3 p = some (.lst [.str "unknown", v]) → H3 Dl = some (.lst ((qs ++ [p]).map V.ref)) → D.nx [some (.ref a), some v, some (.ref Dl), x3, none] H3) :
    wFirst K (.ref CX) 4 (tsUnk K CX) D (.ref CX) (some dd) [some (.ref a), some v, some (.ref Dl), x3, none] H2 := by
  refine ⟨eC, fun x hx => ?_⟩
  refine ⟨_, rfl, .inl ⟨rfl, _, .of e2⟩, _, rfl, rfl, rfl, dd, _, v, rfl, hd, by simp [List.lookup], (by show 2 ≤ sizeLine; decide), fun p hp np => ?_⟩
  have nDp : Dl ≠ p := ne_of_none e2 hp
  refine ⟨Dl, _, _, rfl, rfl, (upd_ne nDp).trans e2, ?_, ?_⟩
  · rw [List.length_map]
    exact small1000 (by omega)
  · refine nx p _ hp np (fun c o n e => ?_) ?_ ?_
    · rw [upd_ne n, upd_ne (ne_of_none e hp)]
      exact e
    · rw [upd_ne nDp.symm, upd_same]
    · rw [upd_same, List.map_append]
      rfl
def spUnk (K : PySem.W.Frag) (C : Addr) : Sp := fun vs H Q _ => ∃ (a : Addr) (v : V) (ps : List Pr) (d : PyData), vs = [.ref a, v] ∧ RecAt C H a ps ∧ NoTx H (nmsOf ps) v ∧ Rp K H v d ∧ ShOk d ∧ ∀ H', Same H H' → Q (.bl true) H'
section
variable {P : Program} {w : World} {K : PySem.W.Frag} {mg : Str → Option Value} {base : Heap} {f C CX : Addr} {fd : FuncData}
theorem ok_uk (F : Fun K "__init__" "UnknownKey.__init__" sUK f fd) (T : OwnX K CX) (nk : PySem.W.findIn K (.ref CX) "key" = some none) : FnOk P w K mg base CX0 1 f fd ["self", "key"] (spInitK CX) := by
  refine F.ok scUK (fun vs H Q E h => ?_) (fun cdv A outer s H vs Q E hr h => ?_)
  · obtain ⟨a, v, rfl, _⟩ := h
    rfl
  · obtain ⟨a, v, rfl, ha, q⟩ := h
    exact ⟨_, pss_one (ps_os1 (pv 0) (pv 1)), _, rfl, _, rfl, a, CX, rfl, T, nk, ha, fun dx h1 h2 => q dx h1 h2⟩
theorem ok_placeX {fX : Addr} {fdX : FuncData} (F : Fun K "place" "Records.place" (sRc 3) f fd) (c : RcC K C) (T : OwnX K CX) (gX : mg "UnknownKey" = some (.ref CX)) (iX : PySem.W.findIn K (.ref CX) "__init__" = some (some (.ref fX))) (tX : PySem.W.typeIn K (.ref fX) = some (.type "function")) (bX : Binds K fdX ["self", "key"] [])
    (GX : FnOk P w K mg base CX0 1 fX fdX ["self", "key"] (spInitK CX)) : FnOk P w K mg base (L2.CX P w) 3 f fd ["self", "key"] (spRcX1 C CX) := by
  refine F.okX scRcL (fun vs H Q E h => ?_) (fun cdv A outer s H vs Q E hr h => ?_)
  · obtain ⟨a, v, ps, rfl, _⟩ := h
    rfl
  · obtain ⟨a, v, ps, rfl, ⟨dx, l, n, ts, ha, hl, al, hn⟩, nt, q⟩ := h
    have hu : (A.deeper (envOfC "Records.place" (defScope (sRc 3)) s.heap.objs.size f cdv)).units + 1 < cLine := by have := hr.units; omega
    refine ⟨_, pss_cons (ps_if (pt_cmpR (op_noNotIn hu) (pv 1) (pe_fld (pv 0) rfl) (by rfl)) (pss_one (ps_raise rfl (takes_of rfl rfl rfl rfl) (pmk_own T iX tX GX hr bX .nil pass0 rfl gX (pa_cons (pv 1) pa_nil)))) pss_nil) (pss_one ps_never), ?_⟩
    refine ⟨_, rfl, _, rfl, a, C, dx, _, _, rfl, ha, c.cl, c.n2, rfl, n, _, rfl, .of hn, nt, _, rfl, iteT ?_⟩
    refine ⟨_, rfl, (by show 1 ≤ 1000; decide), fun b hb => ?_⟩
    refine ⟨b, v, rfl, upd_same, fun dz h1 h2 => ⟨rfl, dz, [("key", v)], upd_same, ?_, ?_, ?_⟩⟩
    · rw [upd_ne h2, upd_same]
    · rw [upd_ne h2] at h1
      exact h1
    · rw [upd_ne h2] at h1
      refine q dz _ (fun c o e' => ?_) upd_same
      rw [upd_ne (ne_of_none e' h1), del_ne (ne_of_none e' hb), upd_ne (ne_of_none e' hb), upd_ne (ne_of_none e' h1), upd_ne (ne_of_none e' hb)]
      exact e'
theorem ok_getX {fL : Addr} {fdL : FuncData} (F : Fun K "__getitem__" "Records.__getitem__" (sRc 4) f fd) (c : RcC K C) (mL : Meth K C "place" fL) (bL : Binds K fdL ["self", "key"] []) (GL : FnOk P w K mg base (L2.CX P w) 3 fL fdL ["self", "key"] (spRcX1 C CX)) :
    FnOk P w K mg base (L2.CX P w) 4 f fd ["self", "key"] (spRcX1 C CX) := by
  refine F.okX scRcG (fun vs H Q E h => ?_) (fun cdv A outer s H vs Q E hr h => ?_)
  · obtain ⟨a, v, ps, rfl, _⟩ := h
    rfl
  · obtain ⟨a, v, ps, rfl, hR, nt, q⟩ := h
    obtain ⟨dx, l, n, ts, ha, hl, al, hn⟩ := id hR
    refine ⟨_, pss_cons (ps_set (i := 2) scRcG.nd rfl (.inl rfl) (pe_methX (pv 0) c.cl mL GL hr bL (fun σ => passAt (takes_of rfl rfl rfl rfl) σ) (pa_cons (pv 1) pa_nil))) (pss_one ps_never), ?_⟩
    exact ⟨_, rfl, a, dx, _, rfl, ha, rfl, _, rfl, a, v, ps, rfl, hR, nt, q⟩
theorem ok_unk {fG fL : Addr} {fdG fdL : FuncData} (F : Fun K "_law_unknown" "_law_unknown" sUnk f fd) (c : RcC K C) (mL : Meth K C "place" fL) (bL : Binds K fdL ["self", "key"] []) (GL : FnOk P w K mg base (L2.CX P w) 3 fL fdL ["self", "key"] (spRcX1 C CX))
    (mG : OwnM K C "__getitem__" fG) (iG : PySem.W.fnIn K fG = true) (bG : Binds K fdG ["self", "key"] []) (GG : FnOk P w K mg base (L2.CX P w) 4 fG fdG ["self", "key"] (spRcX1 C CX))
    (gX : mg "UnknownKey" = some (.ref CX)) (XT : XfC K CX) (nk : PySem.W.findIn K (.ref CX) "key" = some none) (eC : PySem.W.exmOne K (.ref CX) (.ref CX) = some true) (mr : mg "range" = none) (mp : mg "repr" = none) :
    FnG P w K mg base CX0 6 f fd ["_law_records", "_law_thing"] (spUnk K C) := by
  refine FnG.of_body F scUnk (fun vs H Q E h => ?_) (fun cdv A outer s H vs Q E hg hr h => ?_)
  · obtain ⟨a, v, ps, d, rfl, _⟩ := h
    rfl
  · obtain ⟨a, v, ps, d, rfl, hR, nt, hd, k, q⟩ := h
    obtain ⟨dx, l, n, ts, ha, hl, al, hn⟩ := id hR
    have hr3 := hr.mono (show 3 ≤ 5 by decide)
    refine ⟨_, pss_cons (ps_set (i := 2) scUnk.nd rfl (.inl rfl) (pe_lst pa_nil))
      (pss_cons (ps_for PassesOwn.never rfl (pi_range1 rfl mr (pa_cons pe_int pa_nil)) (pg_name (i := 3) scUnk.nd rfl (.inl rfl))
        (pss_one (ps_try_first (i := 4) (tb := tbUnk K C CX) (ts := tsUnk K CX) rfl rfl scUnk.nd rfl rfl ⟨rfl, by decide, .inl gX⟩
          (fun W pn xe tk _ => pss_one (ps_expr (pe_bm PySem.F.plainAttrs_list PySem.F.slot_list_append PySem.F.type_list_append mt_append (pv 2) (pa_cons (pe_ifExp (pt_cmpR op_eq (pv 3) pe_int (nomark _))
            (pe_getX mG iG bG GG hr (fun σ => passAt tk σ) (pv 0) (pv 1)) (by exact (pe_methX (pv 0) c.cl mL GL hr3 bL (fun σ => passAt tk σ) (pa_cons (pv 1) pa_nil)))) pa_nil))))
          (fun a oe cls d pn hz hf => pss_one (ps_expr (pe_bm PySem.F.plainAttrs_list PySem.F.slot_list_append PySem.F.type_list_append mt_append (pv 2) (pa_cons (pe_lstN (pa_cons pe_str (pa_cons (pe_xf XT nk hz hf (pv 4)) pa_nil))) pa_nil)))))))
      (pss_one (ps_ret (pe_cmpR op_eq (pe_callB (call_reprP hg hr.units) (by rfl) mp (by decide +kernel) (pa_cons (pv 2) pa_nil))
        (pe_callB (call_reprP hg hr.units) (by rfl) mp (by decide +kernel) (pa_cons (pe_op op_rep (pe_lst (pa_cons (pe_lstN (pa_cons pe_str (pa_cons (pv 1) pa_nil))) pa_nil)) pe_int) pa_nil)) (nomark _))))), ?_⟩
    refine ⟨by decide, fun Dl hDl => ?_⟩
    refine ⟨2, rfl, by decide, by decide, ?_⟩
    refine for_range (lo := 0) (n := 2) (g := gName 3) (tb := fun D σ H => tbUnk K C CX (wFirst K (.ref CX) 4 (tsUnk K CX) D) D σ H) (fun i σ H1 => Same H H1 ∧ ∃ (x3 : Option V) (qs : List Addr), σ = [some (.ref a), some v, some (.ref Dl), x3, none] ∧ H1 Dl = some (.lst (qs.map V.ref)) ∧ qs.length = i ∧ ∀ p ∈ qs, H1 p = some (.lst [.str "unknown", v]) ∧ p ≠ sysModules ∧ p ≠ Dl) ?_ ?_ ?_
    · exact ⟨Same.new hDl, none, [], rfl, upd_same, rfl, fun p hp => nomatch hp⟩
    · rintro i σ H1 hi ⟨s1, x3, qs, rfl, e1, l1, all⟩
      refine ⟨_, rfl, .inl ⟨rfl, _, .of e1⟩, _, rfl, rfl, _, rfl, ?_⟩
      have fin : ∀ (dd : Addr) (H2 : Hp), Same H1 H2 → H2 dd = some (.xd [("key", v)]) → ∀ (p : Addr) (H3 : Hp), H2 p = none → p ≠ sysModules → But Dl H2 H3 → H3 p = some (.lst [.str "unknown", v]) → H3 Dl = some (.lst ((qs ++ [p]).map V.ref)) →
          Same H H3 ∧ ∃ (x3 : Option V) (rs : List Addr), [some (.ref a), some v, some (.ref Dl), some (.int (0 + (i : Nat))), none] = [some (.ref a), some v, some (.ref Dl), x3, none] ∧ H3 Dl = some (.lst (rs.map V.ref)) ∧ rs.length = i + 1 ∧ ∀ p ∈ rs, H3 p = some (.lst [.str "unknown", v]) ∧ p ≠ sysModules ∧ p ≠ Dl := by
        intro dd H2 s2 hdd p H3 hp np k3 ep eD
        have s12 := s1.trans s2
        refine ⟨fun c o e => k3 c o (ne_of_none e hDl) (s12 _ _ e), _, qs ++ [p], rfl, eD, by rw [List.length_append, l1]; rfl, fun r hr' => ?_⟩
        rcases List.mem_append.mp hr' with hr' | hr'
        · obtain ⟨z1, z2, z3⟩ := all r hr'
          exact ⟨k3 _ _ z3 (s2 _ _ z1), z2, z3⟩
        · rw [List.mem_singleton.mp hr']
          exact ⟨ep, np, (ne_of_none (s2 _ _ e1) hp).symm⟩
      have l2 : qs.length ≤ 900 := by omega
      by_cases z : (0 + (i : Int)) = 0
      · rw [show decide (V.int (0 + (i : Nat)) = V.int 0) = true from decide_eq_true (congrArg V.int z)]
        exact iteT ⟨_, rfl, _, rfl, a, dx, _, rfl, s1 _ _ ha, a, v, ps, rfl, hR.same s1, nt.same s1, fun dd H2 s2 hdd => unk_tail eC (s2 _ _ e1) l2 hdd (fin dd H2 s2 hdd)⟩
      · rw [show decide (V.int (0 + (i : Nat)) = V.int 0) = false from decide_eq_false fun y => z (V.int.inj y)]
        exact iteF ⟨_, rfl, a, dx, _, rfl, s1 _ _ ha, rfl, _, rfl, a, v, ps, rfl, hR.same s1, nt.same s1, fun dd H2 s2 hdd => unk_tail eC (s2 _ _ e1) l2 hdd (fin dd H2 s2 hdd)⟩
    · rintro σ H1 ⟨s1, x3, qs, rfl, e1, l1, all⟩
      match qs, l1 with
      | [p1, p2], _ =>
        obtain ⟨a1, a2, a3⟩ := all p1 List.mem_cons_self
        obtain ⟨b1, b2, b3⟩ := all p2 (List.mem_cons_of_mem _ List.mem_cons_self)
        have hd1 : Rp K H1 v d := rp_same s1 _ _ hd
        refine ⟨_, rfl, Dl, p1, p2, v, d, rfl, e1, a1, b1, a2, b2, hd1, k, ?_⟩
        refine ⟨_, rfl, (by show 2 ≤ sizeLine; decide), fun p hp np => ⟨(by show 1 ≤ sizeLine; decide), fun m hm => ?_⟩⟩
        have t1 := Same.new (o := .lst [.str "unknown", v]) hp
        have t2 := t1.trans (Same.new (o := .lst [.ref p]) hm)
        refine ⟨m, 2, _, rfl, rfl, upd_same, by decide, by decide, (by show 1 * 2 ≤ sizeLine; decide), fun m2 hm2 => ?_⟩
        have t3 := t2.trans (Same.new (o := .lst (List.replicate (2 : Int).toNat [V.ref p]).flatten) hm2)
        have ep := (Same.new (o := .lst (List.replicate (2 : Int).toNat [V.ref p]).flatten) hm2) _ _ ((Same.new (o := .lst [.ref p]) hm) _ _ (upd_same (H := H1) (a := p) (o := .lst [.str "unknown", v])))
        refine ⟨m2, p, p, v, d, rfl, upd_same, ep, ep, np, np, rp_same t3 _ _ hd1, k, rfl, ?_⟩
        rw [decide_eq_true rfl]
        exact q _ (s1.trans t3)
end
end G
set_option Elab.async false
set_option linter.all false
set_option maxRecDepth 100000
set_option maxHeartbeats 4000000
/-! LT: _law_told. -/
namespace G
open PySem PySem.Spec PyProof.Rows L2 NdefX
abbrev sTold : Stmt := topS 37
abbrev nTold : List Str := ["_law_records", "_law_pairs_here", "_law_name", "_law_worth", "_law_names_here", "_law_at"]
theorem scTold : FnScope nTold ["_law_records", "_law_pairs_here"] (defScope sTold) := ⟨rfl, rfl, rfl, by decide +kernel, rfl, by decide +kernel, by decide +kernel⟩
theorem scRcNm : FnScope ["self"] ["self"] (defScope (sRc 1)) := ⟨rfl, rfl, rfl, by decide +kernel, rfl, by decide +kernel, by decide +kernel⟩
theorem for_enum {K : PySem.W.Frag} {a : Addr} {xs : List V} {g : TG} {tb : TS} {D : Ends} {σ : L2.St} {H : Hp} (Pv : Nat → L2.St → Hp → Prop) (h0 : Pv 0 σ H) (hl : ∀ i σ H, i ≤ xs.length → Pv i σ H → SqL K H a xs)
    (hs : ∀ i x σ H T, xs[i]? = some x → Pv i σ H → H T = none → g (.ref T) σ (upd H T (.tup [.int (i : Nat), x])) fun σ2 H2 => tb { D with nx := Pv (i + 1), ct := Pv (i + 1), bk := D.nx } σ2 H2) (hd : ∀ σ H, Pv xs.length σ H → D.nx σ H) :
    ∃ W : Nat → Nat → L2.St → Hp → Prop, (∃ m, W 0 m σ H) ∧ ∀ i m σ H, W i m σ H →
      ((Ite K a).stop i H ∧ D.nx σ H) ∨ ((Ite K a).go i H ∧ ∃ N : L2.St → Hp → Prop, (∀ σ' H', N σ' H' → ∃ m', m' < m ∧ W (i + 1) m' σ' H') ∧ ∀ x H', (Ite K a).yld i H x H' → g x σ H' fun σ2 H2 => tb { D with nx := N, ct := N, bk := D.nx } σ2 H2) := by
  refine ⟨fun i m σ H => xs.length = m + i ∧ Pv i σ H, ⟨xs.length, rfl, h0⟩, ?_⟩
  rintro i m σ H ⟨em, p⟩
  have q := hl i σ H (by omega) p
  cases m with
  | zero =>
    have e : xs.length = i := by omega
    exact .inl ⟨⟨xs, q, by omega⟩, hd σ H (e ▸ p)⟩
  | succ m =>
    have hi : i < xs.length := by omega
    refine .inr ⟨⟨xs, xs[i], q, List.getElem?_eq_getElem hi⟩, Pv (i + 1), fun σ' H' z => ⟨m, Nat.lt_succ_self m, by omega, z⟩, ?_⟩
    rintro x H' ⟨T, y, rfl, hT, rfl, hy⟩
    exact hs i y σ H T (hy xs q) p hT
section
variable {X : Cx}
def rEqS (K : PySem.W.Frag) : R2 := fun x y H Q => ∃ a b xs, x = .ref a ∧ y = .ref b ∧ SqL K H a xs ∧ SqL K H b xs ∧ (∀ v ∈ xs, sameB v = true) ∧ Q (.bl true) H
theorem op_eqS (hu : X.A.units < cLine) : OpR X (compareOp .Eq) (rEqS X.K) := by
  intro pins s σ H x y v u Q I rx ry h
  obtain ⟨a, b, xs, rfl, rfl, ha, hb, hf, q⟩ := h
  cases (show v = Value.ref a from rx)
  cases (show u = Value.ref b from ry)
  obtain ⟨us, r1, p1, _⟩ := I.list ha
  obtain ⟨ws, r2, p2, _⟩ := I.list hb
  have hsz : us.toArray.size = ws.toArray.size := by rw [List.size_toArray, List.size_toArray, ← r1.length, ← r2.length]
  refine SeqAt.RcAt.lists (e := fun _ => true) p1.isList p2.isList hsz hu (fun j h1 h2 => ?_) X.prog X.w _ _ ?_
  · have k := items_same (A := X.A.in1) (s := s) hf r1 r2 j (by simpa using h1) (by simpa using h2)
    simpa using k
  · rw [show ((List.range us.toArray.size).all fun _ => true) = true from List.all_eq_true.mpr fun _ _ => rfl]
    exact ⟨.bl true, H, I, rfl, q⟩
end
theorem same_strs (zs : List Str) : ∀ v ∈ zs.map V.str, sameB v = true := fun v hv => by
  obtain ⟨z, _, rfl⟩ := List.mem_map.mp hv
  rfl
def spRcNm (C : Addr) : Sp := fun vs H Q _ => ∃ (a : Addr) (ps : List Pr), vs = [.ref a] ∧ RecAt C H a ps ∧ ∀ p, H p = none → Q (.ref p) (upd H p (.lst ((nmsOf ps).map V.str)))
def spTold (K : PySem.W.Frag) (C : Addr) : Sp := fun vs H Q _ => ∃ (a l : Addr) (ps : List Pr) (ts : List Addr), vs = [.ref a, .ref l] ∧ RecAt C H a ps ∧ PsOk ps ∧ H l = some (.lst (ts.map V.ref)) ∧ AllPr H ts ps ∧ ∀ H', Same H H' → Q (.bl true) H'
theorem small_place {i : Nat} (h : i ≤ 40) : ((i : Nat) : Int).natAbs.log2 < 1920 := by
  have h2 : ((i : Nat) : Int).natAbs < 2 ^ 10 := by omega
  by_cases z : ((i : Nat) : Int).natAbs = 0
  · rw [z]
    decide
  · exact Nat.lt_trans ((Nat.log2_lt z).mpr h2) (by decide)
section
variable {P : Program} {w : World} {K : PySem.W.Frag} {mg : Str → Option Value} {base : Heap} {f C : Addr} {fd : FuncData}
theorem ok_rcget {fL : Addr} {fdL : FuncData} (F : Fun K "__getitem__" "Records.__getitem__" (sRc 4) f fd) (c : RcC K C) (mL : Meth K C "place" fL) (bL : Binds K fdL ["self", "key"] []) (GL : FnOk P w K mg base CX0 1 fL fdL ["self", "key"] (spRcL C)) (md : mg "dict" = none) :
    FnOk P w K mg base CX0 2 f fd ["self", "key"] (spRcG C) := by
  refine F.ok scRcG (fun vs H Q E h => ?_) (fun cdv A outer s H vs Q E hr h => ?_)
  · obtain ⟨a, ps, i, p, rfl, _⟩ := h
    rfl
  · obtain ⟨a, ps, i, p, rfl, hR, ok, hi, q⟩ := h
    have hR' := hR
    obtain ⟨dx, l, n, ts, ha, hl, al, hn⟩ := hR'
    refine ⟨_, pss_cons (ps_set (i := 2) scRcG.nd rfl (.inl rfl) (pe_meth (pv 0) c.cl mL GL hr bL .nil pass0 (pa_cons (pv 1) pa_nil)))
      (pss_one (ps_ret (pe_callTy call_dictD (by rfl) md (by decide +kernel) (pa_cons (pe_ix ix_tup (pe_ix ix_list (pe_fld (pv 0) rfl) (pv 2) (fun _ _ => rfl)) pe_int (fun _ _ => rfl)) pa_nil)))), ?_⟩
    refine ⟨_, rfl, a, dx, _, rfl, ha, rfl, _, rfl, a, ps, i, p, rfl, hR, ok, hi, ?_⟩
    obtain ⟨t, hti, d, et, ed⟩ := al.at hi
    refine ⟨_, rfl, a, C, dx, _, _, rfl, ha, c.cl, c.n1, rfl, _, rfl, l, _, _, _, rfl, rfl, .of hl, atI_nat (j := i) (by rw [List.getElem?_map, hti] <;> rfl), t, _, 1, _, rfl, rfl, .of et, rfl, d, p.2, rfl, .inl ed, fun dn hdn => q dn hdn⟩
theorem ok_rcnames (F : Fun K "names" "Records.names" (sRc 1) f fd) (c : RcC K C) (mL : mg "list" = none) : FnOk P w K mg base CX0 1 f fd ["self"] (spRcNm C) := by
  refine F.ok scRcNm (fun vs H Q E h => ?_) (fun cdv A outer s H vs Q E hr h => ?_)
  · obtain ⟨a, ps, rfl, _⟩ := h
    rfl
  · obtain ⟨a, ps, rfl, ⟨dx, l, n, ts, ha, hl, al, hn⟩, q⟩ := h
    refine ⟨_, pss_one (ps_ret (pe_callTy call_list_of (by rfl) mL (by decide +kernel) (pa_cons (pe_fld (pv 0) rfl) pa_nil))), ?_⟩
    exact ⟨_, rfl, a, C, dx, _, _, rfl, ha, c.cl, c.n2, rfl, n, _, rfl, .inl (.of hn), fun p hp => q p hp⟩
theorem ok_told {fM fP fN fG fL fH : Addr} {fdM fdP fdN fdG fdL fdH : FuncData} (F : Fun K "_law_told" "_law_told" sTold f fd) (c : RcC K C)
    (mM : Meth K C "names" fM) (bM : Binds K fdM ["self"] []) (GM : FnOk P w K mg base CX0 1 fM fdM ["self"] (spRcNm C))
    (mP : Meth K C "pairs" fP) (bP : Binds K fdP ["self"] []) (GP : FnOk P w K mg base CX0 1 fP fdP ["self"] (spRcP C))
    (mN : OwnM K C "__len__" fN) (bN : Binds K fdN ["self"] []) (GN : FnOk P w K mg base CX0 1 fN fdN ["self"] (spRcN C))
    (mG : OwnM K C "__getitem__" fG) (iG : PySem.W.fnIn K fG = true) (bG : Binds K fdG ["self", "key"] []) (GG : FnOk P w K mg base CX0 2 fG fdG ["self", "key"] (spRcG C))
    (mL : Meth K C "place" fL) (bL : Binds K fdL ["self", "key"] []) (GL : FnOk P w K mg base CX0 1 fL fdL ["self", "key"] (spRcL C))
    (mH : OwnM K C "__contains__" fH) (bH : Binds K fdH ["self", "item"] []) (GH : FnOk P w K mg base CX0 1 fH fdH ["self", "item"] (spRcC C))
    (ml : mg "len" = none) (me : mg "enumerate" = none) (mp : mg "repr" = none) (ms : mg "str" = none) : FnOk P w K mg base CX0 4 f fd ["_law_records", "_law_pairs_here"] (spTold K C) := by
  refine F.ok scTold (fun vs H Q E h => ?_) (fun cdv A outer s H vs Q E hr h => ?_)
  · obtain ⟨a, l, ps, ts, rfl, _⟩ := h
    rfl
  · obtain ⟨a, l, ps, ts, rfl, hrec, okp, el, al, q⟩ := h
    obtain ⟨dx, l1, n1, tr, ea, _⟩ := id hrec
    have hr1 := hr.mono (show 1 ≤ 3 by decide)
    have hr2 := hr.mono (show 1 + 1 ≤ 3 by decide)
    have hu : (A.deeper (envOfC "_law_told" (defScope sTold) s.heap.objs.size f cdv)).units < cLine := hr.units0
    have hu4 : (A.deeper (envOfC "_law_told" (defScope sTold) s.heap.objs.size f cdv)).units + 4 < cLine := by have := hr.units; omega
    have lts := al.len
    have l40 := okp.few
    have lps : (ts.map V.ref).length = ps.length := by rw [List.length_map, lts]
    refine ⟨_, pss_cons (ps_setLc (i := 4) (own := [("_law_name", 2), ("_law_worth", 3)]) (g := gTup K 2 (gCons (gName 2) (gCons (gName 3) gNil))) (tt := tYes) (by rfl) scTold.nd rfl rfl (sw_true rfl rfl rfl (by decide +kernel)) (pi_list (pv 1))
          (blkOk_by (own := [("_law_name", 2), ("_law_worth", 3)]) (N := nTold) (sc := defScope sTold) (by decide +kernel)) (fun _ _ _ _ _ => pg_tup (by rfl) (pgs_cons (pg_name (i := 2) scTold.nd rfl (.inl rfl)) (pgs_cons (pg_name (i := 3) scTold.nd rfl (.inl rfl)) pgs_nil))) (fun _ _ _ _ _ => pts_nil)
          (fun _ _ _ _ _ => pv 2))
      (pss_cons (ps_if (PW.pt (pw_or (pt_cmpR (op_neS hu) (pe_meth0 (pv 0) c.cl mM GM hr1 bM .nil pass0) (pv 4) (nomark _))
          (pw_or (pt_cmpR (op_nePl hu4) (pe_meth0 (pv 0) c.cl mP GP hr1 bP .nil pass0) (pv 1) (nomark _))
          (pw_or1 (pt_cmpR op_ne (pe_callB (call_lenO mN bN GN hr2) (by rfl) ml PySem.boot_len (pa_cons (pv 0) pa_nil)) (pe_callB call_len_seq (by rfl) ml PySem.boot_len (pa_cons (pv 1) pa_nil)) (nomark _)))))) (pss_one ps_never) pss_nil)
      (pss_cons (ps_for PassesOwn.never rfl (pi_enum (by rfl) me (pa_cons (pv 1) pa_nil)) (pg_tup (by rfl) (pgs_cons (pg_name (i := 5) scTold.nd rfl (.inl rfl)) (pgs_cons (pg_tup (by rfl) (pgs_cons (pg_name (i := 2) scTold.nd rfl (.inl rfl)) (pgs_cons (pg_name (i := 3) scTold.nd rfl (.inl rfl)) pgs_nil))) pgs_nil)))
        (pss_one (ps_if (PW.pt (pw_or (pt_cmpR (op_neDI hu) (pe_getO mG iG bG GG hr (pv 0) (pv 2)) (pv 3) (nomark _))
          (pw_or (pt_cmpR op_ne (pe_callB SkE.call_repr_int (by rfl) mp (by decide +kernel) (pa_cons (pe_meth (pv 0) c.cl mL GL hr1 bL .nil pass0 (pa_cons (pv 2) pa_nil)) pa_nil)) (pe_callTy call_str_int (by rfl) ms (by decide +kernel) (pa_cons (pv 5) pa_nil)) (nomark _))
          (pw_or1 (pt_cmpR (op_ninO (E := E0) mH bH GH hr1 pass0) (pv 2) (pv 0) (by rfl)))))) (pss_one ps_never) pss_nil)))
      (pss_one (ps_ret (pe_cmpR (op_eqS hu) (pe_meth0 (pv 0) c.cl mM GM hr1 bM .nil pass0) (pv 4) (nomark _)))))), ?_⟩
    refine ⟨_, rfl, l, rfl, ⟨_, .of el⟩, fun D hD => ?_⟩
    refine lc_list (xs := ts.map V.ref) (fun i H3 => Same H H3 ∧ H3 D = some (.lst ((nmsOf (ps.take i)).map V.str))) ?_ ?_ ?_ ?_
    · exact ⟨Same.new hD, upd_same⟩
    · exact fun _ _ _ h => .of (h.1 _ _ el)
    · rintro i x H3 hx ⟨s3, e3⟩
      rw [List.getElem?_map] at hx
      obtain ⟨t, hti, rfl⟩ := Option.map_eq_some_iff.mp hx
      obtain ⟨pr, hpi, d, et, ed⟩ := (al.sf (.of_same s3)).get hti
      have hil : i < ps.length := (List.getElem?_eq_some_iff.mp hpi).1
      refine ⟨t, _, rfl, .of et, rfl, _, _, rfl, _, _, rfl, rfl, rfl, ?_⟩
      unfold tYes
      dsimp only
      rw [if_pos rfl]
      refine ⟨_, rfl, _, e3, ?_, fun c o ec => (upd_ne (ne_of_none ec hD)).trans (s3 _ _ ec), ?_⟩
      · rw [List.length_map, List.length_map, List.length_take]
        exact small1000 (by omega)
      · rw [upd_same, List.take_add_one, hpi]
        simp [nmsOf]
    · rintro H3 ⟨s3, e3⟩
      rw [List.length_map, lts, List.take_length] at e3
      refine ⟨_, rfl, a, dx, _, rfl, s3 _ _ ea, rfl, a, ps, rfl, hrec.same s3, fun m1 h1 => ?_⟩
      have s4 := s3.trans (Same.new (o := .lst ((nmsOf ps).map V.str)) h1)
      have eD4 := Same.new (o := .lst ((nmsOf ps).map V.str)) h1 _ _ e3
      refine ⟨_, rfl, m1, D, _, rfl, rfl, .of upd_same, .of eD4, same_strs _, _, rfl, iteF ?_⟩
      refine ⟨_, rfl, a, dx, _, rfl, s4 _ _ ea, rfl, a, ps, rfl, hrec.same s4, okp, fun p1 us1 H5 np1 s5 e5 al5 => ?_⟩
      have s05 := s4.trans s5
      refine ⟨_, rfl, p1, l, us1, ts, ps, ps, rfl, rfl, e5, s05 _ _ el, al5.sf (.of_same Nw.sub), al.sf (.of_same s05), okp.allD, okp.allD, _, rfl, ?_⟩
      rw [plEq_refl okp.allD]
      refine iteF ?_
      refine ⟨_, rfl, a, dx, _, rfl, s05 _ _ ea, a, ps, rfl, hrec.same s05, _, rfl, by omega, by omega, _, rfl, l, _, rfl, .inl (.of (s05 _ _ el)), rfl, _, rfl, ne_if (by rw [lps]) ?_⟩
      have eD5 := s5 _ _ eD4
      refine ⟨_, rfl, l, _, rfl, .of (s05 _ _ el), ?_⟩
      refine for_enum (xs := ts.map V.ref) (fun i σ H6 => Same H5 H6 ∧ ∃ x2 x3 x5 : Option V, σ = [some (.ref a), some (.ref l), x2, x3, some (.ref D), x5]) ?_ ?_ ?_ ?_
      · exact ⟨.refl _, _, _, _, rfl⟩
      · rintro i σ H6 _ ⟨s6, _⟩
        exact .of (s6 _ _ (s05 _ _ el))
      · rintro i x σ H6 T hx ⟨s6, x2, x3, x5, rfl⟩ hT
        have s7 := Same.new (o := .tup [.int (i : Nat), x]) hT
        have eT := upd_same (H := H6) (a := T) (o := HO.tup [.int (i : Nat), x])
        generalize upd H6 T (.tup [.int (i : Nat), x]) = H7 at s7 eT ⊢
        have s07 := (s05.trans s6).trans s7
        rw [List.getElem?_map] at hx
        obtain ⟨t, hti, rfl⟩ := Option.map_eq_some_iff.mp hx
        obtain ⟨pr, hpi, d, et, ed⟩ := (al.sf (.of_same s07)).get hti
        have hil : i < ps.length := (List.getElem?_eq_some_iff.mp hpi).1
        have hm := List.mem_of_getElem? hpi
        have dk := okp.allD pr hm
        have hin : pr.1 ∈ nmsOf ps := List.mem_map.mpr ⟨pr, hm, rfl⟩
        refine ⟨T, _, rfl, .of eT, rfl, _, _, rfl, _, _, rfl, t, _, rfl, .of et, rfl, _, _, rfl, _, _, rfl, rfl, rfl, ?_⟩
        refine ⟨_, rfl, _, rfl, a, dx, _, rfl, s07 _ _ ea, a, ps, i, pr, rfl, hrec.same s07, okp, hpi, fun d1 hd1 => ?_⟩
        have s8 := Same.new (o := .dK pr.2) hd1
        refine ⟨_, rfl, d1, d, pr.2, pr.2, rfl, rfl, upd_same, s8 _ _ ed, dk.num, dk.num, _, rfl, ?_⟩
        rw [dEq_refl dk.nd]
        refine iteF ?_
        have s08 := s07.trans s8
        refine ⟨_, rfl, a, dx, _, rfl, s08 _ _ ea, rfl, _, rfl, a, ps, i, pr, rfl, hrec.same s08, okp, hpi, (i : Nat), rfl, small_place (by omega), _, rfl, (i : Nat), rfl, small_place (by omega), rfl, _, rfl, ne_if rfl ?_⟩
        refine ⟨_, rfl, _, rfl, a, dx, _, rfl, s08 _ _ ea, a, ps, pr.1, rfl, hrec.same s08, _, rfl, _, rfl, ?_⟩
        rw [decide_eq_true hin]
        exact iteF ⟨s7.trans s8 |> s6.trans, _, _, _, rfl⟩
      · rintro σ H6 ⟨s6, x2, x3, x5, rfl⟩
        have s06 := s05.trans s6
        refine ⟨_, rfl, a, dx, _, rfl, s06 _ _ ea, rfl, a, ps, rfl, hrec.same s06, fun m3 h3 => ?_⟩
        have s9 := Same.new (o := .lst ((nmsOf ps).map V.str)) h3
        exact ⟨_, rfl, m3, D, _, rfl, rfl, .of upd_same, .of (s9 _ _ (s6 _ _ eD5)), same_strs _, q _ (s06.trans s9)⟩
end
end G
set_option Elab.async false
set_option linter.all false
set_option maxRecDepth 100000
set_option maxHeartbeats 4000000
/-! MK1: o.m(e, k = v). -/
namespace G
open PySem PySem.Spec PyProof.Rows L2 NdefX
def tMethK (C : Addr) (m : Str) (n nk : Nat) (sp : Sp) (gV : List V → List V → List V) (E : XK) (ta : TE) (t tk : TA) : TE := fun σ H Q => ta σ H fun x H1 => ∃ a dx fs, x = .ref a ∧ H1 a = some (.ins C dx fs) ∧ fs.lookup m = none ∧
  t σ H1 fun vs H2 => tk σ H2 fun zs H3 => vs.length = n ∧ zs.length = nk ∧ sp (gV (.ref a :: vs) zs) H3 Q E
section
variable {X : Cx} {CX : CXT} {k n : Nat} {f C : Addr} {fd : FuncData} {ps ks : List Str} {sp : Sp} {E : XK} {m : Str} {pos apos : Pos} {o e : Expr} {es : List Expr} {kws : List Keyword} {ta : TE} {t tk : TA} {g : List Value → List Value → List Value} {gV : List V → List V → List V}
theorem pe_methK {pl : Sem Bool} (he : PE X o ta) (c : Cls X.K C) (hm : Meth X.K C m f) (F : FnOk X.prog X.w X.K X.mg X.base CX k f fd ps sp) (hr : Room k X.A) (hb : KBn X.K fd ps (n + 1) ks g gV) (hx : Passes CX X E) (ha : PA X (e :: es) t) (hkw : PK X kws tk)
    (hall : (backToKw pos (keywordEach kws X.env)).all (·.1.isSome) = true := by rfl) (hks : (backToKw pos (keywordEach kws X.env)).filterMap (·.1) = ks := by rfl)
    (hst : starEach (e :: es) X.env = (false, eval e X.env) :: starEach es X.env := by rfl) (hpl : ((backTo pos (starEach (e :: es) X.env)).any (·.1) || (backToKw pos (keywordEach kws X.env)).any (·.1.isNone)) = false := by rfl)
    (ht : eval (.Call (.Attribute o m apos) (e :: es) kws pos) X.env = (do
      let ov ← eval o X.env
      standAt apos.atName
      let (f, first) ← holding [ov] (getMethod ov m pl)
      callWith pos f first (backTo pos (starEach (e :: es) X.env)) (backToKw pos (keywordEach kws X.env))) := by rfl) :
    PE X (.Call (.Attribute o m apos) (e :: es) kws pos) (tMethK C m n ks.length sp gV E ta t tk) := by
  refine ⟨fun pins s σ H Q I h => ?_⟩
  refine PySem.W.methodCall_KW (pl := pl) (thn (he.run pins s σ H _ I h) fun u s1 ⟨x, H1, I1, rx, a, dx, fs, ex, ea, l, q⟩ => ?_) ht
  subst ex
  obtain rfl : u = Value.ref a := rx
  refine getmeth_ok I1 ea c hm l ?_
  refine PySem.W.callWith_KW (first := [.ref a]) (h₀ := X.base) I.ok.mod.kin hm.kp hall (thn (ha.run pos pins s1 σ H1 _ I1 q) fun us s2 ⟨vs, H2, I2, r, q2⟩ => ?_) hpl hst
  refine thn (hkw.run pos pins s2 σ H2 _ I2 q2) fun ws s3 ⟨zs, H3, I3, rz, l1, l2, q3⟩ => ⟨I3.kIn, ?_⟩
  rw [hks]
  have r1 : Vals (V.ref a :: vs) (Value.ref a :: us) := .cons rfl r
  have r2 := hb.rel r1 rz
  have n1 : (Value.ref a :: us).length = n + 1 := by rw [List.length_cons, ← r.length, l1]
  refine wpAny_call (codeAny_mono (F.run X.A X.stack s3 H3 ⟨Value.ref a :: us, ks.zip ws⟩ (g (Value.ref a :: us) ws) _ Q E hr I3.env0 (hb.to s3 (Value.ref a :: us) ws I3.kIn n1 (rz.length.symm.trans l2)) r2 q3) fun r s' hq => ?_)
  cases r with
  | error e => exact hx pins σ H3 s3 e s' I3 hq
  | ok fl =>
    cases fl with
    | ret u => exact I3.after hq
    | next => exact False.elim hq
    | brk => exact False.elim hq
    | cont => exact False.elim hq
end
/-! ### a drawn place -/
theorem cutV_from (xs : List V) (k : Nat) (h : k ≤ xs.length) : cutV xs (some (k : Int)) none = xs.drop k := by
  unfold cutV
  rw [HT.sIx_none, HT.sIx_nat, Nat.min_eq_left h, List.take_of_length_le]
  rw [List.length_drop]
  exact Nat.le_refl _
theorem cutV_to (xs : List V) (k : Nat) (h : k ≤ xs.length) : cutV xs none (some (k : Int)) = xs.take k := by
  unfold cutV
  rw [HT.sIx_none, HT.sIx_nat, List.drop_zero, Nat.min_eq_left h, Nat.sub_zero]
/-! ### lists with one more, one fewer -/
def insP {α : Type} (ps : List α) (i : Nat) (p : α) : List α := ps.take i ++ p :: ps.drop i
def delP {α : Type} (ps : List α) (i : Nat) : List α := ps.take i ++ ps.drop (i + 1)
theorem insP_perm {α : Type} (ps : List α) (i : Nat) (p : α) : (insP ps i p).Perm (p :: ps) := by
  unfold insP
  refine List.perm_middle.trans ?_
  rw [List.take_append_drop]
theorem delP_perm {α : Type} {ps : List α} {i : Nat} {p : α} (h : ps[i]? = some p) : (p :: delP ps i).Perm ps := by
  obtain ⟨hi, e⟩ := List.getElem?_eq_some_iff.mp h
  unfold delP
  refine List.perm_middle.symm.trans ?_
  rw [← e, ← List.drop_eq_getElem_cons hi, List.take_append_drop]
theorem insP_len {α : Type} (ps : List α) (i : Nat) (p : α) : (insP ps i p).length = ps.length + 1 := by
  rw [(insP_perm ps i p).length_eq, List.length_cons]
theorem delP_len {α : Type} {ps : List α} {i : Nat} (h : i < ps.length) : (delP ps i).length = ps.length - 1 := by
  have e := (delP_perm (List.getElem?_eq_getElem h)).length_eq
  rw [List.length_cons] at e
  omega
theorem delP_sub {α : Type} (ps : List α) (i : Nat) : (delP ps i).Sublist ps := by
  unfold delP
  have h := (List.Sublist.refl (ps.take i)).append (List.drop_sublist 1 (ps.drop i))
  rw [List.take_append_drop, List.drop_drop] at h
  exact h
theorem insP_map {α β : Type} (f : α → β) (ps : List α) (i : Nat) (p : α) : (insP ps i p).map f = insP (ps.map f) i (f p) := by
  unfold insP
  rw [List.map_append, List.map_cons, List.map_take, List.map_drop]
theorem delP_map {α β : Type} (f : α → β) (ps : List α) (i : Nat) : (delP ps i).map f = delP (ps.map f) i := by
  unfold delP
  rw [List.map_append, List.map_take, List.map_drop]
theorem AllPr.take {H : Hp} : ∀ {ts : List Addr} {ps : List Pr} (n : Nat), AllPr H ts ps → AllPr H (ts.take n) (ps.take n)
  | _, _, 0, _ => trivial
  | [], [], _ + 1, _ => trivial
  | _ :: _, _ :: _, n + 1, h => ⟨h.1, AllPr.take n h.2⟩
  | [], _ :: _, _ + 1, h => h.elim
  | _ :: _, [], _ + 1, h => h.elim
theorem AllPr.drop {H : Hp} : ∀ {ts : List Addr} {ps : List Pr} (n : Nat), AllPr H ts ps → AllPr H (ts.drop n) (ps.drop n)
  | _, _, 0, h => h
  | [], [], _ + 1, _ => trivial
  | _ :: _, _ :: _, n + 1, h => AllPr.drop n h.2
  | [], _ :: _, _ + 1, h => h.elim
  | _ :: _, [], _ + 1, h => h.elim
theorem AllPr.ins {H : Hp} {ts : List Addr} {ps : List Pr} {t : Addr} {p : Pr} (i : Nat) (h : AllPr H ts ps) (hp : PrAt H t p) : AllPr H (insP ts i t) (insP ps i p) := AllPr.app (h.take i) ⟨hp, h.drop i⟩
theorem AllPr.del {H : Hp} {ts : List Addr} {ps : List Pr} (i : Nat) (h : AllPr H ts ps) : AllPr H (delP ts i) (delP ps i) := AllPr.app (h.take i) (h.drop (i + 1))
theorem PsOk.perm {ps qs : List Pr} (h : PsOk ps) (p : qs.Perm ps) : PsOk qs :=
  ⟨by rw [p.length_eq]; exact h.few, (p.map _).nodup_iff.mpr h.nd, fun x hx => h.nm x (p.mem_iff.mp hx), fun x hx => h.val x (p.mem_iff.mp hx), fun x hx => h.kd x (p.mem_iff.mp hx)⟩
theorem PsOk.sub {ps qs : List Pr} (h : PsOk ps) (p : qs.Sublist ps) : PsOk qs :=
  ⟨Nat.le_trans p.length_le h.few, (p.map _).nodup h.nd, fun x hx => h.nm x (p.subset hx), fun x hx => h.val x (p.subset hx), fun x hx => h.kd x (p.subset hx)⟩
theorem PsOk.cons {ps : List Pr} {p : Pr} {zs : List Str} (h : PsOk ps) (l : ps.length < 40) (hn : p.1 ∉ nmsOf ps) (nm : NameZ p.1) (v : ValOk zs p.2) (k : (p.2.map (·.1)).Nodup) : PsOk (p :: ps) := by
  refine ⟨l, ?_, fun x hx => ?_, fun x hx => ?_, fun x hx => ?_⟩
  · rw [List.map_cons, List.nodup_cons]
    exact ⟨hn, h.nd⟩
  · rcases List.mem_cons.mp hx with rfl | hx
    · exact nm
    · exact h.nm x hx
  · rcases List.mem_cons.mp hx with rfl | hx
    · exact ⟨zs, v⟩
    · exact h.val x hx
  · rcases List.mem_cons.mp hx with rfl | hx
    · exact k
    · exact h.kd x hx
theorem PsOk.ins {ps : List Pr} {p : Pr} {zs : List Str} (i : Nat) (h : PsOk ps) (l : ps.length < 40) (hn : p.1 ∉ nmsOf ps) (nm : NameZ p.1) (v : ValOk zs p.2) (k : (p.2.map (·.1)).Nodup) : PsOk (insP ps i p) := (h.cons l hn nm v k).perm (insP_perm ps i p)
theorem PsOk.del {ps : List Pr} (i : Nat) (h : PsOk ps) : PsOk (delP ps i) := h.sub (delP_sub ps i)
theorem PsOk.out {ps : List Pr} (h : PsOk ps) {i : Nat} {p : Pr} (e : ps[i]? = some p) : p.1 ∉ nmsOf (delP ps i) := by
  have nd := ((delP_perm e).map (·.1)).nodup_iff.mpr h.nd
  rw [List.map_cons, List.nodup_cons] at nd
  exact nd.1
end G
set_option Elab.async false
set_option linter.all false
set_option maxRecDepth 100000
set_option maxHeartbeats 8000000
/-! LC: _law_changed; equality of rows is symmetric. -/
namespace G
open PySem PySem.Spec PyProof.Rows L2 NdefX
abbrev sChg : Stmt := topS 38
abbrev nChg : List Str := ["_law_pairs_here", "_law_box_here", "_law_way", "_law_at", "_law_name", "_law_worth", "_law_part", "_law_twin", "_law_more"]
theorem scChg : FnScope nChg ["_law_pairs_here", "_law_box_here"] (defScope sChg) := ⟨rfl, rfl, rfl, by decide +kernel, rfl, by decide +kernel, by decide +kernel⟩
theorem valV_out {kvs : List (Key × V)} {k : Key} (h : k ∉ kvs.map (·.1)) : valV kvs k = none := by
  cases e : valV kvs k with
  | none => rfl
  | some v =>
    have h2 : Option.map (fun p : Key × V => p.2) (kvs.find? fun kv => decide (kv.1 = k)) = some v := e
    obtain ⟨p, hp, _⟩ := Option.map_eq_some_iff.mp h2
    have := List.find?_some hp
    exact (h (List.mem_map.mpr ⟨p, List.mem_of_find?_eq_some hp, by simpa using this⟩)).elim
theorem merge_nd : ∀ (more acc : List (Key × V)), ((acc ++ more).map (·.1)).Nodup → mergeK acc more = acc ++ more
  | [], acc, _ => by
    rw [List.append_nil]
    rfl
  | p :: r, acc, h => by
    have e : acc ++ p :: r = (acc ++ [p]) ++ r := by rw [List.append_assoc]; rfl
    have hn : p.1 ∉ acc.map (·.1) := by
      rw [List.map_append, List.map_cons, List.nodup_append] at h
      intro hm
      exact h.2.2 _ hm _ List.mem_cons_self rfl
    show mergeK (putK acc p.1 p.2) r = _
    rw [putK_new _ (valV_out hn), e]
    rw [e] at h
    exact merge_nd r (acc ++ [p]) h
theorem putK_in {kvs : List (Key × V)} {k : Key} (v : V) (h : k ∈ kvs.map (·.1)) : (putK kvs k v).length = kvs.length := by
  unfold putK
  obtain ⟨p, hp, e⟩ := List.mem_map.mp h
  rw [if_pos (List.any_eq_true.mpr ⟨p, hp, decide_eq_true e⟩), List.length_map]

theorem ValOk.rev {zs : List Str} {kvs : List (Key × V)} (h : ValOk zs kvs) : ValOk zs kvs.reverse :=
  ⟨h.nm, fun p hp => h.is p (List.mem_reverse.mp hp), by rw [List.length_reverse]; exact h.pos, by rw [List.length_reverse]; exact h.six⟩
theorem nd_rev {kvs : List (Key × V)} (h : (kvs.map (·.1)).Nodup) : (kvs.reverse.map (·.1)).Nodup := by
  rw [List.map_reverse]
  unfold List.Nodup
  rw [List.pairwise_reverse]
  exact h.imp fun z => z.symm
theorem ins_del {α : Type} {ps : List α} {i : Nat} (h : i < ps.length) (x : α) : insP (delP ps i) i x = ps.take i ++ x :: ps.drop (i + 1) := by
  have e : (ps.take i).length = i := by
    rw [List.length_take]
    omega
  unfold insP delP
  rw [List.take_append_of_le_length (by omega), List.drop_append_of_le_length (by omega), List.take_of_length_le (by omega), List.drop_of_length_le (by omega), List.nil_append]
theorem PsOk.set {ps : List Pr} {i : Nat} {y : Str} {v0 kvs : List (Key × V)} {zs : List Str} (ok : PsOk ps) (h : ps[i]? = some (y, v0)) (v : ValOk zs kvs) (k : (kvs.map (·.1)).Nodup) : PsOk (ps.take i ++ (y, kvs) :: ps.drop (i + 1)) := by
  have hi : i < ps.length := (List.getElem?_eq_some_iff.mp h).1
  rw [← ins_del hi (y, kvs)]
  have l := delP_len hi
  have l40 := ok.few
  exact (ok.del i).ins i (by omega) (show y ∉ nmsOf (delP ps i) from ok.out h) (show NameZ y from ok.nm _ (List.mem_of_getElem? h)) v k
/-! ### symmetry -/
theorem le_of_sub {α : Type} [DecidableEq α] : ∀ {xs ys : List α}, xs.Nodup → (∀ x ∈ xs, x ∈ ys) → xs.length ≤ ys.length
  | [], ys, _, _ => Nat.zero_le _
  | x :: xs, ys, nd, h => by
    rw [List.nodup_cons] at nd
    have hx := h x List.mem_cons_self
    have l := List.length_erase_of_mem hx
    have p := List.length_pos_of_mem hx
    have := le_of_sub (xs := xs) (ys := ys.erase x) nd.2 fun y hy => (List.mem_erase_of_ne (fun z => nd.1 (by rw [← z]; exact hy))).mpr (h y (List.mem_cons_of_mem _ hy))
    rw [List.length_cons]
    omega
theorem sub_back {α : Type} [DecidableEq α] {xs ys : List α} (nd : xs.Nodup) (h : ∀ x ∈ xs, x ∈ ys) (l : ys.length ≤ xs.length) : ∀ y ∈ ys, y ∈ xs := fun y hy => by
  by_cases hx : y ∈ xs
  · exact hx
  · have a := List.length_erase_of_mem hy
    have p := List.length_pos_of_mem hy
    have := le_of_sub (xs := xs) (ys := ys.erase y) nd fun x hm => (List.mem_erase_of_ne (fun z => hx (by rw [← z]; exact hm))).mpr (h x hm)
    omega
theorem valV_key {kvs : List (Key × V)} {k : Key} {v : V} (e : valV kvs k = some v) : (k, v) ∈ kvs := by
  have h2 : Option.map (fun p : Key × V => p.2) (kvs.find? fun kv => decide (kv.1 = k)) = some v := e
  obtain ⟨p, hp, e2⟩ := Option.map_eq_some_iff.mp h2
  have e1 := List.find?_some hp
  have hm := List.mem_of_find?_eq_some hp
  obtain ⟨a, b⟩ := p
  have e1' : a = k := by simpa using e1
  have e2' : b = v := e2
  rw [← e1', ← e2']
  exact hm
theorem dEq_imp {ks ls : List (Key × V)} (nk : (ks.map (·.1)).Nodup) (nl : (ls.map (·.1)).Nodup) (h : dEq ks ls = true) : dEq ls ks = true := by
  unfold dEq at h ⊢
  rw [Bool.and_eq_true] at h ⊢
  obtain ⟨h1, h2⟩ := h
  have el : ks.length = ls.length := beq_iff_eq.mp h1
  refine ⟨beq_iff_eq.mpr el.symm, List.all_eq_true.mpr fun p hp => decide_eq_true ?_⟩
  have all : ∀ q ∈ ks, valV ls q.1 = some q.2 := fun q hq => of_decide_eq_true (List.all_eq_true.mp h2 q hq)
  have back := sub_back (ys := ls.map (·.1)) nk (fun x hx => by
    obtain ⟨q, hq, rfl⟩ := List.mem_map.mp hx
    exact List.mem_map.mpr ⟨_, valV_key (all q hq), rfl⟩) (by rw [List.length_map, List.length_map, el]; exact Nat.le_refl _)
  obtain ⟨q, hq, eq⟩ := List.mem_map.mp (back p.1 (List.mem_map.mpr ⟨p, hp, rfl⟩))
  have e1 := all q hq
  have e2 := valV_mem nl hp
  rw [eq, e2] at e1
  have e3 := valV_mem nk hq
  rw [eq] at e3
  rw [e3, ← Option.some.inj e1]
theorem dEq_sym {ks ls : List (Key × V)} (nk : (ks.map (·.1)).Nodup) (nl : (ls.map (·.1)).Nodup) : dEq ks ls = dEq ls ks := by
  cases e : dEq ks ls with
  | true => exact (dEq_imp nk nl e).symm
  | false =>
    cases e2 : dEq ls ks with
    | false => rfl
    | true =>
      rw [dEq_imp nl nk e2] at e
      cases e
theorem plEq_sym {ps qs : List Pr} (op : AllD ps) (oq : AllD qs) : plEq ps qs = plEq qs ps := by
  unfold plEq
  by_cases l : ps.length = qs.length
  · rw [l]
    have e : prE ps qs = prE qs ps := by
      funext j
      unfold prE
      cases h1 : ps[j]? with
      | none =>
        cases h2 : qs[j]? <;> rfl
      | some p =>
        cases h2 : qs[j]? with
        | none => rfl
        | some q =>
          show prEq p q = prEq q p
          unfold prEq
          have d := dEq_sym (op p (List.mem_of_getElem? h1)).nd (oq q (List.mem_of_getElem? h2)).nd
          rw [d]
          congr 1
          exact decide_eq_decide.mpr eq_comm
    rw [e]
  · have e1 : (ps.length == qs.length) = false := beq_eq_false_iff_ne.mpr l
    have e2 : (qs.length == ps.length) = false := beq_eq_false_iff_ne.mpr fun z => l z.symm
    rw [e1, e2]
    rfl
def spChg (K : PySem.W.Frag) : Sp := fun vs H Q _ => ∃ (l b : Addr) (n : Nat) (ps : List Pr) (ts : List Addr), vs = [.ref l, .ref b] ∧ BoxAt H b n ∧ n ≤ 80000 ∧ PsOk ps ∧ 1 ≤ ps.length ∧ H l = some (.lst (ts.map V.ref)) ∧ AllPr H ts ps ∧
  ∀ (p : Addr) (H' : Hp) (us : List Addr) (qs : List Pr), H p = none → H' p = some (.lst (us.map V.ref)) → AllPr H' us qs → PsOk qs → (∀ q ∈ qs, q.1 ∈ nmsOf ps) → BoxAt H' b (n + 2) → But b H H' → Q (.ref p) H'
theorem refs_ne_box {H : Hp} {b l : Addr} {n : Nat} {ts : List Addr} (B : BoxAt H b n) (e : H l = some (.lst (ts.map V.ref))) : l ≠ b := fun z => by
  obtain ⟨x, y, t, eb, _⟩ := B
  rw [z, eb] at e
  cases ts <;> cases e
section
variable {P : Program} {w : World} {K : PySem.W.Frag} {mg : Str → Option Value} {base : Heap} {f : Addr} {fd : FuncData}
theorem ok_chg {fT : Addr} {fdT : FuncData} (F : Fun K "_law_changed" "_law_changed" sChg f fd) (T : Fun K "_law_take" "_law_take" sTake fT fdT) (bT : Binds K fdT ["_law_box_here", "_law_many"] []) (gT : mg "_law_take" = some (.ref fT))
    (ml : mg "len" = none) (mL : mg "list" = none) (md : mg "dict" = none) : FnOk P w K mg base CX0 3 f fd ["_law_pairs_here", "_law_box_here"] (spChg K) := by
  have GT : FnOk P w K mg base CX0 1 fT fdT ["_law_box_here", "_law_many"] spTake := ok_take T
  refine F.ok scChg (fun vs H Q E h => ?_) (fun cdv A outer s H vs Q E hr h => ?_)
  · obtain ⟨l, b, n, ps, ts, rfl, _⟩ := h
    rfl
  · obtain ⟨l, b, n, ps, ts, rfl, B, hn, ok, l1, el, al, q⟩ := h
    have hr1 := hr.mono (show 1 ≤ 2 by decide)
    have hu := hu_of hr
    refine ⟨_, pss_cons (ps_par (i := 2) (j := 3) (by rfl) scChg.nd rfl rfl (by decide) rfl rfl (pa_cons (pe_call GT hr1 rfl gT T.kp bT .nil pass0 (pa_cons (pv 1) (pa_cons pe_int pa_nil)))
        (pa_cons (pe_call GT hr1 rfl gT T.kp bT .nil pass0 (pa_cons (pv 1) (pa_cons (pe_callB call_len_seq (by rfl) ml PySem.boot_len (pa_cons (pv 0) pa_nil)) pa_nil))) pa_nil)) (by rfl))
      (pss_cons (ps_if (pt_cmpR op_eq (pv 2) pe_int (nomark _)) (pss_one (ps_ret (pe_callTy call_list_of (by rfl) mL (by decide +kernel) (pa_cons (pv 0) pa_nil)))) pss_nil)
      (pss_cons (ps_if (pt_cmpR op_eq (pv 2) pe_int (nomark _)) (pss_one (ps_ret (pe_op op_cat (pe_slice (r := rSlL K) sl_list (pv 0) (po_some pe_int) po_none) (pe_slice (r := rSlL K) sl_list (pv 0) po_none (po_some pe_int))))) pss_nil)
      (pss_cons (ps_asg (pe_ix (r := rIxL K) ix_list (pv 0) (pv 3) (fun _ _ => rfl)) (pg_tup (by rfl) (pgs_cons (pg_name (i := 4) scChg.nd rfl (.inl rfl)) (pgs_cons (pg_name (i := 5) scChg.nd rfl (.inr rfl)) pgs_nil))))
      (pss_cons (ps_if (pt_cmpR op_eq (pv 2) pe_int (nomark _))
        (pss_cons (ps_set (i := 7) scChg.nd rfl (.inl rfl) (pe_callTy (call_dictP rfl) (by rfl) md (by decide +kernel) (pa_cons (pe_lc (own := [("_law_part", 6)]) (g := gName 6) (tt := tYes) (by rfl) scChg.nd (pi_list (pe_backL (pe_callTy (call_listD rfl) (by rfl) mL (by decide +kernel) (pa_cons (pv 5) pa_nil)) (po_some (pe_un un_neg pe_int))))
          (blkOk_by (own := [("_law_part", 6)]) (N := nChg) (sc := defScope sChg) (by decide +kernel)) (fun _ _ _ _ _ => pg_name (i := 6) scChg.nd rfl (.inl rfl)) (fun _ _ _ _ _ => pts_nil)
          (fun _ _ _ _ _ => pe_tup (pa_cons (pv 6) (pa_cons (pe_dget hu (pv 5) (pv 6) (fun _ _ => rfl)) pa_nil)))) pa_nil)))
        (pss_one (ps_ret (pe_op op_cat (pe_op op_cat (pe_slice (r := rSlL K) sl_list (pv 0) po_none (po_some (pv 3))) (pe_lst (pa_cons (pe_tup (pa_cons (pv 4) (pa_cons (pv 7) pa_nil))) pa_nil))) (pe_slice (r := rSlL K) sl_list (pv 0) (po_some (pe_op op_add (pv 3) pe_int)) po_none))))) pss_nil)
      (pss_cons (ps_par (i := 8) (j := 6) (by rfl) scChg.nd rfl rfl (by decide) rfl rfl (pa_cons (pe_callTy call_dictD (by rfl) md (by decide +kernel) (pa_cons (pv 5) pa_nil))
        (pa_cons (pe_ix (r := rIxL K) ix_list (pe_callTy (call_listD rfl) (by rfl) mL (by decide +kernel) (pa_cons (pv 5) pa_nil)) pe_int (fun _ _ => rfl)) pa_nil)) (by rfl))
      (pss_cons (ps_dput hu (pv 8) (pv 6) (pe_ifExp (pt_cmpR op_gt (pe_dget hu (pv 5) (pv 6) (fun _ _ => rfl)) (pe_un un_neg pe_int) (nomark _)) (pe_op op_sub (pe_dget hu (pv 5) (pv 6) (fun _ _ => rfl)) pe_int) pe_int) rfl)
      (pss_one (ps_ret (pe_ifExp (pt_cmpR op_eq (pv 2) pe_int (nomark _))
        (pe_op op_cat (pe_op op_cat (pe_slice (r := rSlL K) sl_list (pv 0) po_none (po_some (pv 3))) (pe_lst (pa_cons (pe_tup (pa_cons (pv 4) (pa_cons (pv 8) pa_nil))) pa_nil))) (pe_slice (r := rSlL K) sl_list (pv 0) (po_some (pe_op op_add (pv 3) pe_int)) po_none))
        (pe_op op_cat (pe_slice (r := rSlL K) sl_list (pv 0) po_none (po_some (pv 3))) (pe_slice (r := rSlL K) sl_list (pv 0) (po_some (pe_op op_add (pv 3) pe_int)) po_none))))))))))), ?_⟩
    refine ⟨_, rfl, b, 5, n, rfl, B, by omega, by decide, by decide, fun r1 H1 r10 r11 B1 k1 => ?_⟩
    obtain ⟨j, rfl, hj⟩ := draw_at (n := 5) r10 r11 rfl
    have nlb := refs_ne_box B el
    have el1 := k1 _ _ nlb el
    have lts := al.len
    have l40 := ok.few
    have lenT : (((ts.map V.ref).length : Nat) : Int) = ((ps.length : Nat) : Int) := by rw [List.length_map, lts]
    refine ⟨_, rfl, _, rfl, l, _, rfl, .inl (.of el1), b, _, _, rfl, B1, by omega, by rw [lenT]; omega, by rw [lenT]; omega, fun r2 H2 r20 r21 B2 k2 => ⟨_, _, rfl, ?_⟩⟩
    obtain ⟨i, rfl, hi⟩ := draw_at (n := ps.length) r20 r21 lenT
    have k02 := k1.trans k2
    have el2 := k2 _ _ nlb el1
    have al2 := al.sf (.of_but B k02)
    have B2' : BoxAt H2 b (n + 2) := B2
    have q2 : ∀ (p : Addr) (H' : Hp) (us : List Addr) (qs : List Pr), H2 p = none → H' p = some (.lst (us.map V.ref)) → AllPr H' us qs → PsOk qs → (∀ q ∈ qs, q.1 ∈ nmsOf ps) → BoxAt H' b (n + 2) → But b H2 H' → Q (.ref p) H' :=
      fun p H' us qs hp e a o m B' k' => q p H' us qs (free_of k02 (box_ne B2 hp) hp) e a o m B' (k02.trans k')
    clear q
    have no : ∀ {x y : Int}, x ≠ y → decide (V.int x = V.int y) = false := fun h => decide_eq_false fun z => h (V.int.inj z)
    obtain ⟨pr, hpr⟩ : ∃ pr, ps[i]? = some pr := ⟨_, List.getElem?_eq_getElem hi⟩
    have hm := List.mem_of_getElem? hpr
    obtain ⟨t, hti, d, et, ed⟩ := al2.at hpr
    obtain ⟨zs, hv⟩ := ok.val pr hm
    have kd := ok.kd pr hm
    have h6 := hv.six
    have hli : i ≤ (ts.map V.ref).length := by rw [List.length_map]; omega
    have hli1 : i + 1 ≤ (ts.map V.ref).length := by rw [List.length_map]; omega
    have free_in2 : ∀ {p : Addr}, H2 p = none → H2 p = none := fun h => h
    have eti : (ts.map V.ref)[i]? = some (V.ref t) := by rw [List.getElem?_map, hti] <;> rfl
    match j, hj with
    | 0, _ =>
      refine ⟨_, rfl, rfl, _, rfl, ifY rfl ⟨_, rfl, l, _, rfl, .inl (.of el2), fun p hp => ?_⟩⟩
      exact q2 p _ ts ps hp upd_same (al2.sf (.of_same (Same.new hp))) ok (fun r hr' => List.mem_map.mpr ⟨r, hr', rfl⟩) (box_new B2 hp) (But.new hp)
    | 1, _ =>
      refine ⟨_, rfl, rfl, _, rfl, ifN (no (by decide)) ⟨_, rfl, rfl, _, rfl, ifY rfl ?_⟩⟩
      refine ⟨_, rfl, _, rfl, l, _, rfl, .of el2, fun m1 h1 => ?_⟩
      have c1 : cutV (ts.map V.ref) (some 1) none = (ts.map V.ref).drop 1 := cutV_from _ 1 (by rw [List.length_map]; omega)
      have c2 : cutV (ts.map V.ref) none (some 1) = (ts.map V.ref).take 1 := cutV_to _ 1 (by rw [List.length_map]; omega)
      rw [c1] at *
      have s1 := Same.new (o := .lst ((ts.map V.ref).drop 1)) h1
      refine ⟨_, rfl, _, rfl, l, _, rfl, .of (s1 _ _ el2), fun m2 h2 => ?_⟩
      rw [c2] at *
      have s2 := s1.trans (Same.new (o := .lst ((ts.map V.ref).take 1)) h2)
      have em1 := (Same.new (o := .lst ((ts.map V.ref).take 1)) h2) _ _ (upd_same (H := H2) (a := m1) (o := .lst ((ts.map V.ref).drop 1)))
      refine ⟨m1, m2, _, _, rfl, rfl, em1, upd_same, ?_, fun m3 h3 => ?_⟩
      · rw [List.length_take, List.length_drop, List.length_map]
        exact Nat.le_of_lt (small1000 (by omega))
      have s3 := s2.trans (Same.new (o := .lst ((ts.map V.ref).drop 1 ++ (ts.map V.ref).take 1)) h3)
      have al3 := al2.sf (.of_same s3)
      have pm : (ps.drop 1 ++ ps.take 1).Perm ps := List.perm_append_comm.trans (by rw [List.take_append_drop])
      refine q2 m3 _ (ts.drop 1 ++ ts.take 1) (ps.drop 1 ++ ps.take 1) (s2.free h3) (upd_same.trans (by rw [List.map_append, List.map_drop, List.map_take])) (AllPr.app (al3.drop 1) (al3.take 1)) (ok.perm pm) (fun r hr' => List.mem_map.mpr ⟨r, pm.mem_iff.mp hr', rfl⟩) (B2.keep fun o e => s3 _ _ e) (.same s3)
    | 4, _ =>
      refine ⟨_, rfl, rfl, _, rfl, ifN (no (by decide)) ⟨_, rfl, rfl, _, rfl, ifN (no (by decide)) ?_⟩⟩
      refine ⟨_, rfl, _, rfl, l, _, _, .ref t, rfl, rfl, .of el2, atI_nat eti, t, _, rfl, .of et, rfl, _, _, rfl, _, _, rfl, rfl, ?_⟩
      refine ⟨_, rfl, rfl, _, rfl, ifY rfl ?_⟩
      refine ⟨_, rfl, d, pr.2, rfl, .inl ed, fun m hm' => ?_⟩
      have s2 := Same.new (o := .lst (pr.2.map fun kv => kV kv.1)) hm'
      refine ⟨_, rfl, _, rfl, m, _, rfl, .of upd_same, rfl, fun m2 hm2 => ⟨m2, rfl, ⟨_, .of upd_same⟩, fun D hD => ?_⟩⟩
      rw [← List.map_reverse] at *
      have s3 := s2.trans (Same.new (o := .lst (pr.2.reverse.map fun kv => kV kv.1)) hm2)
      have em23 : (upd (upd H2 m (.lst (pr.2.map fun kv => kV kv.1))) m2 (.lst (pr.2.reverse.map fun kv => kV kv.1))) m2 = some (.lst (pr.2.reverse.map fun kv => kV kv.1)) := upd_same
      generalize upd (upd H2 m (.lst (pr.2.map fun kv => kV kv.1))) m2 (.lst (pr.2.reverse.map fun kv => kV kv.1)) = H3 at s3 em23 hD ⊢
      refine lc_list (xs := pr.2.reverse.map fun kv => kV kv.1) (fun i H4 => Same H3 H4 ∧ ∃ us : List Addr, H4 D = some (.lst (us.map V.ref)) ∧ Paired (fun (p : Addr) (kv : Key × V) => H4 p = some (.tup [kV kv.1, kv.2])) us (pr.2.reverse.take i)) ?_ ?_ ?_ ?_
      · exact ⟨Same.new hD, [], upd_same, .nil⟩
      · exact fun _ _ _ h => .of (h.1 _ _ em23)
      · rintro i x H4 hx ⟨s4, us, e4, pr4⟩
        rw [List.getElem?_map] at hx
        obtain ⟨kv, hkv, rfl⟩ := Option.map_eq_some_iff.mp hx
        have hi : i < pr.2.length := by
          have := (List.getElem?_eq_some_iff.mp hkv).1
          rwa [List.length_reverse] at this
        refine ⟨rfl, ?_⟩
        unfold tYes
        dsimp only
        rw [if_pos rfl]
        have hval : valV pr.2 kv.1 = some kv.2 := valV_mem kd (List.mem_reverse.mp (List.mem_of_getElem? hkv))
        refine ⟨_, rfl, _, rfl, _, rfl, d, kv.2, rfl, .inl ⟨pr.2, kv.1, .inl (s4 _ _ (s3 _ _ ed)), rfl, hval.symm⟩, (by show 2 ≤ sizeLine; decide), fun t ht => ?_⟩
        have e5 := Same.new (o := .tup [kV kv.1, kv.2]) ht _ _ e4
        refine ⟨_, e5, ?_, fun c o eo => (upd_ne (ne_of_none eo hD)).trans (Same.new ht _ _ (s4 _ _ eo)), us ++ [t], ?_, ?_⟩
        · have := pr4.length
          rw [List.length_take, List.length_reverse] at this
          rw [List.length_map]
          exact small1000 (by omega)
        · rw [upd_same, List.map_append]
          rfl
        · have e9 : pr.2.reverse.take (i + 1) = pr.2.reverse.take i ++ [kv] := by
            rw [List.take_add_one, hkv]
            rfl
          rw [e9]
          refine Paired.snoc (pr4.mono fun a c h => ?_) ?_
          · have h2 := Same.new (o := .tup [kV kv.1, kv.2]) ht _ _ h
            exact (upd_ne fun z => by
              rw [z, e5] at h2
              cases h2).trans h2
          · have h2 : (upd H4 t (.tup [kV kv.1, kv.2])) t = some (.tup [kV kv.1, kv.2]) := upd_same
            exact (upd_ne (ne_of_none e4 ht).symm).trans h2
      · rintro H4 ⟨s4, us, e4, pr4⟩
        rw [List.length_map, List.take_length] at pr4
        refine ⟨D, us, pr.2.reverse, rfl, .of e4, pr4.mono (fun a c h => .of h), fun p hp => ?_⟩
        rw [merge_nd pr.2.reverse [] (nd_rev kd), List.nil_append]
        have s24 := s3.trans s4
        have s5 := s24.trans (Same.new (o := .dK pr.2.reverse) hp)
        have ep5 : (upd H4 p (.dK pr.2.reverse)) p = some (.dK pr.2.reverse) := upd_same
        generalize upd H4 p (.dK pr.2.reverse) = H5 at s5 ep5 ⊢
        have B5 : BoxAt H5 b (n + 2) := B2'.keep fun o e => s5 _ _ e
        have k5 : But b H2 H5 := .same s5
        have el5 := s5 _ _ el2
        have al5 := al2.sf (.of_same s5)
        refine ⟨_, rfl, _, rfl, _, rfl, l, _, rfl, .of el5, fun m1 h1 => ?_⟩
        rw [cutV_to _ i hli] at *
        have s1 := Same.new (o := .lst ((ts.map V.ref).take i)) h1
        refine ⟨_, rfl, _, rfl, (by show 2 ≤ sizeLine; decide), fun T hT => ⟨(by show 1 ≤ sizeLine; decide), fun m2 h2 => ?_⟩⟩
        have s2 := (Same.new (o := .tup [.str pr.1, .ref p]) hT).trans (Same.new (o := .lst [.ref T]) h2)
        have em1 := s2 _ _ (upd_same (H := H5) (a := m1) (o := .lst ((ts.map V.ref).take i)))
        have eT := (Same.new (o := .lst [.ref T]) h2) _ _ (upd_same (H := upd H5 m1 (.lst ((ts.map V.ref).take i))) (a := T) (o := .tup [.str pr.1, .ref p]))
        have em2 : (upd (upd (upd H5 m1 (.lst ((ts.map V.ref).take i))) T (.tup [.str pr.1, .ref p])) m2 (.lst [.ref T])) m2 = some (.lst [.ref T]) := upd_same
        have s12 := s1.trans s2
        generalize upd (upd (upd H5 m1 (.lst ((ts.map V.ref).take i))) T (.tup [.str pr.1, .ref p])) m2 (.lst [.ref T]) = HA at s2 em1 em2 eT s12 ⊢
        refine ⟨m1, m2, _, _, rfl, rfl, em1, em2, ?_, fun m3 h3 => ?_⟩
        · rw [List.length_take, List.length_map]
          exact Nat.le_of_lt (small1000 (by show min i ts.length + 1 ≤ 1000; omega))
        have s3 := Same.new (o := .lst ((ts.map V.ref).take i ++ [.ref T])) h3
        have em3 : (upd HA m3 (.lst ((ts.map V.ref).take i ++ [.ref T]))) m3 = some (.lst ((ts.map V.ref).take i ++ [.ref T])) := upd_same
        generalize upd HA m3 (.lst ((ts.map V.ref).take i ++ [.ref T])) = HB at s3 em3 ⊢
        have s13 := s12.trans s3
        refine ⟨_, rfl, _, rfl, _, _, rfl, rfl, _, rfl, l, _, rfl, .of (s13 _ _ el5), fun m4 h4 => ?_⟩
        rw [show cutV (ts.map V.ref) (some ((i : Nat) + 1 : Int)) none = (ts.map V.ref).drop (i + 1) from cutV_from _ (i + 1) hli1] at *
        have s4 := Same.new (o := .lst ((ts.map V.ref).drop (i + 1))) h4
        refine ⟨m3, m4, _, _, rfl, rfl, s4 _ _ em3, upd_same, ?_, fun m5 h5 => ?_⟩
        · rw [List.length_append, List.length_take, List.length_drop, List.length_map]
          exact Nat.le_of_lt (small1000 (by show min i ts.length + 1 + (ts.length - (i + 1)) ≤ 1000; omega))
        have s5 := Same.new (o := .lst ((ts.map V.ref).take i ++ [.ref T] ++ (ts.map V.ref).drop (i + 1))) h5
        have sA := s13.trans (s4.trans s5)
        have alA := al5.sf (.of_same sA)
        refine q2 m5 _ (ts.take i ++ T :: ts.drop (i + 1)) (ps.take i ++ (pr.1, pr.2.reverse) :: ps.drop (i + 1)) (free_in2 ?_) ?_ (AllPr.app (alA.take i) ⟨⟨p, (s3.trans (s4.trans s5)) _ _ eT, sA _ _ ep5⟩, alA.drop (i + 1)⟩) (ok.set hpr hv.rev (nd_rev kd)) ?_ (B5.keep (fun o e => sA _ _ e)) (k5.trans (.same sA))
        · exact free_but (k5.trans (.same (s13.trans s4))) (box_ne (B5.keep (fun o e => (s13.trans s4) _ _ e)) h5) h5
        · refine upd_same.trans ?_
          rw [List.append_assoc, List.map_append, List.map_take, List.map_cons, List.map_drop]
          rfl
        · intro r hr'
          rcases List.mem_append.mp hr' with hr' | hr'
          · exact List.mem_map.mpr ⟨r, List.mem_of_mem_take hr', rfl⟩
          · rcases List.mem_cons.mp hr' with rfl | hr'
            · exact List.mem_map.mpr ⟨pr, hm, rfl⟩
            · exact List.mem_map.mpr ⟨r, List.mem_of_mem_drop hr', rfl⟩
    | 2, _ =>
      refine ⟨_, rfl, rfl, _, rfl, ifN (no (by decide)) ⟨_, rfl, rfl, _, rfl, ifN (no (by decide)) ?_⟩⟩
      refine ⟨_, rfl, _, rfl, l, _, _, .ref t, rfl, rfl, .of el2, atI_nat eti, t, _, rfl, .of et, rfl, _, _, rfl, _, _, rfl, rfl, ?_⟩
      refine ⟨_, rfl, rfl, _, rfl, ifN (no (by decide)) ?_⟩
      refine ⟨_, rfl, d, pr.2, rfl, .inl ed, fun w1 hw1 => ?_⟩
      have s3 := Same.new (o := .dK pr.2) hw1
      have ew3 : (upd H2 w1 (.dK pr.2)) w1 = some (.dK pr.2) := upd_same
      have nwd : w1 ≠ d := (ne_of_none ed hw1).symm
      generalize upd H2 w1 (.dK pr.2) = H3 at s3 ew3 ⊢
      refine ⟨_, rfl, d, pr.2, rfl, .inl (s3 _ _ ed), fun m hm' => ?_⟩
      have s4 := s3.trans (Same.new (o := .lst (pr.2.map fun kv => kV kv.1)) hm')
      have ew4 := Same.new (o := .lst (pr.2.map fun kv => kV kv.1)) hm' _ _ ew3
      have em4 : (upd H3 m (.lst (pr.2.map fun kv => kV kv.1))) m = some (.lst (pr.2.map fun kv => kV kv.1)) := upd_same
      generalize upd H3 m (.lst (pr.2.map fun kv => kV kv.1)) = H4 at s4 ew4 em4 ⊢
      obtain ⟨kv0, h0⟩ : ∃ kv0, pr.2[0]? = some kv0 := ⟨_, List.getElem?_eq_getElem hv.pos⟩
      obtain ⟨k0, v0⟩ := kv0
      obtain ⟨z, c, rfl, hz, hvz, c0, c1⟩ := valV_of hv.is h0
      refine ⟨m, _, ((0 : Nat) : Int), .str z, rfl, rfl, .of em4, atI_nat (by rw [List.getElem?_map, h0] <;> rfl), _, _, rfl, ?_⟩
      have kin : (Sum.inr z : Key) ∈ pr.2.map (·.1) := List.mem_map.mpr ⟨_, List.mem_of_getElem? h0, rfl⟩
      have put : ∀ x : Int, -999 ≤ x → x ≤ 999 → ValOk zs (putK pr.2 (Sum.inr z) (.int x)) := fun x x0 x1 => ⟨hv.nm, hv.is.put hz x0 x1, putK_pos _ _ _, by rw [putK_in _ kin]; exact h6⟩
      refine ⟨_, rfl, _, rfl, d, .int c, rfl, .inl ⟨pr.2, Sum.inr z, .inl (s4 _ _ ed), rfl, hvz.symm⟩, ?_⟩
      refine ⟨_, rfl, _, _, rfl, rfl, _, rfl, ite2 (fun hc => ?_) (fun hc => ?_)⟩
      · refine ⟨_, rfl, _, rfl, d, .int c, rfl, .inl ⟨pr.2, Sum.inr z, .inl (s4 _ _ ed), rfl, hvz.symm⟩, _, _, rfl, rfl, ?_⟩
        refine ⟨_, rfl, _, rfl, w1, _, rfl, DPut.k (k := Sum.inr z) ew4 (small1000 (by omega)), ?_⟩
        have hc2 := of_decide_eq_true hc
        have s5 : Same H2 (upd H4 w1 (.dK (putK pr.2 (Sum.inr z) (.int (c - 1))))) := fun c o e => (upd_ne (ne_of_none e hw1)).trans (s4 _ _ e)
        have ew5 : (upd H4 w1 (.dK (putK pr.2 (Sum.inr z) (.int (c - 1))))) w1 = some (.dK (putK pr.2 (Sum.inr z) (.int (c - 1)))) := upd_same
        generalize upd H4 w1 (.dK (putK pr.2 (Sum.inr z) (.int (c - 1)))) = H5 at s5 ew5 ⊢
        have B5 : BoxAt H5 b (n + 2) := B2'.keep fun o e => s5 _ _ e
        have k5 : But b H2 H5 := .same s5
        have el5 := s5 _ _ el2
        have al5 := al2.sf (.of_same s5)
        refine ⟨_, rfl, rfl, _, rfl, ifY rfl ?_⟩
        refine ⟨_, rfl, _, rfl, _, rfl, l, _, rfl, .of el5, fun m1 h1 => ?_⟩
        rw [cutV_to _ i hli] at *
        have s1 := Same.new (o := .lst ((ts.map V.ref).take i)) h1
        refine ⟨_, rfl, _, rfl, (by show 2 ≤ sizeLine; decide), fun T hT => ⟨(by show 1 ≤ sizeLine; decide), fun m2 h2 => ?_⟩⟩
        have s2 := (Same.new (o := .tup [.str pr.1, .ref w1]) hT).trans (Same.new (o := .lst [.ref T]) h2)
        have em1 := s2 _ _ (upd_same (H := H5) (a := m1) (o := .lst ((ts.map V.ref).take i)))
        have eT := (Same.new (o := .lst [.ref T]) h2) _ _ (upd_same (H := upd H5 m1 (.lst ((ts.map V.ref).take i))) (a := T) (o := .tup [.str pr.1, .ref w1]))
        have em2 : (upd (upd (upd H5 m1 (.lst ((ts.map V.ref).take i))) T (.tup [.str pr.1, .ref w1])) m2 (.lst [.ref T])) m2 = some (.lst [.ref T]) := upd_same
        have s12 := s1.trans s2
        generalize upd (upd (upd H5 m1 (.lst ((ts.map V.ref).take i))) T (.tup [.str pr.1, .ref w1])) m2 (.lst [.ref T]) = HA at s2 em1 em2 eT s12 ⊢
        refine ⟨m1, m2, _, _, rfl, rfl, em1, em2, ?_, fun m3 h3 => ?_⟩
        · rw [List.length_take, List.length_map]
          exact Nat.le_of_lt (small1000 (by show min i ts.length + 1 ≤ 1000; omega))
        have s3 := Same.new (o := .lst ((ts.map V.ref).take i ++ [.ref T])) h3
        have em3 : (upd HA m3 (.lst ((ts.map V.ref).take i ++ [.ref T]))) m3 = some (.lst ((ts.map V.ref).take i ++ [.ref T])) := upd_same
        generalize upd HA m3 (.lst ((ts.map V.ref).take i ++ [.ref T])) = HB at s3 em3 ⊢
        have s13 := s12.trans s3
        refine ⟨_, rfl, _, rfl, _, _, rfl, rfl, _, rfl, l, _, rfl, .of (s13 _ _ el5), fun m4 h4 => ?_⟩
        rw [show cutV (ts.map V.ref) (some ((i : Nat) + 1 : Int)) none = (ts.map V.ref).drop (i + 1) from cutV_from _ (i + 1) hli1] at *
        have s4 := Same.new (o := .lst ((ts.map V.ref).drop (i + 1))) h4
        refine ⟨m3, m4, _, _, rfl, rfl, s4 _ _ em3, upd_same, ?_, fun m5 h5 => ?_⟩
        · rw [List.length_append, List.length_take, List.length_drop, List.length_map]
          exact Nat.le_of_lt (small1000 (by show min i ts.length + 1 + (ts.length - (i + 1)) ≤ 1000; omega))
        have s5 := Same.new (o := .lst ((ts.map V.ref).take i ++ [.ref T] ++ (ts.map V.ref).drop (i + 1))) h5
        have sA := s13.trans (s4.trans s5)
        have alA := al5.sf (.of_same sA)
        refine q2 m5 _ (ts.take i ++ T :: ts.drop (i + 1)) (ps.take i ++ (pr.1, (putK pr.2 (Sum.inr z) (.int (c - 1)))) :: ps.drop (i + 1)) (free_in2 ?_) ?_ (AllPr.app (alA.take i) ⟨⟨w1, (s3.trans (s4.trans s5)) _ _ eT, sA _ _ ew5⟩, alA.drop (i + 1)⟩) (ok.set hpr (put (c - 1) (by omega) (by omega)) (nodup_put kd _ _)) ?_ (B5.keep (fun o e => sA _ _ e)) (k5.trans (.same sA))
        · exact free_but (k5.trans (.same (s13.trans s4))) (box_ne (B5.keep (fun o e => (s13.trans s4) _ _ e)) h5) h5
        · refine upd_same.trans ?_
          rw [List.append_assoc, List.map_append, List.map_take, List.map_cons, List.map_drop]
          rfl
        · intro r hr'
          rcases List.mem_append.mp hr' with hr' | hr'
          · exact List.mem_map.mpr ⟨r, List.mem_of_mem_take hr', rfl⟩
          · rcases List.mem_cons.mp hr' with rfl | hr'
            · exact List.mem_map.mpr ⟨pr, hm, rfl⟩
            · exact List.mem_map.mpr ⟨r, List.mem_of_mem_drop hr', rfl⟩
      · refine ⟨_, rfl, _, rfl, w1, _, rfl, DPut.k (k := Sum.inr z) ew4 (small1000 (by omega)), ?_⟩
        have s5 : Same H2 (upd H4 w1 (.dK (putK pr.2 (Sum.inr z) (.int (5))))) := fun c o e => (upd_ne (ne_of_none e hw1)).trans (s4 _ _ e)
        have ew5 : (upd H4 w1 (.dK (putK pr.2 (Sum.inr z) (.int (5))))) w1 = some (.dK (putK pr.2 (Sum.inr z) (.int (5)))) := upd_same
        generalize upd H4 w1 (.dK (putK pr.2 (Sum.inr z) (.int (5)))) = H5 at s5 ew5 ⊢
        have B5 : BoxAt H5 b (n + 2) := B2'.keep fun o e => s5 _ _ e
        have k5 : But b H2 H5 := .same s5
        have el5 := s5 _ _ el2
        have al5 := al2.sf (.of_same s5)
        refine ⟨_, rfl, rfl, _, rfl, ifY rfl ?_⟩
        refine ⟨_, rfl, _, rfl, _, rfl, l, _, rfl, .of el5, fun m1 h1 => ?_⟩
        rw [cutV_to _ i hli] at *
        have s1 := Same.new (o := .lst ((ts.map V.ref).take i)) h1
        refine ⟨_, rfl, _, rfl, (by show 2 ≤ sizeLine; decide), fun T hT => ⟨(by show 1 ≤ sizeLine; decide), fun m2 h2 => ?_⟩⟩
        have s2 := (Same.new (o := .tup [.str pr.1, .ref w1]) hT).trans (Same.new (o := .lst [.ref T]) h2)
        have em1 := s2 _ _ (upd_same (H := H5) (a := m1) (o := .lst ((ts.map V.ref).take i)))
        have eT := (Same.new (o := .lst [.ref T]) h2) _ _ (upd_same (H := upd H5 m1 (.lst ((ts.map V.ref).take i))) (a := T) (o := .tup [.str pr.1, .ref w1]))
        have em2 : (upd (upd (upd H5 m1 (.lst ((ts.map V.ref).take i))) T (.tup [.str pr.1, .ref w1])) m2 (.lst [.ref T])) m2 = some (.lst [.ref T]) := upd_same
        have s12 := s1.trans s2
        generalize upd (upd (upd H5 m1 (.lst ((ts.map V.ref).take i))) T (.tup [.str pr.1, .ref w1])) m2 (.lst [.ref T]) = HA at s2 em1 em2 eT s12 ⊢
        refine ⟨m1, m2, _, _, rfl, rfl, em1, em2, ?_, fun m3 h3 => ?_⟩
        · rw [List.length_take, List.length_map]
          exact Nat.le_of_lt (small1000 (by show min i ts.length + 1 ≤ 1000; omega))
        have s3 := Same.new (o := .lst ((ts.map V.ref).take i ++ [.ref T])) h3
        have em3 : (upd HA m3 (.lst ((ts.map V.ref).take i ++ [.ref T]))) m3 = some (.lst ((ts.map V.ref).take i ++ [.ref T])) := upd_same
        generalize upd HA m3 (.lst ((ts.map V.ref).take i ++ [.ref T])) = HB at s3 em3 ⊢
        have s13 := s12.trans s3
        refine ⟨_, rfl, _, rfl, _, _, rfl, rfl, _, rfl, l, _, rfl, .of (s13 _ _ el5), fun m4 h4 => ?_⟩
        rw [show cutV (ts.map V.ref) (some ((i : Nat) + 1 : Int)) none = (ts.map V.ref).drop (i + 1) from cutV_from _ (i + 1) hli1] at *
        have s4 := Same.new (o := .lst ((ts.map V.ref).drop (i + 1))) h4
        refine ⟨m3, m4, _, _, rfl, rfl, s4 _ _ em3, upd_same, ?_, fun m5 h5 => ?_⟩
        · rw [List.length_append, List.length_take, List.length_drop, List.length_map]
          exact Nat.le_of_lt (small1000 (by show min i ts.length + 1 + (ts.length - (i + 1)) ≤ 1000; omega))
        have s5 := Same.new (o := .lst ((ts.map V.ref).take i ++ [.ref T] ++ (ts.map V.ref).drop (i + 1))) h5
        have sA := s13.trans (s4.trans s5)
        have alA := al5.sf (.of_same sA)
        refine q2 m5 _ (ts.take i ++ T :: ts.drop (i + 1)) (ps.take i ++ (pr.1, (putK pr.2 (Sum.inr z) (.int (5)))) :: ps.drop (i + 1)) (free_in2 ?_) ?_ (AllPr.app (alA.take i) ⟨⟨w1, (s3.trans (s4.trans s5)) _ _ eT, sA _ _ ew5⟩, alA.drop (i + 1)⟩) (ok.set hpr (put (5) (by omega) (by omega)) (nodup_put kd _ _)) ?_ (B5.keep (fun o e => sA _ _ e)) (k5.trans (.same sA))
        · exact free_but (k5.trans (.same (s13.trans s4))) (box_ne (B5.keep (fun o e => (s13.trans s4) _ _ e)) h5) h5
        · refine upd_same.trans ?_
          rw [List.append_assoc, List.map_append, List.map_take, List.map_cons, List.map_drop]
          rfl
        · intro r hr'
          rcases List.mem_append.mp hr' with hr' | hr'
          · exact List.mem_map.mpr ⟨r, List.mem_of_mem_take hr', rfl⟩
          · rcases List.mem_cons.mp hr' with rfl | hr'
            · exact List.mem_map.mpr ⟨pr, hm, rfl⟩
            · exact List.mem_map.mpr ⟨r, List.mem_of_mem_drop hr', rfl⟩
    | 3, _ =>
      refine ⟨_, rfl, rfl, _, rfl, ifN (no (by decide)) ⟨_, rfl, rfl, _, rfl, ifN (no (by decide)) ?_⟩⟩
      refine ⟨_, rfl, _, rfl, l, _, _, .ref t, rfl, rfl, .of el2, atI_nat eti, t, _, rfl, .of et, rfl, _, _, rfl, _, _, rfl, rfl, ?_⟩
      refine ⟨_, rfl, rfl, _, rfl, ifN (no (by decide)) ?_⟩
      refine ⟨_, rfl, d, pr.2, rfl, .inl ed, fun w1 hw1 => ?_⟩
      have s3 := Same.new (o := .dK pr.2) hw1
      have ew3 : (upd H2 w1 (.dK pr.2)) w1 = some (.dK pr.2) := upd_same
      have nwd : w1 ≠ d := (ne_of_none ed hw1).symm
      generalize upd H2 w1 (.dK pr.2) = H3 at s3 ew3 ⊢
      refine ⟨_, rfl, d, pr.2, rfl, .inl (s3 _ _ ed), fun m hm' => ?_⟩
      have s4 := s3.trans (Same.new (o := .lst (pr.2.map fun kv => kV kv.1)) hm')
      have ew4 := Same.new (o := .lst (pr.2.map fun kv => kV kv.1)) hm' _ _ ew3
      have em4 : (upd H3 m (.lst (pr.2.map fun kv => kV kv.1))) m = some (.lst (pr.2.map fun kv => kV kv.1)) := upd_same
      generalize upd H3 m (.lst (pr.2.map fun kv => kV kv.1)) = H4 at s4 ew4 em4 ⊢
      obtain ⟨kv0, h0⟩ : ∃ kv0, pr.2[0]? = some kv0 := ⟨_, List.getElem?_eq_getElem hv.pos⟩
      obtain ⟨k0, v0⟩ := kv0
      obtain ⟨z, c, rfl, hz, hvz, c0, c1⟩ := valV_of hv.is h0
      refine ⟨m, _, ((0 : Nat) : Int), .str z, rfl, rfl, .of em4, atI_nat (by rw [List.getElem?_map, h0] <;> rfl), _, _, rfl, ?_⟩
      have kin : (Sum.inr z : Key) ∈ pr.2.map (·.1) := List.mem_map.mpr ⟨_, List.mem_of_getElem? h0, rfl⟩
      have put : ∀ x : Int, -999 ≤ x → x ≤ 999 → ValOk zs (putK pr.2 (Sum.inr z) (.int x)) := fun x x0 x1 => ⟨hv.nm, hv.is.put hz x0 x1, putK_pos _ _ _, by rw [putK_in _ kin]; exact h6⟩
      refine ⟨_, rfl, _, rfl, d, .int c, rfl, .inl ⟨pr.2, Sum.inr z, .inl (s4 _ _ ed), rfl, hvz.symm⟩, ?_⟩
      refine ⟨_, rfl, _, _, rfl, rfl, _, rfl, ite2 (fun hc => ?_) (fun hc => ?_)⟩
      · refine ⟨_, rfl, _, rfl, d, .int c, rfl, .inl ⟨pr.2, Sum.inr z, .inl (s4 _ _ ed), rfl, hvz.symm⟩, _, _, rfl, rfl, ?_⟩
        refine ⟨_, rfl, _, rfl, w1, _, rfl, DPut.k (k := Sum.inr z) ew4 (small1000 (by omega)), ?_⟩
        have hc2 := of_decide_eq_true hc
        have s5 : Same H2 (upd H4 w1 (.dK (putK pr.2 (Sum.inr z) (.int (c - 1))))) := fun c o e => (upd_ne (ne_of_none e hw1)).trans (s4 _ _ e)
        have ew5 : (upd H4 w1 (.dK (putK pr.2 (Sum.inr z) (.int (c - 1))))) w1 = some (.dK (putK pr.2 (Sum.inr z) (.int (c - 1)))) := upd_same
        generalize upd H4 w1 (.dK (putK pr.2 (Sum.inr z) (.int (c - 1)))) = H5 at s5 ew5 ⊢
        have B5 : BoxAt H5 b (n + 2) := B2'.keep fun o e => s5 _ _ e
        have k5 : But b H2 H5 := .same s5
        have el5 := s5 _ _ el2
        have al5 := al2.sf (.of_same s5)
        refine ⟨_, rfl, rfl, _, rfl, ifN (no (by decide)) ?_⟩
        refine ⟨_, rfl, _, rfl, _, rfl, l, _, rfl, .of el5, fun m1 h1 => ?_⟩
        rw [cutV_to _ i hli] at *
        have s1 := Same.new (o := .lst ((ts.map V.ref).take i)) h1
        have em1 : (upd H5 m1 (.lst ((ts.map V.ref).take i))) m1 = some (.lst ((ts.map V.ref).take i)) := upd_same
        generalize upd H5 m1 (.lst ((ts.map V.ref).take i)) = HA at s1 em1 ⊢
        refine ⟨_, rfl, _, rfl, _, _, rfl, rfl, _, rfl, l, _, rfl, .of (s1 _ _ el5), fun m4 h4 => ?_⟩
        rw [show cutV (ts.map V.ref) (some ((i : Nat) + 1 : Int)) none = (ts.map V.ref).drop (i + 1) from cutV_from _ (i + 1) hli1] at *
        have s4 := Same.new (o := .lst ((ts.map V.ref).drop (i + 1))) h4
        refine ⟨m1, m4, _, _, rfl, rfl, s4 _ _ em1, upd_same, ?_, fun m5 h5 => ?_⟩
        · rw [List.length_take, List.length_drop, List.length_map]
          exact Nat.le_of_lt (small1000 (by show min i ts.length + (ts.length - (i + 1)) ≤ 1000; omega))
        have s5' := Same.new (o := .lst ((ts.map V.ref).take i ++ (ts.map V.ref).drop (i + 1))) h5
        have sA := s1.trans (s4.trans s5')
        have alA := al5.sf (.of_same sA)
        refine q2 m5 _ (delP ts i) (delP ps i) ?_ ?_ (alA.del i) (ok.del i) ?_ (B5.keep (fun o e => sA _ _ e)) (k5.trans (.same sA))
        · exact free_but (k5.trans (.same (s1.trans s4))) (box_ne (B5.keep (fun o e => (s1.trans s4) _ _ e)) h5) h5
        · refine upd_same.trans ?_
          rw [delP_map]
          rfl
        · intro r hr'
          exact List.mem_map.mpr ⟨r, (delP_sub ps i).subset hr', rfl⟩
      · refine ⟨_, rfl, _, rfl, w1, _, rfl, DPut.k (k := Sum.inr z) ew4 (small1000 (by omega)), ?_⟩
        have s5 : Same H2 (upd H4 w1 (.dK (putK pr.2 (Sum.inr z) (.int (5))))) := fun c o e => (upd_ne (ne_of_none e hw1)).trans (s4 _ _ e)
        have ew5 : (upd H4 w1 (.dK (putK pr.2 (Sum.inr z) (.int (5))))) w1 = some (.dK (putK pr.2 (Sum.inr z) (.int (5)))) := upd_same
        generalize upd H4 w1 (.dK (putK pr.2 (Sum.inr z) (.int (5)))) = H5 at s5 ew5 ⊢
        have B5 : BoxAt H5 b (n + 2) := B2'.keep fun o e => s5 _ _ e
        have k5 : But b H2 H5 := .same s5
        have el5 := s5 _ _ el2
        have al5 := al2.sf (.of_same s5)
        refine ⟨_, rfl, rfl, _, rfl, ifN (no (by decide)) ?_⟩
        refine ⟨_, rfl, _, rfl, _, rfl, l, _, rfl, .of el5, fun m1 h1 => ?_⟩
        rw [cutV_to _ i hli] at *
        have s1 := Same.new (o := .lst ((ts.map V.ref).take i)) h1
        have em1 : (upd H5 m1 (.lst ((ts.map V.ref).take i))) m1 = some (.lst ((ts.map V.ref).take i)) := upd_same
        generalize upd H5 m1 (.lst ((ts.map V.ref).take i)) = HA at s1 em1 ⊢
        refine ⟨_, rfl, _, rfl, _, _, rfl, rfl, _, rfl, l, _, rfl, .of (s1 _ _ el5), fun m4 h4 => ?_⟩
        rw [show cutV (ts.map V.ref) (some ((i : Nat) + 1 : Int)) none = (ts.map V.ref).drop (i + 1) from cutV_from _ (i + 1) hli1] at *
        have s4 := Same.new (o := .lst ((ts.map V.ref).drop (i + 1))) h4
        refine ⟨m1, m4, _, _, rfl, rfl, s4 _ _ em1, upd_same, ?_, fun m5 h5 => ?_⟩
        · rw [List.length_take, List.length_drop, List.length_map]
          exact Nat.le_of_lt (small1000 (by show min i ts.length + (ts.length - (i + 1)) ≤ 1000; omega))
        have s5' := Same.new (o := .lst ((ts.map V.ref).take i ++ (ts.map V.ref).drop (i + 1))) h5
        have sA := s1.trans (s4.trans s5')
        have alA := al5.sf (.of_same sA)
        refine q2 m5 _ (delP ts i) (delP ps i) ?_ ?_ (alA.del i) (ok.del i) ?_ (B5.keep (fun o e => sA _ _ e)) (k5.trans (.same sA))
        · exact free_but (k5.trans (.same (s1.trans s4))) (box_ne (B5.keep (fun o e => (s1.trans s4) _ _ e)) h5) h5
        · refine upd_same.trans ?_
          rw [delP_map]
          rfl
        · intro r hr'
          exact List.mem_map.mpr ⟨r, (delP_sub ps i).subset hr', rfl⟩
end
end G
set_option Elab.async false
set_option linter.all false
set_option maxRecDepth 100000
set_option maxHeartbeats 4000000
/-! LA1: drawn pairs; == with an empty list; how inserted is called. -/
namespace G
open PySem PySem.Spec PyProof.Rows L2 NdefX
section
variable {X : Cx}
def rEqNil (K : PySem.W.Frag) : R2 := fun x y H Q => ∃ a b xs, x = .ref a ∧ y = .ref b ∧ SqL K H a xs ∧ SqL K H b [] ∧ Q (.bl xs.isEmpty) H
theorem op_eqNil (hu : X.A.units < cLine) : OpR X (compareOp .Eq) (rEqNil X.K) := by
  intro pins s σ H x y v u Q I rx ry h
  obtain ⟨a, b, xs, rfl, rfl, ha, hb, q⟩ := h
  cases (show v = Value.ref a from rx)
  cases (show u = Value.ref b from ry)
  obtain ⟨us, r1, p1, _⟩ := I.list ha
  obtain ⟨ws, r2, p2, _⟩ := I.list hb
  cases r2
  cases xs with
  | nil =>
    cases r1
    refine SeqAt.RcAt.lists (e := fun _ => true) p1.isList p2.isList rfl hu (fun j h1 h2 => absurd h1 (Nat.not_lt_zero j)) X.prog X.w _ _ ?_
    exact ⟨.bl true, H, I, rfl, q⟩
  | cons x xs =>
    refine SeqAt.RcAt.lists_lengths p1.isList p2.isList ?_ hu X.prog X.w _ _ ?_
    · have := r1.length
      rw [List.length_cons] at this
      rw [List.size_toArray, List.size_toArray, ← this]
      rfl
    · exact ⟨.bl false, H, I, rfl, q⟩
end
abbrev sPairs : Stmt := topS 35
abbrev nPairs : List Str := ["_law_box_here", "_law_names_here", "_law_fields", "_law_name"]
theorem scPairs : FnScope nPairs ["_law_box_here", "_law_names_here", "_law_fields"] (defScope sPairs) := ⟨rfl, rfl, rfl, by decide +kernel, rfl, by decide +kernel, by decide +kernel⟩
/-- a value as it must be, of these fields -/
structure VOk (zs : List Str) (kvs : List (Key × V)) : Prop where
  ok : ValOk zs kvs
  nd : (kvs.map (·.1)).Nodup
theorem psok_of {fs : List Str} {ps : List Pr} (l : ps.length ≤ 40) (nd : (nmsOf ps).Nodup) (nm : ∀ z ∈ nmsOf ps, NameZ z) (v : ∀ q ∈ ps, VOk fs q.2) : PsOk ps :=
  ⟨l, nd, fun p hp => nm _ (List.mem_map.mpr ⟨p, hp, rfl⟩), fun p hp => ⟨fs, (v p hp).ok⟩, fun p hp => (v p hp).nd⟩
theorem pr_at_up {H : Hp} {D : Addr} {xs ys : List V} {ts : List Addr} {ps : List Pr} (e : H D = some (.lst xs)) (h : AllPr H ts ps) : AllPr (upd H D (.lst ys)) ts ps := h.sf (.put e)
theorem cutV_take (xs : List V) (k : Nat) : cutV xs none (some (k : Int)) = xs.take k := by
  unfold cutV
  rw [HT.sIx_none, HT.sIx_nat, List.drop_zero, Nat.sub_zero]
  by_cases h : k ≤ xs.length
  · rw [Nat.min_eq_left h]
  · rw [Nat.min_eq_right (by omega), List.take_length, List.take_of_length_le (by omega)]
theorem perm_map_inv {α β : Type} {f : α → β} : ∀ {xs zs : List β}, xs.Perm zs → ∀ as : List α, zs = as.map f → ∃ us : List α, xs = us.map f ∧ us.Perm as := by
  intro xs zs pm
  induction pm with
  | nil =>
    intro as e
    exact ⟨as, e, .refl _⟩
  | @cons x l1 l2 _ ih =>
    intro as e
    cases as with
    | nil => cases e
    | cons a as =>
      rw [List.map_cons] at e
      obtain ⟨us, e1, p1⟩ := ih as (List.cons.inj e).2
      exact ⟨a :: us, by rw [List.map_cons, (List.cons.inj e).1, e1], p1.cons a⟩
  | swap x y l =>
    intro as e
    cases as with
    | nil => cases e
    | cons a as =>
      rw [List.map_cons] at e
      obtain ⟨e1, e2⟩ := List.cons.inj e
      cases as with
      | nil => cases e2
      | cons a2 as =>
        rw [List.map_cons] at e2
        obtain ⟨e3, e4⟩ := List.cons.inj e2
        exact ⟨a2 :: a :: as, by rw [List.map_cons, List.map_cons, e1, e3, e4], List.Perm.swap _ _ _⟩
  | trans _ _ ih1 ih2 =>
    intro as e
    obtain ⟨us, e1, p1⟩ := ih2 as e
    obtain ⟨us2, e2, p2⟩ := ih1 us e1
    exact ⟨us2, e2, p2.trans p1⟩
def spPairs : Sp := fun vs H Q _ => ∃ (b nl fl : Addr) (n : Nat) (ys zs : List Str), vs = [.ref b, .ref nl, .ref fl] ∧ BoxAt H b n ∧ n + 300 * ys.length ≤ 70000 ∧ H nl = some (.lst (ys.map V.str)) ∧ ys.length ≤ 40 ∧ H fl = some (.lst (zs.map V.str)) ∧ (∀ z ∈ zs, NameZ z) ∧ 1 ≤ zs.length ∧ zs.length ≤ 100 ∧ nl ≠ b ∧ fl ≠ b ∧
  ∀ (p : Addr) (H' : Hp) (ts : List Addr) (ps : List Pr), H p = none → H' p = some (.lst (ts.map V.ref)) → AllPr H' ts ps → nmsOf ps = ys → (∀ q ∈ ps, VOk zs q.2) → BoxAt H' b (n + 300 * ys.length) → But b H H' → Q (.ref p) H'
section
variable {P : Program} {w : World} {K : PySem.W.Frag} {mg : Str → Option Value} {base : Heap} {f C : Addr} {fd : FuncData}
theorem ok_pairs {fV : Addr} {fdV : FuncData} (F : Fun K "_law_pairs" "_law_pairs" sPairs f fd) (GV : FnOk P w K mg base CX0 3 fV fdV ["_law_box_here", "_law_fields"] (spValue K)) (gV : mg "_law_value" = some (.ref fV)) (kV : PySem.W.keepIn K (.ref fV) = true) (bV : Binds K fdV ["_law_box_here", "_law_fields"] []) :
    FnOk P w K mg base CX0 4 f fd ["_law_box_here", "_law_names_here", "_law_fields"] spPairs := by
  refine F.ok scPairs (fun vs H Q E h => ?_) (fun cdv A outer s H vs Q E hr h => ?_)
  · obtain ⟨b, nl, fl, n, ys, zs, rfl, _⟩ := h
    rfl
  · obtain ⟨b, nl, fl, n, ys, zs, rfl, B, hn, en, l40, ef, hz, l1, l100, nnb, nfb, q⟩ := h
    refine ⟨_, pss_one (ps_ret (pe_lc (own := [("_law_name", 3)]) (g := gName 3) (tt := tYes) (by rfl) scPairs.nd (pi_list (pv 1))
        (blkOk_by (own := [("_law_name", 3)]) (N := nPairs) (sc := defScope sPairs) (by decide +kernel)) (fun _ _ _ _ _ => pg_name (i := 3) scPairs.nd rfl (.inl rfl)) (fun _ _ _ _ _ => pts_nil)
        (fun _ _ _ _ _ => pe_tup (pa_cons (pv 3) (pa_cons (pe_call GV hr rfl gV kV bV .nil pass0 (pa_cons (pv 0) (pa_cons (pv 2) pa_nil))) pa_nil))))), ?_⟩
    refine ⟨_, rfl, nl, rfl, ⟨_, .of en⟩, fun D hD => ?_⟩
    have nDb := box_ne B hD
    refine lc_list (xs := ys.map V.str) (fun i H3 => ∃ (us : List Addr) (ps : List Pr), H3 D = some (.lst (us.map V.ref)) ∧ AllPr H3 us ps ∧ nmsOf ps = ys.take i ∧ (∀ q ∈ ps, VOk zs q.2) ∧ BoxAt H3 b (n + 300 * i) ∧ But b H H3) ?_ ?_ ?_ ?_
    · exact ⟨[], [], upd_same, trivial, rfl, (fun _ h => nomatch h), box_new B hD, But.new hD⟩
    · rintro i H3 _ ⟨us, ps, _, _, _, _, _, k⟩
      exact .of (k _ _ nnb en)
    · rintro i x H3 hx ⟨us, ps, e3, al3, nm3, ok3, B3, k3⟩
      have hi : i < ys.length := by
        have := (List.getElem?_eq_some_iff.mp hx).1
        rwa [List.length_map] at this
      rw [List.getElem?_map] at hx
      obtain ⟨y, hy, rfl⟩ := Option.map_eq_some_iff.mp hx
      refine ⟨rfl, ?_⟩
      unfold tYes
      dsimp only
      rw [if_pos rfl]
      refine ⟨_, rfl, _, rfl, _, rfl, b, fl, _, zs, rfl, B3, by omega, k3 _ _ nfb ef, hz, l1, l100, nfb, fun d H4 kvs nd e4 ndk vn p1 p6 pz B4 k4 => ?_⟩
      refine ⟨(by show 2 ≤ sizeLine; decide), fun t ht => ?_⟩
      have ndb := box_ne B3 nd
      have e5 := Same.new (o := .tup [.str y, .ref d]) ht _ _ (k4 _ _ nDb e3)
      have k5 : But b H3 (upd H4 t (.tup [.str y, .ref d])) := k4.trans (But.new ht)
      have al5 := al3.sf (.of_but B3 k5)
      have one : AllPr (upd H4 t (.tup [.str y, .ref d])) [t] [(y, kvs)] := ⟨⟨d, upd_same, Same.new ht _ _ e4⟩, trivial⟩
      have B5 := (box_new (o := .tup [.str y, .ref d]) B4 ht)
      refine ⟨_, e5, ?_, us ++ [t], ps ++ [(y, kvs)], ?_, pr_at_up e5 (al5.app one), ?_, ?_, (box_upd B5 nDb).mono (by omega), but_upd (k3.trans k5) hD⟩
      · have := congrArg List.length nm3
        rw [List.length_map, List.length_take] at this
        rw [List.length_map, al3.len]
        exact small1000 (by omega)
      · rw [upd_same, List.map_append]
        rfl
      · rw [show nmsOf (ps ++ [(y, kvs)]) = nmsOf ps ++ [y] from List.map_append, nm3, List.take_add_one, hy]
        rfl
      · intro r hr'
        rcases List.mem_append.mp hr' with hr' | hr'
        · exact ok3 r hr'
        · rw [List.mem_singleton.mp hr']
          exact ⟨⟨hz, vn, p1, p6⟩, ndk⟩
    · rintro H3 ⟨us, ps, e3, al3, nm3, ok3, B3, k3⟩
      rw [List.length_map] at nm3 B3
      rw [List.take_length] at nm3
      exact q D H3 us ps hD e3 al3 nm3 ok3 B3 k3
end
end G
set_option Elab.async false
set_option linter.all false
set_option maxRecDepth 100000
set_option maxHeartbeats 8000000
/-! LM: a turn of the law's inner loop. -/
namespace G
open PySem PySem.Spec PyProof.Rows L2 NdefX
abbrev sLaw : Stmt := topS 39
abbrev nLaw : List Str := ["_law_script", "_law_k", "_law_box_here", "_law_many", "_law_names_here", "_law_pairs_here", "_law_records", "_law_other", "_law_beside", "_law_due", "_law_some", "_law_rows", "_law_thing", "_law_fresh", "_law_name", "_law_one", "_law_worth"]
theorem scLaw : FnScope nLaw ["_law_script"] (defScope sLaw) := ⟨rfl, rfl, rfl, by decide +kernel, rfl, by decide +kernel, by decide +kernel⟩
def forBody : Stmt → List Stmt
  | .For _ _ b _ _ => b
  | _ => []
abbrev loopK : List Stmt := forBody ((defBody sLaw).getD 0 (.Pass ⟨0, 0, 0, 0⟩))
abbrev loopI : List Stmt := forBody (loopK.getD 8 (.Pass ⟨0, 0, 0, 0⟩))
def scIn : Scope := { kind := .function, names := [(".0", .local), ("_law_name", .local), ("_law_rows", .cell)], isGenerator := false, isCoroutine := false }
def spRcCn (C : Addr) : Sp := fun vs H Q _ => ∃ (a : Addr) (ps : List Pr) (v : V), vs = [.ref a, v] ∧ RecAt C H a ps ∧ NoTx H (nmsOf ps) v ∧ Q (.bl false) H
def spRcEo (C : Addr) : Sp := fun vs H Q _ => ∃ (a d : Addr), vs = [.ref a, .ref d] ∧ ((∃ xs, H d = some (.lst xs)) ∨ ∃ kvs, H d = some (.dK kvs)) ∧ Q (.bl false) H
section
variable {P : Program} {w : World} {K : PySem.W.Frag} {mg : Str → Option Value} {base : Heap} {f C : Addr} {fd : FuncData}
theorem ok_rchasN (F : Fun K "__contains__" "Records.__contains__" (sRc 6) f fd) (c : RcC K C) : FnOk P w K mg base CX0 1 f fd ["self", "item"] (spRcCn C) := by
  refine F.ok scRcC (fun vs H Q E h => ?_) (fun cdv A outer s H vs Q E hr h => ?_)
  · obtain ⟨a, ps, v, rfl, _⟩ := h
    rfl
  · obtain ⟨a, ps, v, rfl, ⟨dx, l, n, ts, ha, hl, al, hn⟩, nt, q⟩ := h
    have hu : (A.deeper (envOfC "Records.__contains__" (defScope (sRc 6)) s.heap.objs.size f cdv)).units + 1 < cLine := by have := hr.units; omega
    refine ⟨_, pss_one (ps_ret (pe_cmpR (op_noIn hu) (pv 1) (pe_fld (pv 0) rfl) (by rfl))), ?_⟩
    exact ⟨_, rfl, _, rfl, a, C, dx, _, _, rfl, ha, c.cl, c.n2, rfl, n, _, rfl, .of hn, nt, q⟩
theorem ok_rceqO (F : Fun K "__eq__" "Records.__eq__" (sRc 8) f fd) (c : RcC K C) (k : RcK K C) (gC : mg "Records" = some (.ref C)) (mi : mg "isinstance" = none) : FnOk P w K mg base CX0 1 f fd ["self", "other"] (spRcEo C) := by
  refine F.ok scRcE (fun vs H Q E h => ?_) (fun cdv A outer s H vs Q E hr h => ?_)
  · obtain ⟨a, d, rfl, _⟩ := h
    rfl
  · obtain ⟨a, d, rfl, h, q⟩ := h
    have hu : (A.deeper (envOfC "Records.__eq__" (defScope (sRc 8)) s.heap.objs.size f cdv)).units + 4 < cLine := by have := hr.units; omega
    refine ⟨_, pss_one (ps_ret (pe_and (pe_callB call_isi (by rfl) mi (by decide +kernel) (pa_cons (pv 1) (pa_cons (pe_glob (v := .ref C) rfl gC rfl) pa_nil)))
      (pe_one (pe_cmpR (op_eqPl hu) (pe_fld (pv 0) rfl) (pe_fld (pv 1) rfl) (nomark _))))), ?_⟩
    rcases h with ⟨xs, e⟩ | ⟨kvs, e⟩
    · exact ⟨_, rfl, _, _, _, _, _, rfl, .own C, .base (.lst e), k.kL, _, rfl, iteF q⟩
    · exact ⟨_, rfl, _, _, _, _, _, rfl, .own C, .base (.dK e), k.kD, _, rfl, iteF q⟩
end
/-! ### what is told of things -/
theorem name_repr {z : Str} (h : NameZ z) : (reprText z).length ≤ 200 := by
  have h1 := StrLaws.reprText_len z fun c hc => Nat.lt_of_le_of_lt (h.1 c hc).2 (by decide)
  have := h.2.2
  omega
theorem sh_name {z : Str} (h : NameZ z) : ShOk (.str z) := ⟨rfl, (fun h => nomatch h), Nat.zero_le _, Nat.le_trans (name_repr h) (by decide)⟩
theorem sh_str {z : Str} (h : (reprText z).length ≤ 2000) : ShOk (.str z) := ⟨rfl, (fun h => nomatch h), Nat.zero_le _, h⟩
theorem sh_none : ShOk .none := ⟨rfl, (fun h => nomatch h), Nat.zero_le _, by decide⟩
theorem sh_bool (b : Bool) : ShOk (.bool b) := ⟨rfl, (fun h => nomatch h), Nat.zero_le _, by show 5 ≤ 2000; decide⟩
theorem sh_int {i : Int} (h : i.natAbs.log2 < 1920) : ShOk (.int i) := ⟨by simp only [PyData.showable]; exact decide_eq_true h, (fun h => nomatch h), Nat.zero_le _, by show 1921 ≤ 2000; decide⟩
theorem sh_lst {z : Str} (h : (reprText z).length ≤ 200) : ShOk (.list [.str z]) := ⟨by simp [PyData.showable, PyData.showableAll], by simp [PyData.hasDict, PyData.hasDictAll], by simp [PyData.depth, PyData.depthAll], by simp only [mass, massAll]; omega⟩
theorem sh_tup {z : Str} (h : (reprText z).length ≤ 200) : ShOk (.tuple [.str z]) := ⟨by simp [PyData.showable, PyData.showableAll], by simp [PyData.hasDict, PyData.hasDictAll], by simp [PyData.depth, PyData.depthAll], by simp only [mass, massAll]; omega⟩
theorem sh_dic : ShOk (.dict []) := ⟨by simp [PyData.showable, PyData.showableKv], fun _ => by simp [okS, okSKv], by simp [PyData.depth, PyData.depthKv], by simp only [mass, massKv]; omega⟩
def freshOf (ys : List Str) (ps : List Pr) : List Str := ys.filter fun y => !decide (y ∈ nmsOf ps)
theorem fresh_add (zs : List Str) (y : Str) (ps : List Pr) : freshOf (zs ++ [y]) ps = if (!decide (y ∈ nmsOf ps)) = true then freshOf zs ps ++ [y] else freshOf zs ps := by
  unfold freshOf
  rw [List.filter_append, List.filter_cons, List.filter_nil]
  split
  · rfl
  · rw [List.append_nil]
theorem fresh_len (ys : List Str) (ps : List Pr) : (freshOf ys ps).length ≤ ys.length := List.length_filter_le _ _
/-- rows as pairs of a dict -/
theorem AllPr.paired {H : Hp} : ∀ {ts : List Addr} {ps : List Pr}, AllPr H ts ps → ∃ kvs : List (Key × V), Paired (fun (p : Addr) (kv : Key × V) => H p = some (.tup [kV kv.1, kv.2])) ts kvs
  | [], [], _ => ⟨[], .nil⟩
  | t :: ts, p :: ps, h => by
    obtain ⟨⟨d, e, _⟩, h2⟩ := h
    obtain ⟨kvs, r⟩ := AllPr.paired h2
    exact ⟨(Sum.inr p.1, .ref d) :: kvs, .cons e r⟩
  | [], _ :: _, h => h.elim
  | _ :: _, [], h => h.elim
theorem no_name {ps : List Pr} (ok : PsOk ps) {z : Str} (h : z.length < 1 ∨ 8 < z.length) : z ∉ nmsOf ps := fun hm => by
  obtain ⟨p, hp, rfl⟩ := List.mem_map.mp hm
  have := (ok.nm p hp).2
  omega
section
variable {P : Program} {w : World} {K : PySem.W.Frag} {mg : Str → Option Value} {base : Heap}
theorem law_in {fT fO fU fE fH C : Addr} {fdT fdO fdU fdE fdH : FuncData} {cdv : Value} {A : Around} {outer : List Env} {s : Shared} {H : Hp} {E : XK} {f : Addr}
    (T : Fun K "_law_take" "_law_take" sTake fT fdT) (bT : Binds K fdT ["_law_box_here", "_law_many"] []) (gT : mg "_law_take" = some (.ref fT))
    (GO : FnOk P w K mg base CX0 4 fO fdO ["_law_records", "_law_pairs_here"] (spTold K C)) (gO : mg "_law_told" = some (.ref fO)) (kO : PySem.W.keepIn K (.ref fO) = true) (bO : Binds K fdO ["_law_records", "_law_pairs_here"] [])
    (GU : FnG P w K mg base CX0 6 fU fdU ["_law_records", "_law_thing"] (spUnk K C)) (gU : mg "_law_unknown" = some (.ref fU)) (kU : PySem.W.keepIn K (.ref fU) = true) (bU : Binds K fdU ["_law_records", "_law_thing"] [])
    (mE : EqO K C fE) (bE : Binds K fdE ["self", "other"] []) (GEo : FnOk P w K mg base CX0 1 fE fdE ["self", "other"] (spRcEo C)) (nL : PySem.W.notFirst K C (.type "list") = true) (nD : PySem.W.notFirst K C (.type "dict") = true)
    (mH : OwnM K C "__contains__" fH) (bH : Binds K fdH ["self", "item"] []) (GHn : FnOk P w K mg base CX0 1 fH fdH ["self", "item"] (spRcCn C)) (md : mg "dict" = none)
    (hg : (A.deeper (envOfC "law" (defScope sLaw) s.heap.objs.size f cdv)).guards = some []) (hr : Room 7 (A.deeper (envOfC "law" (defScope sLaw) s.heap.objs.size f cdv))) :
    ∃ t, PSs (cxOf CX0 P w K mg base nLaw "law" (defScope sLaw) f cdv A outer s H E).nox loopI t ∧
      ∀ (De : Ends) (x0 x1 x3 x5 x6 x7 x8 x9 x12 x13 x14 x15 x16 : Option V) (b a l nl : Addr) (n : Nat) (ps : List Pr) (ts : List Addr) (ys : List Str) (z0 : Str) (H0 : Hp), BoxAt H0 b n → n ≤ 80000 → RecAt C H0 a ps → PsOk ps → H0 l = some (.lst (ts.map V.ref)) → AllPr H0 ts ps →
        H0 nl = some (.lst ((ys ++ [z0]).map V.str)) → ys.length ≤ 40 → NameZ z0 → z0 ∉ nmsOf ps →
        (∀ (y12 y13 : Option V) (H' : Hp), BoxAt H' b (n + 1) → But b H0 H' → De.nx [x0, x1, some (.ref b), x3, some (.ref nl), x5, x6, x7, x8, x9, some (.ref a), some (.ref l), y12, y13, x14, x15, x16] H') →
        t De [x0, x1, some (.ref b), x3, some (.ref nl), x5, x6, x7, x8, x9, some (.ref a), some (.ref l), x12, x13, x14, x15, x16] H0 := by
  have GT : FnOk P w K mg base CX0 1 fT fdT ["_law_box_here", "_law_many"] spTake := ok_take T
  have hr1 := hr.mono (show 1 ≤ 7 by decide)
  have hr4 := hr.mono (show 4 ≤ 7 by decide)
  have hr6 := hr.mono (show 6 ≤ 7 by decide)
  refine ⟨_, pss_cons (ps_if (pt_not (pt_val (pe_call GO hr4 rfl gO kO bO .nil pass0 (pa_cons (pv 10) (pa_cons (pv 11) pa_nil))))) (pss_one ps_never) pss_nil)
    (pss_cons (ps_set (i := 12) scLaw.nd rfl (.inl rfl) (pe_ix (r := rIxL K) ix_list (pe_lst (pa_cons pe_non (pa_cons pe_int (pa_cons pe_str (pa_cons pe_str (pa_cons (pe_lst (pa_cons pe_str pa_nil)) (pa_cons (pe_tup (pa_cons pe_str pa_nil)) (pa_cons pe_dnewK (pa_cons pe_bl (pa_cons pe_int pa_nil))))))))))
      (pe_call GT hr1 rfl gT T.kp bT .nil pass0 (pa_cons (pv 2) (pa_cons pe_int pa_nil))) (fun _ _ => rfl)))
    (pss_cons (ps_setLc (i := 13) (own := [("_law_name", 14)]) (g := gName 14) (by rfl) scLaw.nd rfl rfl (sw_true rfl rfl rfl (by decide +kernel)) (pi_list (pv 4))
        (blkOk_by (own := [("_law_name", 14)]) (N := nLaw) (sc := defScope sLaw) (by decide +kernel)) (fun _ _ _ _ _ => pg_name (i := 14) scLaw.nd rfl (.inl rfl))
        (fun _ _ _ _ _ => pts_one (pt_cmpR (r := rIn K true) op_notIn_seq (pv 14) (by exact pe_lc (wi := iList K (tVar 11)) (te := tVar 15) (own := [("_law_one", 15), ("_law_worth", 16)]) (g := gTup K 2 (gCons (gName 15) (gCons (gName 16) gNil))) (tt := tYes) (by rfl) scLaw.nd (pi_list (pv 11)) (blkOk_by (own := [("_law_one", 15), ("_law_worth", 16)]) (N := nLaw) (sc := scIn) (by decide +kernel)) (fun _ _ _ _ _ => pg_tup (by rfl) (pgs_cons (pg_name (i := 15) scLaw.nd rfl (.inl rfl)) (pgs_cons (pg_name (i := 16) scLaw.nd rfl (.inl rfl)) pgs_nil))) (fun _ _ _ _ _ => pts_nil) (fun _ _ _ _ _ => pv 15)) (by rfl)))
        (fun _ _ _ _ _ => pv 14))
    (pss_cons (ps_if (PW.pt (pw_or (pt_not (pt_val (pe_callG GU hg hr6 rfl gU kU bU .nil pass0 (pa_cons (pv 10) (pa_cons (pe_ix (r := rIxL K) ix_list (pv 13) (pe_un un_neg pe_int) (fun _ _ => rfl)) pa_nil)))))
      (pw_or1 (pt_cmpR (op_inO (E := E0) mH bH GHn hr1 pass0) (pe_ix (r := rIxL K) ix_list (pv 13) (pe_un un_neg pe_int) (fun _ _ => rfl)) (pv 10) (by rfl))))) (pss_one ps_never) pss_nil)
    (pss_one (ps_if (PW.pt (pw_or (pt_not (pt_val (pe_callG GU hg hr6 rfl gU kU bU .nil pass0 (pa_cons (pv 10) (pa_cons (pv 12) pa_nil)))))
      (pw_or (pt_cmpR (op_inO (E := E0) mH bH GHn hr1 pass0) (pv 12) (pv 10) (by rfl))
      (pw_or (pt_cmpR (op_eqB (E := E0) mE bE GEo hr1 pass0) (pv 10) (pv 11) (nomark _))
      (pw_or1 (pt_cmpR (op_eqB (E := E0) mE bE GEo hr1 pass0) (pv 10) (pe_callTy (call_dictP rfl) (by rfl) md (by decide +kernel) (pa_cons (pv 11) pa_nil)) (nomark _))))))) (pss_one ps_never) pss_nil))))), ?_⟩
  intro De x0 x1 x3 x5 x6 x7 x8 x9 x12 x13 x14 x15 x16 b a l nl n ps ts ys z0 H0 B hn hrec okp el al en y40 nz nz0 q
  obtain ⟨dx, l1, n1, tr, ea, _⟩ := id hrec
  have lts := al.len
  have l40 := okp.few
  have neb : ∀ (c : Addr) (o : HO), H0 c = some o → (∀ x y z, o ≠ .lst [.int x, .int y, .int z]) → c ≠ b := fun c o e z w => by
    obtain ⟨x, y, t, eb, _⟩ := B
    rw [w, eb] at e
    exact z _ _ _ (Option.some.inj e).symm
  have nab : a ≠ b := neb a _ ea (fun x y z w => by cases w)
  have nlb : l ≠ b := refs_ne_box B el
  have nnb : nl ≠ b := neb nl _ en (fun x y z w => by
    have w2 := HO.lst.inj w
    cases ys <;> cases w2)
  refine ⟨_, rfl, _, rfl, a, l, ps, ts, rfl, hrec, okp, el, al, fun H1 s1 => ⟨_, rfl, iteF ?_⟩⟩
  refine ⟨(by show 1 ≤ sizeLine; decide), fun pa ha => ⟨(by show 1 ≤ sizeLine; decide), fun pt hpt => fun pd hpd => ⟨(by show 9 ≤ sizeLine; decide), fun m hm => ?_⟩⟩⟩
  have t1 := Same.new (o := .lst [.str "a"]) ha
  have t2 := Same.new (o := .tup [.str "a"]) hpt
  have t3 := Same.new (o := .dK []) hpd
  have t4 := Same.new (o := .lst [.non, .int 5, .str "", .str "zzzzzzzzz", .ref pa, .ref pt, .ref pd, .bl true, .int 0]) hm
  have epa := t4 _ _ (t3 _ _ (t2 _ _ (upd_same (H := H1) (a := pa) (o := .lst [.str "a"]))))
  have ept := t4 _ _ (t3 _ _ (upd_same (H := upd H1 pa (.lst [.str "a"])) (a := pt) (o := .tup [.str "a"])))
  have epd := t4 _ _ (upd_same (H := upd (upd H1 pa (.lst [.str "a"])) pt (.tup [.str "a"])) (a := pd) (o := .dK []))
  have em := upd_same (H := upd (upd (upd H1 pa (.lst [.str "a"])) pt (.tup [.str "a"])) pd (.dK [])) (a := m) (o := .lst [.non, .int 5, .str "", .str "zzzzzzzzz", .ref pa, .ref pt, .ref pd, .bl true, .int 0])
  have s2 := s1.trans (t1.trans (t2.trans (t3.trans t4)))
  generalize upd (upd (upd (upd H1 pa (.lst [.str "a"])) pt (.tup [.str "a"])) pd (.dK [])) m (.lst [.non, .int 5, .str "", .str "zzzzzzzzz", .ref pa, .ref pt, .ref pd, .bl true, .int 0]) = H2 at epa ept epd em s2 ⊢
  have B2 : BoxAt H2 b n := B.keep fun o e => s2 _ _ e
  have ne2 : ∀ (c : Addr) (o : HO), H2 c = some o → (∀ x y z, o ≠ .lst [.int x, .int y, .int z]) → c ≠ b := fun c o e z w => by
    obtain ⟨x, y, t, eb, _⟩ := B2
    rw [w, eb] at e
    exact z _ _ _ (Option.some.inj e).symm
  refine ⟨_, rfl, b, 9, n, rfl, B2, by omega, by decide, by decide, fun r H3 r0 r1 B3 k3 => ?_⟩
  obtain ⟨j, rfl, hj⟩ := draw_at (n := 9) r0 r1 rfl
  have em3 := k3 _ _ (ne2 m _ em (fun x y z w => by cases HO.lst.inj w)) em
  have epa3 := k3 _ _ (ne2 pa _ epa (fun x y z w => by cases HO.lst.inj w)) epa
  have ept3 := k3 _ _ (ne2 pt _ ept (fun x y z w => by cases w)) ept
  have epd3 := k3 _ _ (ne2 pd _ epd (fun x y z w => by cases w)) epd
  have k03 : But b H0 H3 := (But.same s2).trans k3
  obtain ⟨v, d, hv, nt, hd, kd⟩ : ∃ (v : V) (d : PyData), ([.non, .int 5, .str "", .str "zzzzzzzzz", .ref pa, .ref pt, .ref pd, .bl true, .int 0] : List V)[j]? = some v ∧ NoTx H3 (nmsOf ps) v ∧ Rp K H3 v d ∧ ShOk d := by
    match j, hj with
    | 0, _ => exact ⟨_, _, rfl, .non, .non, sh_none⟩
    | 1, _ => exact ⟨_, _, rfl, .int 5, .int 5, sh_int (by decide)⟩
    | 2, _ => exact ⟨_, _, rfl, .str (no_name okp (.inl (by decide))), .str _, sh_str (by decide +kernel)⟩
    | 3, _ => exact ⟨_, _, rfl, .str (no_name okp (.inr (by decide))), .str _, sh_str (by decide +kernel)⟩
    | 4, _ => exact ⟨_, _, rfl, .lst epa3, .lst epa3 (.cons (.str _) .nil), sh_lst (by decide +kernel)⟩
    | 5, _ => exact ⟨_, _, rfl, .tup ept3, .tup ept3 (.cons (.str _) .nil), sh_tup (by decide +kernel)⟩
    | 6, _ => exact ⟨_, _, rfl, .dic epd3, .dic epd3 .nil .nil, sh_dic⟩
    | 7, _ => exact ⟨_, _, rfl, .bl true, .bl true, sh_bool true⟩
    | 8, _ => exact ⟨_, _, rfl, .int 0, .int 0, sh_int (by decide)⟩
  refine ⟨m, _, _, v, rfl, rfl, .of em3, atI_nat hv, ?_⟩
  have en3 := k03 _ _ nnb en
  have el3 := k03 _ _ nlb el
  have ea3 := k03 _ _ nab ea
  have hrec3 := hrec.box B k03
  have al3 := al.sf (.of_but B k03)
  refine ⟨_, rfl, nl, rfl, ⟨_, .of en3⟩, fun D hD => ?_⟩
  refine lc_list (xs := (ys ++ [z0]).map V.str) (fun i H4 => Same H3 H4 ∧ H4 D = some (.lst ((freshOf ((ys ++ [z0]).take i) ps).map V.str))) ?_ ?_ ?_ ?_
  · exact ⟨Same.new hD, upd_same⟩
  · exact fun _ _ _ h => .of (h.1 _ _ en3)
  · rintro i x H4 hx ⟨s4, e4⟩
    rw [List.getElem?_map] at hx
    obtain ⟨y, hy, rfl⟩ := Option.map_eq_some_iff.mp hx
    refine ⟨rfl, ?_⟩
    refine ⟨_, rfl, _, rfl, l, rfl, ⟨_, .of (s4 _ _ el3)⟩, fun D2 hD2 => ?_⟩
    refine lc_list (xs := ts.map V.ref) (fun i H5 => Same H4 H5 ∧ H5 D2 = some (.lst ((nmsOf (ps.take i)).map V.str))) ?_ ?_ ?_ ?_
    · exact ⟨Same.new hD2, upd_same⟩
    · exact fun _ _ _ h => .of (h.1 _ _ (s4 _ _ el3))
    · rintro i2 x2 H5 hx2 ⟨s5, e5⟩
      rw [List.getElem?_map] at hx2
      obtain ⟨t, hti, rfl⟩ := Option.map_eq_some_iff.mp hx2
      obtain ⟨pr, hpi, d', et, ed⟩ := al3.get hti
      have hil : i2 < ps.length := (List.getElem?_eq_some_iff.mp hpi).1
      refine ⟨t, _, rfl, .of (s5 _ _ (s4 _ _ et)), rfl, _, _, rfl, _, _, rfl, rfl, rfl, ?_⟩
      unfold tYes
      dsimp only
      rw [if_pos rfl]
      refine ⟨_, rfl, _, e5, ?_, fun c o ec => (upd_ne (ne_of_none ec hD2)).trans (s5 _ _ ec), ?_⟩
      · rw [List.length_map, List.length_map, List.length_take]
        exact small1000 (by omega)
      · rw [upd_same, List.take_add_one, hpi]
        simp [nmsOf]
    · rintro H5 ⟨s5, e5⟩
      rw [List.length_map, lts, List.take_length] at e5
      refine ⟨D2, _, rfl, .inl (.of e5), rfl, flat_strs _, _, rfl, ?_⟩
      rw [show (if true = true then !inV (V.str y) ((nmsOf ps).map V.str) else inV (V.str y) ((nmsOf ps).map V.str)) = !decide (y ∈ nmsOf ps) from by rw [if_pos rfl, inV_str]]
      have e9 : freshOf ((ys ++ [z0]).take (i + 1)) ps = if (!decide (y ∈ nmsOf ps)) = true then freshOf ((ys ++ [z0]).take i) ps ++ [y] else freshOf ((ys ++ [z0]).take i) ps := by
        rw [List.take_add_one, hy]
        exact fresh_add _ _ _
      refine ite2 (fun hc => ?_) (fun hc => ?_)
      · rw [if_pos hc] at e9
        refine ⟨_, rfl, _, s5 _ _ e4, ?_, fun c o ec => (upd_ne (ne_of_none ec hD)).trans (s5 _ _ (s4 _ _ ec)), ?_⟩
        · have := fresh_len ((ys ++ [z0]).take i) ps
          rw [List.length_take, List.length_append] at this
          rw [List.length_map]
          exact small1000 (by show _ ≤ 1000; have h1 : ([z0] : List Str).length = 1 := rfl; omega)
        · rw [upd_same, e9, List.map_append]
          rfl
      · rw [if_neg hc] at e9
        refine ⟨s4.trans s5, ?_⟩
        rw [e9]
        exact s5 _ _ e4
  · rintro H4 ⟨s4, eD⟩
    rw [List.length_map, List.take_length, fresh_add, if_pos (by rw [decide_eq_false nz0]; rfl), List.map_append] at eD
    have hrec4 := hrec3.same s4
    have ea4 := s4 _ _ ea3
    refine ⟨_, rfl, _, rfl, _, rfl, D, _, _, .str z0, rfl, rfl, .of eD, atI_last _ _, a, .str z0, ps, .str z0, rfl, hrec4, .str nz0, .str z0, sh_name nz, fun H5 s5 => ⟨_, rfl, iteF ?_⟩⟩
    have s45 := s4.trans s5
    refine ⟨_, rfl, _, rfl, D, _, _, .str z0, rfl, rfl, .of (s5 _ _ eD), atI_last _ _, _, rfl, a, dx, _, rfl, s5 _ _ ea4, a, ps, .str z0, rfl, hrec4.same s5, .str nz0, _, rfl, _, rfl, iteF ?_⟩
    refine ⟨_, rfl, _, rfl, a, v, ps, d, rfl, hrec4.same s5, nt.same s45, rp_same s45 _ _ hd, kd, fun H6 s6 => ⟨_, rfl, iteF ?_⟩⟩
    have s46 := s45.trans s6
    have ea6 := s46 _ _ ea3
    have el6 := s46 _ _ el3
    have al6 := al3.sf (.of_same s46)
    refine ⟨_, rfl, _, rfl, a, dx, _, rfl, ea6, a, ps, v, rfl, hrec3.same s46, nt.same s46, _, rfl, _, rfl, iteF ?_⟩
    refine ⟨_, rfl, _, rfl, a, dx, _, _, rfl, ea6, .lst el6, nL, a, l, rfl, .inl ⟨_, el6⟩, _, rfl, _, rfl, iteF ?_⟩
    obtain ⟨kvs, pk⟩ := al6.paired
    refine ⟨_, rfl, _, rfl, l, ts, kvs, rfl, .of el6, pk.mono (fun a c h => .of h), fun p hp => ?_⟩
    have s7 := Same.new (o := .dK (mergeK [] kvs)) hp
    refine ⟨a, dx, _, _, rfl, s7 _ _ ea6, .dic upd_same, nD, a, p, rfl, .inr ⟨_, upd_same⟩, _, rfl, _, rfl, iteF ?_⟩
    exact q _ _ _ (B3.keep fun o e => (s46.trans s7) _ _ e) (k03.trans (.same (s46.trans s7)))
end
end G
set_option Elab.async false
set_option linter.all false
set_option maxRecDepth 100000
set_option maxHeartbeats 8000000
/-! LN: the law keeps its promise. -/
namespace G
open PySem PySem.Spec PyProof.Rows L2 NdefX
theorem with_key {G : Prop} (S : VK → XK → Prop) (QX : VK) (EX : XK) (h1 : S QX EX → G) (h2 : S QX EX) : G := h1 h2
theorem with_keyR {G : Prop} (S : (Addr → Hp → Prop) → XK → Prop) (R : Addr → Hp → Prop) (EX : XK) (h1 : S R EX → G) (h2 : S R EX) : G := h1 h2
theorem same_but {b : Addr} {H H1 H2 : Hp} (s : Same H H1) (n : H b = none) (k : But b H1 H2) : Same H H2 := fun c o e => k c o (ne_of_none e n) (s c o e)
/-- records and the rows they were made of -/
def HRow (C : Addr) (z0 : Str) (H : Hp) (T : Addr) : Prop := ∃ (a l : Addr) (ps : List Pr) (ts : List Addr), H T = some (.tup [.ref a, .ref l]) ∧ RecAt C H a ps ∧ PsOk ps ∧ H l = some (.lst (ts.map V.ref)) ∧ AllPr H ts ps ∧ z0 ∉ nmsOf ps
theorem tup_ne_box {H : Hp} {b t : Addr} {n : Nat} {xs : List V} (B : BoxAt H b n) (e : H t = some (.tup xs)) : t ≠ b := fun z => by
  obtain ⟨_, _, _, eb, _⟩ := B
  rw [z, eb] at e
  cases e
theorem HRow.but {C : Addr} {z0 : Str} {H H' : Hp} {T b : Addr} {n : Nat} (h : HRow C z0 H T) (B : BoxAt H b n) (k : But b H H') : HRow C z0 H' T :=
  let ⟨a, l, ps, ts, e, r, ok, el, al, nz⟩ := h
  ⟨a, l, ps, ts, k _ _ (tup_ne_box B e) e, r.box B k, ok, k _ _ (refs_ne_box B el) el, al.sf (.of_but B k), nz⟩
theorem nilOk : PsOk [] := ⟨Nat.zero_le _, List.nodup_nil, (fun p h => nomatch h), (fun p h => nomatch h), (fun p h => nomatch h)⟩
theorem rcinit_binds0 {K : PySem.W.Frag} {E f : Addr} {fd : FuncData} (F : FunD K "__init__" "Records.__init__" (defArgs (sRc 0)) (defBody (sRc 0)) (defScope (sRc 0)) [.ref E] [] f fd) : ∃ ds, Vals [.ref E] ds ∧ Binds K fd ["self", "pairs"] ds :=
  F.binds1 (ps := ["self", "pairs"]) 1 0 (fun z => nomatch z) rfl (fun T kV doc pm an cdv ct us its l1 l2 => match us, its, l1, l2 with
    | [_], [_], _, _ => ⟨_, rfl, rfl⟩)
theorem u1_at {H : Hp} {p : Addr} {o : HO} (_ : H p = none) : (upd H p o) p = some o := upd_same
def spLaw (K : PySem.W.Frag) : Sp := fun vs H Q _ => ∃ (a : Addr) (ns : List Int), vs = [.ref a] ∧ SqL K H a (ns.map V.int) ∧ ns.length ≤ 63 ∧ ∀ H', Q (.bl true) H'
theorem sqL_same {K : PySem.W.Frag} {H H' : Hp} {a : Addr} {xs : List V} (h : SqL K H a xs) (s : Same H H') : SqL K H' a xs := sqL_keep s h
theorem bools3 (b1 b2 b3 : Bool) : PyData.showableAll [.bool b1, .bool b2, .bool b3] = true ∧ (PyData.hasDictAll [.bool b1, .bool b2, .bool b3] = true → okSAll [.bool b1, .bool b2, .bool b3] = true) ∧ (PyData.list [.bool b1, .bool b2, .bool b3]).depth ≤ 20 ∧ 3 + massAll [.bool b1, .bool b2, .bool b3] ≤ sizeLine := by
  refine ⟨by simp [PyData.showableAll, PyData.showable], fun _ => by simp [okSAll, okS], by simp [PyData.depth, PyData.depthAll], ?_⟩
  show 3 + (5 + 2 + (5 + 2 + (5 + 2 + 0))) ≤ sizeLine
  decide
theorem rp3 {K : PySem.W.Frag} {H : Hp} (b1 b2 b3 : Bool) : RpAll K H [.bl b1, .bl b2, .bl b3] [.bool b1, .bool b2, .bool b3] := .cons (.bl _) (.cons (.bl _) (.cons (.bl _) .nil))
section
variable {P : Program} {w : World} {K : PySem.W.Frag} {mg : Str → Option Value} {base : Heap}
theorem ok_law {f fc fb fT fn fS fO fU fG fE fH fN fM fI C ED : Addr} {fd fdc fdb fdT fdn fdS fdO fdU fdG fdE fdH fdN fdM fdI : FuncData} {dsI : List Value} (F : Fun K "law" "law" sLaw f fd)
    (Fc : Fun K "_law_cell" "_law_cell" sCell fc fdc) (bc : Binds K fdc ["_law_script", "_law_k"] []) (gc : mg "_law_cell" = some (.ref fc))
    (Fb : Fun K "_law_box" "_law_box" sBox fb fdb) (bb : Binds K fdb ["_law_cell_here"] []) (gb : mg "_law_box" = some (.ref fb))
    (T : Fun K "_law_take" "_law_take" sTake fT fdT) (bT : Binds K fdT ["_law_box_here", "_law_many"] []) (gT : mg "_law_take" = some (.ref fT))
    (kn : PySem.W.keepIn K (.ref fn) = true) (bn : Binds K fdn ["_law_box_here", "_law_many"] []) (gn : mg "_law_names" = some (.ref fn)) (Gn : FnOk P w K mg base CX0 3 fn fdn ["_law_box_here", "_law_many"] spNamesD)
    (GS : FnOk P w K mg base CX0 4 fS fdS ["_law_box_here", "_law_names_here", "_law_fields"] spPairs) (gS : mg "_law_pairs" = some (.ref fS)) (kS : PySem.W.keepIn K (.ref fS) = true) (bS : Binds K fdS ["_law_box_here", "_law_names_here", "_law_fields"] [])
    (GO : FnOk P w K mg base CX0 4 fO fdO ["_law_records", "_law_pairs_here"] (spTold K C)) (gO : mg "_law_told" = some (.ref fO)) (kO : PySem.W.keepIn K (.ref fO) = true) (bO : Binds K fdO ["_law_records", "_law_pairs_here"] [])
    (GU : FnG P w K mg base CX0 6 fU fdU ["_law_records", "_law_thing"] (spUnk K C)) (gU : mg "_law_unknown" = some (.ref fU)) (kU : PySem.W.keepIn K (.ref fU) = true) (bU : Binds K fdU ["_law_records", "_law_thing"] [])
    (GC : FnOk P w K mg base CX0 3 fG fdG ["_law_pairs_here", "_law_box_here"] (spChg K)) (gC : mg "_law_changed" = some (.ref fG)) (kC : PySem.W.keepIn K (.ref fG) = true) (bC : Binds K fdG ["_law_pairs_here", "_law_box_here"] [])
    (c : RcC K C) (Mk0 : Mk K C fI) (GI : FnOk P w K mg base CX0 6 fI fdI ["self", "pairs"] (spRcI K C)) (gR : mg "Records" = some (.ref C)) (bI : Binds K fdI ["self", "pairs"] []) (vI : Vals [.ref ED] dsI) (bI0 : Binds K fdI ["self", "pairs"] dsI) (hED : ∀ H : Hp, SqT K H ED [])
    (mE : EqO K C fE) (bE : Binds K fdE ["self", "other"] []) (GE : FnOk P w K mg base CX0 1 fE fdE ["self", "other"] (spRcE C)) (GEo : FnOk P w K mg base CX0 1 fE fdE ["self", "other"] (spRcEo C)) (nE : PySem.W.notFirst K C (.ref C) = true) (nL : PySem.W.notFirst K C (.type "list") = true) (nD : PySem.W.notFirst K C (.type "dict") = true)
    (mH : OwnM K C "__contains__" fH) (bH : Binds K fdH ["self", "item"] []) (GHn : FnOk P w K mg base CX0 1 fH fdH ["self", "item"] (spRcCn C))
    (mN : OwnM K C "__len__" fN) (bN : Binds K fdN ["self"] []) (GN : FnOk P w K mg base CX0 1 fN fdN ["self"] (spRcN C))
    (mM : Meth K C "names" fM) (bM : Binds K fdM ["self"] []) (GM : FnOk P w K mg base CX0 1 fM fdM ["self"] (spRcNm C))
    (mr : mg "range" = none) (mmx : mg "max" = none) (mmn : mg "min" = none) (ml : mg "len" = none) (mt : mg "tuple" = none) (mp : mg "repr" = none) (md : mg "dict" = none) : FnG P w K mg base CX0 8 f fd ["_law_script"] (spLaw K) := by
  have Gc : FnOk P w K mg base CX0 1 fc fdc ["_law_script", "_law_k"] (spCell' K) := ok_cell Fc ml
  have Gb : FnOk P w K mg base CX0 1 fb fdb ["_law_cell_here"] spBox := ok_box Fb mmx
  have GT : FnOk P w K mg base CX0 1 fT fdT ["_law_box_here", "_law_many"] spTake := ok_take T
  refine FnG.of_body F scLaw (fun vs H Q E h => ?_) (fun cdv A outer s H vs Q E hg hr h => ?_)
  · obtain ⟨a, ns, rfl, _⟩ := h
    rfl
  · obtain ⟨a, ns, rfl, hS, hl, q⟩ := h
    have hr1 := hr.mono (show 1 ≤ 7 by decide)
    have hr2 := hr.mono (show 1 + 1 ≤ 7 by decide)
    have hr3 := hr.mono (show 3 ≤ 7 by decide)
    have hr4 := hr.mono (show 4 ≤ 7 by decide)
    have hr7 := hr.mono (show 6 + 1 ≤ 7 by decide)
    have hu : (A.deeper (envOfC "law" (defScope sLaw) s.heap.objs.size f cdv)).units < cLine := hr.units0
    have hu4 : (A.deeper (envOfC "law" (defScope sLaw) s.heap.objs.size f cdv)).units + 4 < cLine := by have := hr.units; omega
    obtain ⟨tz, pz, qz⟩ := law_in (P := P) (w := w) (base := base) (outer := outer) (H := H) (E := E) (cdv := cdv) (s := s) (f := f) T bT gT GO gO kO bO GU gU kU bU mE bE GEo nL nD mH bH GHn md hg hr
    refine ⟨_, pss_cons (ps_for PassesOwn.never rfl (pi_range1 rfl mr (pa_cons (pe_callB (call_max2 rfl) (by rfl) mmx (by decide +kernel) (pa_cons pe_int (pa_cons (pe_callB (call_min2 rfl) (by rfl) mmn (by decide +kernel)
          (pa_cons (pe_callB call_len_seq (by rfl) ml PySem.boot_len (pa_cons (pv 0) pa_nil)) (pa_cons pe_int pa_nil))) pa_nil))) pa_nil)) (pg_name (i := 1) scLaw.nd rfl (.inl rfl))
        (pss_cons (ps_set (i := 2) scLaw.nd rfl (.inl rfl) (pe_call Gb hr1 rfl gb Fb.kp bb .nil pass0 (pa_cons (pe_call Gc hr1 rfl gc Fc.kp bc .nil pass0 (pa_cons (pv 0) (pa_cons (pv 1) pa_nil))) pa_nil)))
        (pss_cons (ps_set (i := 3) scLaw.nd rfl (.inl rfl) (pe_ix (r := rIxL K) ix_list (pe_lst (pa_cons (pe_call GT hr1 rfl gT T.kp bT .nil pass0 (pa_cons (pv 2) (pa_cons pe_int pa_nil))) (pa_cons (pe_call GT hr1 rfl gT T.kp bT .nil pass0 (pa_cons (pv 2) (pa_cons pe_int pa_nil))) (pa_cons pe_int pa_nil))))
            (pe_call GT hr1 rfl gT T.kp bT .nil pass0 (pa_cons (pv 2) (pa_cons pe_int pa_nil))) (fun _ _ => rfl)))
        (pss_cons (ps_set (i := 4) scLaw.nd rfl (.inl rfl) (pe_call Gn hr3 rfl gn kn bn .nil pass0 (pa_cons (pv 2) (pa_cons (pe_op op_add (pv 3) pe_int) pa_nil))))
        (pss_cons (ps_set (i := 5) scLaw.nd rfl (.inl rfl) (pe_call GS hr4 rfl gS kS bS .nil pass0 (pa_cons (pv 2) (pa_cons (pe_slice (r := rSlL K) sl_list (pv 4) po_none (po_some (pv 3))) (pa_cons (pe_call Gn hr3 rfl gn kn bn .nil pass0 (pa_cons (pv 2) (pa_cons pe_int pa_nil))) pa_nil)))))
        (pss_cons (ps_set (i := 6) scLaw.nd rfl (.inl rfl) (pe_ifExp (pt_cmpR op_eq (pe_call GT hr1 rfl gT T.kp bT .nil pass0 (pa_cons (pv 2) (pa_cons pe_int pa_nil))) pe_int (nomark _))
            (pe_make Mk0 GI hr7 rfl gR bI .nil pass0 (pa_cons (pv 5) pa_nil)) (pe_make Mk0 GI hr7 rfl gR bI .nil pass0 (pa_cons (pe_callTy call_tuple_of (by rfl) mt (by decide +kernel) (pa_cons (pv 5) pa_nil)) pa_nil))))
        (pss_cons (ps_set (i := 7) scLaw.nd rfl (.inl rfl) (pe_ifExp (pt_cmpR (op_neNil hu) (pv 5) (pe_lst pa_nil) (nomark _)) (pe_call GC hr3 rfl gC kC bC .nil pass0 (pa_cons (pv 5) (pa_cons (pv 2) pa_nil))) (pe_lst pa_nil)))
        (pss_cons (ps_par (i := 8) (j := 9) (by rfl) scLaw.nd rfl rfl (by decide) rfl rfl (pa_cons (pe_make Mk0 GI hr7 rfl gR bI .nil pass0 (pa_cons (pv 7) pa_nil)) (pa_cons (pe_cmpR (op_eqPl hu4) (pv 7) (pv 5) (nomark _)) pa_nil)) (by rfl))
        (pss_cons (ps_if (pt_cmpR op_ne (pe_callB (call_repr hg hr.units) (by rfl) mp (by decide +kernel) (pa_cons (pe_lst (pa_cons (pe_cmpR (op_eqB (E := E0) mE bE GE hr1 pass0) (pv 6) (pv 8) (nomark _)) (pa_cons (pe_cmpR (op_eqB (E := E0) mE bE GE hr1 pass0) (pv 8) (pv 6) (nomark _)) (pa_cons (pe_cmpR (op_neB (E := E0) mE bE GE hr2) (pv 6) (pv 8) (nomark _)) pa_nil)))) pa_nil))
            (pe_callB (call_repr hg hr.units) (by rfl) mp (by decide +kernel) (pa_cons (pe_lst (pa_cons (pv 9) (pa_cons (pv 9) (pa_cons (pe_not (pv 9)) pa_nil)))) pa_nil)) (nomark _)) (pss_one ps_never) pss_nil)
        (pss_one (ps_for PassesOwn.never rfl (pi_list (pe_lst (pa_cons (pe_tup (pa_cons (pv 6) (pa_cons (pv 5) pa_nil))) (pa_cons (pe_tup (pa_cons (pv 8) (pa_cons (pv 7) pa_nil))) (pa_cons (pe_tup (pa_cons (pv 6) (pa_cons (pv 5) pa_nil))) pa_nil)))))
          (pg_tup rfl (pgs_cons (pg_name (i := 10) scLaw.nd rfl (.inl rfl)) (pgs_cons (pg_name (i := 11) scLaw.nd rfl (.inr rfl)) pgs_nil))) pz)))))))))))
      (pss_one (ps_ret (pe_and (pe_cmpR op_eq (pe_callB (call_lenO mN bN GN hr2) (by rfl) ml PySem.boot_len (pa_cons (pe_make0 Mk0 GI hr7 rfl gR bI0 vI pass0) pa_nil)) pe_int (nomark _))
        (pe_and (pe_cmpR (op_eqB (E := E0) mE bE GE hr1 pass0) (pe_make0 Mk0 GI hr7 rfl gR bI0 vI pass0) (pe_make Mk0 GI hr7 rfl gR bI .nil pass0 (pa_cons (pe_tup pa_nil) pa_nil)) (nomark _))
        (pe_one (pe_cmpR (op_eqS hu) (pe_meth0 (pe_make0 Mk0 GI hr7 rfl gR bI0 vI pass0) c.cl mM GM hr1 bM .nil pass0) (pe_lst pa_nil) (nomark _))))))), ?_⟩
    refine ⟨_, rfl, a, _, rfl, .inl hS, _, _, rfl, _, _, rfl, ?_⟩
    generalize hm : (if (if (6 : Int) < ((ns.map V.int).length : Int) then (6 : Int) else ((ns.map V.int).length : Int)) > 2 then (if (6 : Int) < ((ns.map V.int).length : Int) then (6 : Int) else ((ns.map V.int).length : Int)) else 2) = m
    have hm8 : 0 ≤ m ∧ m ≤ 6 := by
      rw [← hm]
      split <;> split at * <;> omega
    refine ⟨m, rfl, by omega, by omega, ?_⟩
    refine for_range (lo := 0) (n := m.toNat) (fun i σ H' => Same H H' ∧ ∃ x1 x2 x3 x4 x5 x6 x7 x8 x9 x10 x11 x12 x13 x14 x15 x16 : Option V, σ = [some (.ref a), x1, x2, x3, x4, x5, x6, x7, x8, x9, x10, x11, x12, x13, x14, x15, x16]) ?_ ?_ ?_
    · exact ⟨Same.refl H, none, none, none, none, none, none, none, none, none, none, none, none, none, none, none, none, rfl⟩
    · rintro i σ H1 hi ⟨s1, x1, x2, x3, x4, x5, x6, x7, x8, x9, x10, x11, x12, x13, x14, x15, x16, rfl⟩
      refine ⟨_, rfl, _, rfl, a, ns, 0 + i, rfl, sqL_same hS s1, by omega, by omega, fun cell => ⟨cell, rfl, fun b H2 nb s2 B2 => ?_⟩⟩
      have nbH : H b = none := s1.free nb
      have s12 : Same H H2 := s1.trans s2
      -- how many
      refine ⟨_, rfl, b, 6, 0, rfl, B2, by decide, by decide, by decide, fun r1 H3 r10 r11 B3 k3 => ?_⟩
      refine ⟨_, rfl, b, 41, _, rfl, B3, by decide, by decide, by decide, fun r2 H4 r20 r21 B4 k4 => ?_⟩
      refine ⟨(by show 3 ≤ sizeLine; decide), fun m0 hm0 => ?_⟩
      have t0 := Same.new (o := .lst [.int r1, .int r2, .int 40]) hm0
      have nm0 := box_ne B4 hm0
      have B5 := B4.keep (fun o e => t0 _ _ e)
      have em5 : (upd H4 m0 (.lst [.int r1, .int r2, .int 40])) m0 = some (.lst [.int r1, .int r2, .int 40]) := upd_same
      have k25 : But b H2 (upd H4 m0 (.lst [.int r1, .int r2, .int 40])) := (k3.trans k4).trans (.same t0)
      generalize upd H4 m0 (.lst [.int r1, .int r2, .int 40]) = H5 at B5 em5 k25 ⊢
      refine ⟨_, rfl, b, 3, _, rfl, B5, by decide, by decide, by decide, fun r4 H6 r40 r41 B6 k6 => ?_⟩
      obtain ⟨j4, rfl, hj4⟩ := draw_at (n := 3) r40 r41 rfl
      have em6 := k6 _ _ nm0 em5
      obtain ⟨j, hj, hj40⟩ : ∃ j : Nat, ([.int r1, .int r2, .int 40] : List V)[j4]? = some (.int (j : Nat)) ∧ j ≤ 40 := by
        match j4, hj4 with
        | 0, _ => exact ⟨r1.toNat, by show some (V.int r1) = _; rw [Int.toNat_of_nonneg r10], by omega⟩
        | 1, _ => exact ⟨r2.toNat, by show some (V.int r2) = _; rw [Int.toNat_of_nonneg r20], by omega⟩
        | 2, _ => exact ⟨40, rfl, Nat.le_refl _⟩
      refine ⟨m0, _, _, .int (j : Nat), rfl, rfl, .of em6, atI_nat hj, ?_⟩
      have k26 := k25.trans k6
      -- the names
      refine ⟨_, rfl, _, rfl, _, _, rfl, rfl, b, j + 1, _, rfl, B6, by decide, by omega, fun nl H7 ys ly yn ynd np7 e7 B7 k7 => ?_⟩
      have k27 := k26.trans k7
      have nnb := box_ne B6 np7
      -- the rows
      refine ⟨_, rfl, _, rfl, _, rfl, _, rfl, nl, _, rfl, .of e7, fun ms hms => ?_⟩
      rw [cutV_to _ j (by rw [List.length_map]; omega), ← List.map_take] at *
      have t7 := Same.new (o := .lst ((ys.take j).map V.str)) hms
      have nmsb := box_ne B7 hms
      have ems : (upd H7 ms (.lst ((ys.take j).map V.str))) ms = some (.lst ((ys.take j).map V.str)) := upd_same
      have B8 := B7.keep (fun o e => t7 _ _ e)
      have k28 := k27.trans (.same t7)
      have e8 := t7 _ _ e7
      generalize upd H7 ms (.lst ((ys.take j).map V.str)) = H8 at ems B8 k28 e8 ⊢
      refine ⟨_, rfl, b, 7, _, rfl, B8, by omega, by decide, fun fl H9 zs lz fn fnd np9 e9 B9 k9 => ?_⟩
      have k29 := k28.trans k9
      have nfb := box_ne B8 np9
      have luj : (ys.take j).length = j := by
        rw [List.length_take]
        omega
      refine ⟨b, ms, fl, _, ys.take j, zs, rfl, B9, by omega, k9 _ _ nmsb ems, by omega, e9, fn, by omega, by omega, nmsb, nfb, fun pl HA ts ps npA eA alA nmA okA BA kA => ?_⟩
      have k2A := k29.trans kA
      have enA := kA _ _ nnb (k9 _ _ nnb e8)
      have BA2 : BoxAt HA b 13000 := BA.mono (by omega)
      have lps : ps.length = j := by
        have := congrArg List.length nmA
        rw [List.length_map, luj] at this
        exact this
      have okp : PsOk ps := psok_of (fs := zs) (by omega) (by rw [nmA]; exact (List.take_sublist _ _).nodup ynd) (by rw [nmA]; exact fun z hz => yn z (List.mem_of_mem_take hz)) okA
      obtain ⟨z0, hz0⟩ : ∃ z0, ys[j]? = some z0 := ⟨_, List.getElem?_eq_getElem (by omega)⟩
      have eys : ys = ys.take j ++ [z0] := by
        have h1 := List.take_add_one (l := ys) (i := j)
        rw [hz0, List.take_of_length_le (by omega)] at h1
        exact h1
      have nz : NameZ z0 := yn z0 (List.mem_of_getElem? hz0)
      have nz0 : z0 ∉ nmsOf ps := by
        rw [nmA]
        intro hm2
        rw [eys, List.nodup_append] at ynd
        exact ynd.2.2 _ hm2 _ List.mem_cons_self rfl
      -- the records
      refine ⟨_, rfl, b, 2, _, rfl, BA2, by omega, by decide, by decide, fun r HB r0 r1 BB kB => ⟨rfl, _, rfl, ?_⟩⟩
      have nplb := refs_ne_box BA2 eA
      have eB := kB _ _ nplb eA
      have alB := alA.sf (.of_but BA2 kB)
      have k2B := k2A.trans kB
      have enB := kB _ _ nnb enA
      refine with_keyR (fun QX EX => ∀ (p : Addr) (HX : Hp), SqLT K HX p (ts.map V.ref) → Same HB HX → ∀ x dx, HX x = none → HX dx = none → dx ≠ x → spRcI K C [.ref x, .ref p] (upd (upd HX dx (.own x)) x (.ins C dx [])) (fun v H2 => v = .non ∧ QX x H2) EX) _ _
        (fun key => ite2 (fun _ => ⟨_, rfl, by (unfold tNil; dsimp only; exact key pl HB (.inl (.of eB)) (Same.refl _))⟩) (fun _ => ⟨_, rfl, pl, _, rfl, .inl ⟨.of eB, fun tp htp => by (unfold tNil; dsimp only; exact key tp _ (.inr (.of upd_same)) (Same.new htp))⟩⟩)) ?_
      intro p0 HX hp0 sX
      refine rc_made2 (R := fun x H' => _) hp0 (alB.sf (.of_same sX)) okp fun a1 HC na1 ra1 sC => ?_
      have sBC := sX.trans sC
      have ra1C := ra1.same Nw.sub
      have BC := BB.keep (fun o e => sBC _ _ e)
      have k2C := k2B.trans (.same sBC)
      have eC := sBC _ _ eB
      have alC := alB.sf (.of_same sBC)
      have enC := sBC _ _ enB
      -- the other
      refine ⟨_, rfl, Nat.zero_le _, fun m1 hm1 => ⟨pl, m1, _, rfl, rfl, .of (Same.new hm1 _ _ eC), .of upd_same, _, rfl, ?_⟩⟩
      have tD := Same.new (o := .lst []) hm1
      have raD := ra1C.same tD
      have BD := BC.keep (fun o e => tD _ _ e)
      have k2D := k2C.trans (.same tD)
      have eD := tD _ _ eC
      have alD := alC.sf (.of_same tD)
      have enD := tD _ _ enC
      generalize upd HC m1 (.lst []) = HD at raD BD k2D eD alD enD ⊢
      have lts := alD.len
      refine with_keyR (fun QX EX => ∀ (p : Addr) (H' : Hp) (us : List Addr) (qs : List Pr), H' p = some (.lst (us.map V.ref)) → AllPr H' us qs → PsOk qs → (∀ q ∈ qs, q.1 ∈ nmsOf ps) → BoxAt H' b 13100 → But b HD H' → QX p H') _ E0
        (fun key => ite2 (fun hc => ⟨_, rfl, _, rfl, by (dsimp only; exact ⟨pl, b, _, ps, ts, rfl, BD, by omega, okp, (by
            cases ts with
            | nil => cases hc
            | cons t ts =>
              rw [← lts]
              exact Nat.succ_le_succ (Nat.zero_le _)), eD, alD, fun p H' us qs hp e a o m B' k' => key p H' us qs e a o m (B'.mono (by omega)) k'⟩)⟩)
          (fun _ => by (exact ⟨Nat.zero_le _, fun p hp => key p _ [] [] upd_same trivial nilOk (fun q hq => nomatch hq) ((box_new BD hp).mono (by omega)) (But.new hp)⟩))) ?_
      intro po HE us qs eE alE okq sub BE kE
      have raE := raD.box BD kE
      have eplE := kE _ _ (refs_ne_box BD eD) eD
      have alpE := alD.sf (.of_but BD kE)
      have k2E := k2D.trans kE
      have enE := kE _ _ nnb enD
      -- beside, due
      refine ⟨_, rfl, rc_made2 (R := fun x H' => _) (.inl (.of eE)) alE okq fun a2 HF na2 ra2 sF => ?_⟩
      have ra2F := ra2.same Nw.sub
      have ra1F := raE.same sF
      have eF := sF _ _ eE
      have alF := alE.sf (.of_same sF)
      have eplF := sF _ _ eplE
      have alpF := alpE.sf (.of_same sF)
      have BF := BE.keep (fun o e => sF _ _ e)
      have k2F := k2E.trans (.same sF)
      have enF := sF _ _ enE
      refine ⟨_, rfl, _, rfl, po, pl, us, ts, qs, ps, rfl, rfl, eF, eplF, alF, alpF, okq.allD, okp.allD, ⟨_, _, rfl, ?_⟩⟩
      obtain ⟨dx1, _, _, _, ea1, _⟩ := id ra1F
      obtain ⟨dx2, _, _, _, ea2, _⟩ := id ra2F
      refine ⟨_, rfl, _, rfl, a1, dx1, _, .ref C, rfl, ea1, .ins ea2, nE, a1, a2, ps, qs, rfl, ra1F, ra2F, okp, okq, _, rfl, ?_⟩
      refine ⟨_, rfl, _, rfl, a2, dx2, _, .ref C, rfl, ea2, .ins ea1, nE, a2, a1, qs, ps, rfl, ra2F, ra1F, okq, okp, _, rfl, ?_⟩
      refine ⟨_, rfl, _, rfl, a1, dx1, _, .ref C, rfl, ea1, .ins ea2, nE, a1, a2, ps, qs, rfl, ra1F, ra2F, okp, okq, _, rfl, ?_⟩
      refine ⟨(by show 3 ≤ sizeLine; decide), fun m2 hm2 => ?_⟩
      obtain ⟨g1, g2, g3, g4⟩ := bools3 (plEq ps qs) (plEq qs ps) (!plEq ps qs)
      obtain ⟨g5, g6, g7, g8⟩ := bools3 (plEq qs ps) (plEq qs ps) (!plEq qs ps)
      have tG := Same.new (o := .lst [.bl (plEq ps qs), .bl (plEq qs ps), .bl (!plEq ps qs)]) hm2
      refine ⟨m2, [.bl (plEq ps qs), .bl (plEq qs ps), .bl (!plEq ps qs)], [.bool (plEq ps qs), .bool (plEq qs ps), .bool (!plEq ps qs)], rfl, upd_same, rp3 _ _ _, g1, g2, g3, g4, ?_⟩
      refine ⟨_, rfl, _, rfl, _, rfl, _, rfl, (by show 3 ≤ sizeLine; decide), fun m3 hm3 => ?_⟩
      refine ⟨m3, [.bl (plEq qs ps), .bl (plEq qs ps), .bl (!plEq qs ps)], [.bool (plEq qs ps), .bool (plEq qs ps), .bool (!plEq qs ps)], rfl, upd_same, rp3 _ _ _, g5, g6, g7, g8, rfl, _, rfl, ne_if (by rw [plEq_sym okp.allD okq.allD]) ?_⟩
      have tG3 := tG.trans (Same.new (o := .lst [.bl (plEq qs ps), .bl (plEq qs ps), .bl (!plEq qs ps)]) hm3)
      have BG := BF.keep (fun o e => tG3 _ _ e)
      have k2G := k2F.trans (.same tG3)
      have enG := tG3 _ _ enF
      have ra1G := ra1F.same tG3
      have ra2G := ra2F.same tG3
      have eG := tG3 _ _ eF
      have alG := alF.sf (.of_same tG3)
      have eplG := tG3 _ _ eplF
      have alpG := alpF.sf (.of_same tG3)
      refine ⟨_, rfl, _, rfl, (by show 2 ≤ sizeLine; decide), fun T1 hT1 => ⟨_, rfl, _, rfl, (by show 2 ≤ sizeLine; decide), fun T2 hT2 => ⟨_, rfl, _, rfl, (by show 2 ≤ sizeLine; decide), fun T3 hT3 => ⟨(by show 3 ≤ sizeLine; decide), fun mh hmh => ?_⟩⟩⟩⟩
      have u1 := Same.new (o := .tup [.ref a1, .ref pl]) hT1
      have u2 := Same.new (o := .tup [.ref a2, .ref po]) hT2
      have u3 := Same.new (o := .tup [.ref a1, .ref pl]) hT3
      have u4 := Same.new (o := .lst [.ref T1, .ref T2, .ref T3]) hmh
      have eT1 := u4 _ _ (u3 _ _ (u2 _ _ (u1_at hT1)))
      have eT2 := u4 _ _ (u3 _ _ (u1_at hT2))
      have eT3 := u4 _ _ (u1_at hT3)
      have emh := u1_at (o := .lst [.ref T1, .ref T2, .ref T3]) hmh
      have uA := u1.trans (u2.trans (u3.trans u4))
      have BI := BG.keep (fun o e => uA _ _ e)
      have k2I := k2G.trans (.same uA)
      have enI := uA _ _ enG
      have row1 : ∀ {T : Addr}, _ = some (HO.tup [.ref a1, .ref pl]) → HRow C z0 _ T := fun {T} e => ⟨a1, pl, ps, ts, e, ra1G.same uA, okp, uA _ _ eplG, alpG.sf (.of_same uA), nz0⟩
      have row2 : ∀ {T : Addr}, _ = some (HO.tup [.ref a2, .ref po]) → HRow C z0 _ T := fun {T} e => ⟨a2, po, qs, us, e, ra2G.same uA, okq, uA _ _ eG, alG.sf (.of_same uA), fun hm2 => by
        obtain ⟨r, hr', e'⟩ := List.mem_map.mp hm2
        exact nz0 (e' ▸ sub r hr')⟩
      have h1 := row1 eT1
      have h2 := row2 eT2
      have h3 := row1 eT3
      clear row1 row2
      refine ⟨mh, rfl, ⟨_, .of emh⟩, ?_⟩
      rw [eys] at enI
      generalize (upd _ mh (.lst [.ref T1, .ref T2, .ref T3])) = HI at h1 h2 h3 emh BI k2I enI ⊢
      have nmh := refs_ne_box (ts := [T1, T2, T3]) BI emh
      refine for_list (xs := [.ref T1, .ref T2, .ref T3]) (fun i3 σ H' => BoxAt H' b (13100 + i3) ∧ But b HI H' ∧ ∃ y10 y11 y12 y13 y14 y15 y16 : Option V, σ = [some (.ref a), some (.int (0 + (i : Nat))), some (.ref b), some (.int (j : Nat)), some (.ref nl), some (.ref pl), some (.ref a1), some (.ref po), some (.ref a2), some (.bl (plEq qs ps)), y10, y11, y12, y13, y14, y15, y16]) ?_ ?_ ?_ ?_
      · exact ⟨BI, But.refl _ _, _, _, _, _, _, _, _, rfl⟩
      · rintro i3 σ H' _ ⟨_, kI, _⟩
        exact .of (kI _ _ nmh emh)
      · rintro i3 x σ H' hx ⟨BJ, kJ, y10, y11, y12, y13, y14, y15, y16, rfl⟩
        have hi3 : i3 < 3 := (List.getElem?_eq_some_iff.mp hx).1
        obtain ⟨T, rfl, hT⟩ : ∃ T, x = .ref T ∧ HRow C z0 HI T := by
          match i3, hi3, hx with
          | 0, _, hx => exact ⟨T1, (Option.some.inj hx).symm, h1⟩
          | 1, _, hx => exact ⟨T2, (Option.some.inj hx).symm, h2⟩
          | 2, _, hx => exact ⟨T3, (Option.some.inj hx).symm, h3⟩
        obtain ⟨a', l', ps', ts', eT, r', ok', el', al', nz'⟩ := hT.but BI kJ
        refine ⟨T, _, rfl, .of eT, rfl, _, _, rfl, _, _, rfl, rfl, ?_⟩
        exact qz _ _ _ _ _ _ _ _ _ _ _ _ _ _ b a' l' nl _ ps' ts' (ys.take j) z0 H' BJ (by omega) r' ok' el' al' (kJ _ _ nnb enI) (by omega) nz nz' fun y12' y13' H4 B4' k4' => ⟨B4', kJ.trans k4', _, _, _, _, _, _, _, rfl⟩
      · rintro σ H' ⟨BJ, kJ, y10, y11, y12, y13, y14, y15, y16, rfl⟩
        exact ⟨same_but s12 nbH (k2I.trans kJ), _, _, _, _, _, _, _, _, _, _, _, _, _, _, _, _, rfl⟩
    · rintro σ H1 ⟨s1, x1, x2, x3, x4, x5, x6, x7, x8, x9, x10, x11, x12, x13, x14, x15, x16, rfl⟩
      refine rc_made2 (R := fun x H' => _) (.inr (hED _)) (ts := []) (ps := []) trivial nilOk fun b1 H2 n1 r1 s2 => ?_
      have r1' := r1.same Nw.sub
      obtain ⟨dy1, _, _, _, eb1, _⟩ := id r1'
      refine ⟨b1, dy1, _, rfl, eb1, b1, [], rfl, r1', _, rfl, by decide, by decide, rfl, _, rfl, iteT ?_⟩
      refine rc_made2 (R := fun x H' => _) (.inr (hED _)) (ts := []) (ps := []) trivial nilOk fun b2 H3 n2 r2 s3 => ?_
      have r2' := r2.same Nw.sub
      refine ⟨(by show 0 ≤ sizeLine; decide), fun et het => ?_⟩
      have v1 := Same.new (o := .tup []) het
      refine rc_made2 (R := fun x H' => _) (.inr (.of upd_same)) (ts := []) (ps := []) trivial nilOk fun b3 H4 n3 r3 s4 => ?_
      have r3' := r3.same Nw.sub
      have r24 := r2'.same (v1.trans s4)
      obtain ⟨dy2, _, _, _, eb2, _⟩ := id r24
      obtain ⟨dy3, _, _, _, eb3, _⟩ := id r3'
      refine ⟨b2, dy2, _, .ref C, rfl, eb2, .ins eb3, nE, b2, b3, [], [], rfl, r24, r3', nilOk, nilOk, _, rfl, _, rfl, iteT ?_⟩
      refine rc_made2 (R := fun x H' => _) (.inr (hED _)) (ts := []) (ps := []) trivial nilOk fun b4 H5 n4 r4 s5 => ?_
      have r4' := r4.same Nw.sub
      obtain ⟨dy4, _, _, _, eb4, _⟩ := id r4'
      refine ⟨b4, dy4, _, rfl, eb4, rfl, b4, [], rfl, r4', fun c1 hc1 => ⟨Nat.zero_le _, fun c2 hc2 => ?_⟩⟩
      exact ⟨c1, c2, [], rfl, rfl, .of (Same.new hc2 _ _ upd_same), .of upd_same, (fun v hv => nomatch hv), q _⟩
end
end G
set_option Elab.async false
set_option linter.all false
set_option maxRecDepth 100000
set_option maxHeartbeats 2000000
/-! HK: the head's facts by a Hook of our own: methods that capture __class__, properties, instances that are called; the law's end over it. -/
namespace G
open PySem PySem.Spec PyProof.Rows L2 NdefX StX He

/-! ### defs by where they stand -/
/-- a def of the text: where it stands, its names, its statement, the names that it captures -/
structure Dp where
  at_ : PySem.W.Frag → Addr
  name : Str
  qual : Str
  st : Stmt
  clo : List Str
abbrev FnY : Type := Option (Str × Str × Arguments × FuncBody × Scope × Addr × List Str × Addr)
def fnY (K : PySem.W.Frag) (a : Addr) : FnY := match K.lookup a with
  | some ⟨_, _, .func fd, _⟩ => some (fd.name, fd.qualname, fd.params, fd.body, fd.scope, fd.globals, fd.closure.map (·.1), fd.builtins)
  | _ => none
def Dp.val (d : Dp) : FnY := some (d.name, d.qual, defArgs d.st, .stmts (defBody d.st), defScope d.st, mainGlobals, d.clo, builtinsNs)
def noneB : Value → Bool
  | .none => true
  | _ => false
/-- the def's code, no positional defaults -/
def codB (K : PySem.W.Frag) (a : Addr) (q : Str) : Bool := match K.lookup a with
  | some ⟨_, _, .func fd, _⟩ => PySem.W.codeIn K fd.code q && noneB fd.defaults
  | _ => false
def plainB (K : PySem.W.Frag) (a : Addr) (q : Str) : Bool := PySem.W.keepIn K (.ref a) && codB K a q
theorem fun_of {K : PySem.W.Frag} {a : Addr} {d : Dp} (e : fnY K a = d.val) (hc : d.clo = []) (c : plainB K a d.qual = true) : ∃ fd, Fun K d.name d.qual d.st a fd := by
  obtain ⟨kp, c2⟩ := ba c
  unfold fnY Dp.val at e
  rw [hc] at e
  unfold codB at c2
  cases q : K.lookup a with
  | none =>
    rw [q] at c2
    cases c2
  | some o =>
    obtain ⟨oc, od, dt, osl⟩ := o
    rw [q] at c2 e
    cases dt with
    | func fd =>
      obtain ⟨n1, n2, n3, n4, n5, n6, n7, n8, n9, n10, n11, n12, n13, n14, n15⟩ := fd
      have e2 : (some (n1, n2, n3, n4, n5, n6, n7.map (·.1), n15) : FnY) = some (d.name, d.qual, defArgs d.st, .stmts (defBody d.st), defScope d.st, mainGlobals, [], builtinsNs) := e
      simp only [Option.some.injEq, Prod.mk.injEq] at e2
      obtain ⟨h1, h2, h3, h4, h5, h6, h7, h8⟩ := e2
      have h7' : n7 = [] := List.map_eq_nil_iff.mp h7
      subst h1 h2 h3 h4 h5 h6 h7' h8
      have c3 : (PySem.W.codeIn K n13 d.qual && noneB n8) = true := c2
      obtain ⟨k1, k2⟩ := ba c3
      cases n8 with
      | none => exact ⟨_, ⟨oc, od, n9, n10, n11, n12, n13, n14, osl, rfl, q, k1⟩, kp⟩
      | _ => cases k2
    | _ => cases c2
/-- a def with one positional default, a thing in the heap -/
def dflD (K : PySem.W.Frag) (v : Value) : Bool := match v with
  | .ref T => (match K.lookup T with
    | some ⟨_, _, .seq its _, _⟩ => (match its.toList with
      | [.ref _] => true
      | _ => false)
    | _ => false)
  | _ => false
theorem dflD_ok {K : PySem.W.Frag} {v : Value} (h : dflD K v = true) : ∃ E : Addr, DflV K v [.ref E] := by
  unfold dflD at h
  split at h
  · rename_i T
    split at h
    · rename_i x1 x2 its n x3 ho
      split at h
      · rename_i E hE
        refine ⟨E, .inr ⟨(fun z => nomatch z), T, _, [.ref E], n, rfl, ho, ?_, .cons rfl .nil⟩⟩
        show Data.seq its n = _
        rw [← hE]
      · cases h
    · cases h
  · cases h
def codD (K : PySem.W.Frag) (a : Addr) (q : Str) : Bool := match K.lookup a with
  | some ⟨_, _, .func fd, _⟩ => PySem.W.codeIn K fd.code q && dflD K fd.defaults
  | _ => false
theorem fund_of {K : PySem.W.Frag} {a : Addr} {d : Dp} (e : fnY K a = d.val) (hc : d.clo = []) (c : (PySem.W.keepIn K (.ref a) && codD K a d.qual) = true) :
    ∃ (E : Addr) (fd : FuncData), FunD K d.name d.qual (defArgs d.st) (defBody d.st) (defScope d.st) [.ref E] [] a fd := by
  obtain ⟨kp, c2⟩ := ba c
  unfold fnY Dp.val at e
  rw [hc] at e
  unfold codD at c2
  cases q : K.lookup a with
  | none =>
    rw [q] at c2
    cases c2
  | some o =>
    obtain ⟨oc, od, dt, osl⟩ := o
    rw [q] at c2 e
    cases dt with
    | func fd =>
      obtain ⟨n1, n2, n3, n4, n5, n6, n7, n8, n9, n10, n11, n12, n13, n14, n15⟩ := fd
      have e2 : (some (n1, n2, n3, n4, n5, n6, n7.map (·.1), n15) : FnY) = some (d.name, d.qual, defArgs d.st, .stmts (defBody d.st), defScope d.st, mainGlobals, [], builtinsNs) := e
      simp only [Option.some.injEq, Prod.mk.injEq] at e2
      obtain ⟨h1, h2, h3, h4, h5, h6, h7, h8⟩ := e2
      have h7' : n7 = [] := List.map_eq_nil_iff.mp h7
      subst h1 h2 h3 h4 h5 h6 h7' h8
      have c3 : (PySem.W.codeIn K n13 d.qual && dflD K n8) = true := c2
      obtain ⟨k1, k2⟩ := ba c3
      obtain ⟨E, hE⟩ := dflD_ok k2
      exact ⟨E, _, ⟨oc, od, n8, n9, n10, n11, n12, n13, n14, osl, rfl, q, k1, hE, .inl rfl⟩, kp⟩
    | _ => cases c2
/-- an empty tuple -/
def emT (K : PySem.W.Frag) (E : Addr) : Bool := match K.lookup E with
  | some ⟨.type t, _, .seq its _, _⟩ => decide (t = "tuple") && decide (its.toList = [])
  | _ => false
theorem emT_ok {K : PySem.W.Frag} {E : Addr} (h : emT K E = true) : ∀ H : Hp, SqT K H E [] := fun H => by
  unfold emT at h
  split at h
  · rename_i t x1 its n x2 ho
    obtain ⟨h1, h2⟩ := ba h
    have e1 := of_decide_eq_true h1
    have e2 := of_decide_eq_true h2
    subst e1
    refine .inr ⟨_, its, n, ho, rfl, rfl, ?_, ?_⟩
    · have : its.size = its.toList.length := rfl
      rw [this, e2]
      exact Nat.zero_le _
    · rw [e2]
      exact .nil
  · cases h
def dflE (K : PySem.W.Frag) (v : Value) : Bool := match v with
  | .ref T => (match K.lookup T with
    | some ⟨_, _, .seq its _, _⟩ => (match its.toList with
      | [.ref E] => emT K E
      | _ => false)
    | _ => false)
  | _ => false
theorem dflE_ok {K : PySem.W.Frag} {v : Value} (h : dflE K v = true) : ∃ E : Addr, DflV K v [.ref E] ∧ ∀ H : Hp, SqT K H E [] := by
  unfold dflE at h
  split at h
  · rename_i T
    split at h
    · rename_i x1 x2 its n x3 ho
      split at h
      · rename_i E hE
        refine ⟨E, .inr ⟨(fun z => nomatch z), T, _, [.ref E], n, rfl, ho, ?_, .cons rfl .nil⟩, emT_ok h⟩
        show Data.seq its n = _
        rw [← hE]
      · cases h
    · cases h
  · cases h
def codE (K : PySem.W.Frag) (a : Addr) (q : Str) : Bool := match K.lookup a with
  | some ⟨_, _, .func fd, _⟩ => PySem.W.codeIn K fd.code q && dflE K fd.defaults
  | _ => false
theorem fund_ofE {K : PySem.W.Frag} {a : Addr} {d : Dp} (e : fnY K a = d.val) (hc : d.clo = []) (c : (PySem.W.keepIn K (.ref a) && codE K a d.qual) = true) :
    ∃ (E : Addr) (fd : FuncData), FunD K d.name d.qual (defArgs d.st) (defBody d.st) (defScope d.st) [.ref E] [] a fd ∧ ∀ H : Hp, SqT K H E [] := by
  obtain ⟨kp, c2⟩ := ba c
  unfold fnY Dp.val at e
  rw [hc] at e
  unfold codE at c2
  cases q : K.lookup a with
  | none =>
    rw [q] at c2
    cases c2
  | some o =>
    obtain ⟨oc, od, dt, osl⟩ := o
    rw [q] at c2 e
    cases dt with
    | func fd =>
      obtain ⟨n1, n2, n3, n4, n5, n6, n7, n8, n9, n10, n11, n12, n13, n14, n15⟩ := fd
      have e2 : (some (n1, n2, n3, n4, n5, n6, n7.map (·.1), n15) : FnY) = some (d.name, d.qual, defArgs d.st, .stmts (defBody d.st), defScope d.st, mainGlobals, [], builtinsNs) := e
      simp only [Option.some.injEq, Prod.mk.injEq] at e2
      obtain ⟨h1, h2, h3, h4, h5, h6, h7, h8⟩ := e2
      have h7' : n7 = [] := List.map_eq_nil_iff.mp h7
      subst h1 h2 h3 h4 h5 h6 h7' h8
      have c3 : (PySem.W.codeIn K n13 d.qual && dflE K n8) = true := c2
      obtain ⟨k1, k2⟩ := ba c3
      obtain ⟨E, hE, hS⟩ := dflE_ok k2
      exact ⟨E, _, ⟨⟨oc, od, n8, n9, n10, n11, n12, n13, n14, osl, rfl, q, k1, hE, .inl rfl⟩, kp⟩, hS⟩
    | _ => cases c2
/-- a def with one keyword-only default, None -/
def kwN (K : PySem.W.Frag) (v : Value) (x : Str) : Bool := match v with
  | .ref D => eqO (PySem.W.nsIn K D x) (some (some .none))
  | _ => false
def codK (K : PySem.W.Frag) (a : Addr) (q x : Str) : Bool := match K.lookup a with
  | some ⟨_, _, .func fd, _⟩ => PySem.W.codeIn K fd.code q && (noneB fd.defaults && kwN K fd.kwdefaults x)
  | _ => false
theorem funk_of {K : PySem.W.Frag} {a : Addr} {d : Dp} {x : Str} (e : fnY K a = d.val) (hc : d.clo = []) (c : (PySem.W.keepIn K (.ref a) && codK K a d.qual x) = true) :
    ∃ fd : FuncData, FunD K d.name d.qual (defArgs d.st) (defBody d.st) (defScope d.st) [] [(x, .non)] a fd := by
  obtain ⟨kp, c2⟩ := ba c
  unfold fnY Dp.val at e
  rw [hc] at e
  unfold codK at c2
  cases q : K.lookup a with
  | none =>
    rw [q] at c2
    cases c2
  | some o =>
    obtain ⟨oc, od, dt, osl⟩ := o
    rw [q] at c2 e
    cases dt with
    | func fd =>
      obtain ⟨n1, n2, n3, n4, n5, n6, n7, n8, n9, n10, n11, n12, n13, n14, n15⟩ := fd
      have e2 : (some (n1, n2, n3, n4, n5, n6, n7.map (·.1), n15) : FnY) = some (d.name, d.qual, defArgs d.st, .stmts (defBody d.st), defScope d.st, mainGlobals, [], builtinsNs) := e
      simp only [Option.some.injEq, Prod.mk.injEq] at e2
      obtain ⟨h1, h2, h3, h4, h5, h6, h7, h8⟩ := e2
      have h7' : n7 = [] := List.map_eq_nil_iff.mp h7
      subst h1 h2 h3 h4 h5 h6 h7' h8
      have c3 : (PySem.W.codeIn K n13 d.qual && (noneB n8 && kwN K n9 x)) = true := c2
      obtain ⟨k1, k2⟩ := ba c3
      obtain ⟨k2, k3⟩ := ba k2
      cases n8 with
      | none =>
        cases n9 with
        | ref D =>
          refine ⟨_, ⟨oc, od, .none, .ref D, n10, n11, n12, n13, n14, osl, rfl, q, k1, .inl ⟨rfl, rfl⟩, .inr ⟨D, rfl, fun p hp => ?_⟩⟩, kp⟩
          rw [List.mem_singleton.mp hp]
          exact ⟨.none, eqO_ok k3, rfl⟩
        | _ => cases k3
      | _ => cases k2
    | _ => cases c2
/-- a method that captures __class__ -/
def celC (K : PySem.W.Frag) (cc C : Addr) : Bool := match K.lookup cc with
  | some ⟨_, _, .cell (some (.ref D)), _⟩ => decide (D = C)
  | _ => false
def cloB (K : PySem.W.Frag) (a C : Addr) : Bool := match K.lookup a with
  | some ⟨_, _, .func fd, _⟩ => (match fd.closure with
    | [(_, cc)] => celC K cc C
    | _ => false)
  | _ => false
/-- .. its code object's file -/
def filC (K : PySem.W.Frag) (c : Addr) (file : Str) : Bool := match K.lookup c with
  | some ⟨_, _, .fields vs, _⟩ => (match vs.toList[2]? with
    | some (Value.str fl _) => file == fl
    | _ => false)
  | _ => false
def filV (K : PySem.W.Frag) (v : Value) (file : Str) : Bool := match v with
  | .ref c => filC K c file
  | _ => false
def filB (K : PySem.W.Frag) (a : Addr) (file : Str) : Bool := match K.lookup a with
  | some ⟨_, _, .func fd, _⟩ => filV K fd.code file
  | _ => false
def kwV (K : PySem.W.Frag) (a : Addr) : Value := match K.lookup a with
  | some ⟨_, _, .func fd, _⟩ => fd.kwdefaults
  | _ => .none
/-- what FunX and SupOf want of the def at a, of the class at C -/
structure ClsDef (P : Program) (K : PySem.W.Frag) (d : Dp) (a C : Addr) : Prop where
  ex : ∃ (oc : Value) (od : Option Addr) (doc pm ct : Value) (an : Option Addr) (osl : Array (Option Value)) (cda cc : Addr) (oc3 : Value) (od3 : Option Addr) (sl3 : Array (Option Value)) (oc2 : Value) (od2 : Option Addr) (vs : Array Value) (sl2 : Array (Option Value)) (fl : Str) (tf : Tok),
    K.lookup a = some ⟨oc, od, .func (PySem.W.ksFn d.name d.qual (defArgs d.st) (defBody d.st) (defScope d.st) .none (kwV K a) doc pm an (.ref cda) ct cc), osl⟩ ∧ PySem.W.codeIn K (.ref cda) d.qual = true ∧
    K.lookup cc = some ⟨oc3, od3, .cell (some (.ref C)), sl3⟩ ∧ K.lookup cda = some ⟨oc2, od2, .fields vs, sl2⟩ ∧ vs.toList[2]? = some (Value.str fl tf) ∧ ((P.main.file : Str) == fl) = true
theorem clsdef_of {P : Program} {K : PySem.W.Frag} {a C : Addr} {d : Dp} (e : fnY K a = d.val) (hc : d.clo = [("__class__" : Str)]) (c : (codB K a d.qual && (cloB K a C && filB K a P.main.file)) = true) : ClsDef P K d a C := by
  obtain ⟨c1, c23⟩ := ba c
  obtain ⟨c2, c3⟩ := ba c23
  unfold fnY Dp.val at e
  rw [hc] at e
  unfold codB at c1
  unfold cloB at c2
  unfold filB at c3
  cases q : K.lookup a with
  | none =>
    rw [q] at c1
    cases c1
  | some o =>
    obtain ⟨oc, od, dt, osl⟩ := o
    rw [q] at c1 c2 c3 e
    cases dt with
    | func fd =>
      have ekw : kwV K a = fd.kwdefaults := by
        unfold kwV
        rw [q]
      obtain ⟨n1, n2, n3, n4, n5, n6, n7, n8, n9, n10, n11, n12, n13, n14, n15⟩ := fd
      have e2 : (some (n1, n2, n3, n4, n5, n6, n7.map (·.1), n15) : FnY) = some (d.name, d.qual, defArgs d.st, .stmts (defBody d.st), defScope d.st, mainGlobals, [("__class__" : Str)], builtinsNs) := e
      simp only [Option.some.injEq, Prod.mk.injEq] at e2
      obtain ⟨h1, h2, h3, h4, h5, h6, h7, h8⟩ := e2
      obtain ⟨cc, rfl⟩ : ∃ cc, n7 = [(("__class__" : Str), cc)] := by
        match n7, h7 with
        | [(y, cc)], h7 =>
          have : y = ("__class__" : Str) := by
            have h9 : [y] = [("__class__" : Str)] := h7
            exact List.head_eq_of_cons_eq h9
          exact ⟨cc, by rw [this]⟩
      subst h1 h2 h3 h4 h5 h6 h8
      have c4 : (PySem.W.codeIn K n13 d.qual && noneB n8) = true := c1
      obtain ⟨k1, k2⟩ := ba c4
      have c5 : celC K cc C = true := c2
      unfold celC at c5
      have c6 : filV K n13 P.main.file = true := c3
      obtain ⟨oc3, od3, sl3, hcell⟩ : ∃ oc3 od3 sl3, K.lookup cc = some ⟨oc3, od3, .cell (some (.ref C)), sl3⟩ := by
        split at c5
        · rename_i x1 x2 D x3 ho
          rw [of_decide_eq_true c5] at ho
          exact ⟨_, _, _, ho⟩
        · cases c5
      cases n13 with
      | ref cda =>
        have c7 : filC K cda P.main.file = true := c6
        unfold filC at c7
        obtain ⟨oc2, od2, vs, sl2, fl, tf, w1, w2, w3⟩ : ∃ oc2 od2 vs sl2 fl tf, K.lookup cda = some ⟨oc2, od2, .fields vs, sl2⟩ ∧ vs.toList[2]? = some (Value.str fl tf) ∧ ((P.main.file : Str) == fl) = true := by
          split at c7
          · rename_i x1 x2 vs x3 ho
            split at c7
            · rename_i fl tf hv
              exact ⟨_, _, vs, _, fl, tf, ho, hv, c7⟩
            · cases c7
          · cases c7
        cases n8 with
        | none =>
          refine ⟨oc, od, n10, n11, n14, n12, osl, cda, cc, oc3, od3, sl3, oc2, od2, vs, sl2, fl, tf, ?_, k1, hcell, w1, w2, w3⟩
          rw [ekw]
          exact q
        | _ => cases k2
      | _ => cases c6
    | _ => cases c1
/-- what super() rests on besides -/
def supB (K : PySem.W.Frag) (C f2 : Addr) : Bool := PySem.W.isClsIn K C && (decide (PySem.W.mroIn K C (.ref C) = some true) && (eqO (PySem.W.nsIn K cStatics "thirdparty.any") (some none) && (eqO (PySem.W.ks_superIn K C C "__init__") (some (some (.ref f2))) &&
  (decide (PySem.W.typeIn K (.ref f2) = some (.type "function")) && PySem.W.fnIn K f2))))
/-! ### properties, calls -/
def getr (K : PySem.W.Frag) (p : Addr) : Addr := match PySem.W.recIn K p "property" with
  | some (.ref g :: _) => g
  | _ => 0
def proB (K : PySem.W.Frag) (C : Addr) (f : Str) : Bool := eqO (PySem.W.findIn K (.ref C) f) (some (some (.ref (ma K C f)))) && (eqO (PySem.W.specialIn K (.ref (ma K C f)) "__get__") (some (some (.builtin "property.__get__"))) &&
  (decide (PySem.W.takesIn K (.ref (ma K C f)) = some true) && (match PySem.W.recIn K (ma K C f) "property" with
    | some (.ref _ :: _) => true
    | _ => false)))
theorem pro_ok {K : PySem.W.Frag} {C : Addr} {f : Str} (h : proB K C f = true) : PropOf K C f (ma K C f) (getr K (ma K C f)) := by
  obtain ⟨c1, c⟩ := ba h
  obtain ⟨c2, c⟩ := ba c
  obtain ⟨c3, c4⟩ := ba c
  refine ⟨eqO_ok c1, eqO_ok c2, of_decide_eq_true c3, ?_⟩
  unfold getr
  split at c4
  · rename_i g rest e
    rw [e]
    exact ⟨rest, rfl⟩
  · cases c4
def calB (K : PySem.W.Frag) (C : Addr) : Bool := eqO (PySem.W.findIn K (.ref C) "__call__") (some (some (.ref (ma K C "__call__")))) && (PySem.W.isFn K (.ref (ma K C "__call__")) && PySem.W.fnIn K (ma K C "__call__"))
theorem cal_ok {K : PySem.W.Frag} {C : Addr} (h : calB K C = true) : CallO K C (ma K C "__call__") := by
  obtain ⟨c1, c⟩ := ba h
  obtain ⟨c2, c3⟩ := ba c
  exact ⟨eqO_ok c1, c2, c3⟩
/-! ### the Hook -/
/-- what an object names, as far as the facts ask -/
def refsQ (o : Obj) : List Addr := match o.data with
  | .dict es _ => es.toList.flatMap fun e => refV e.val
  | .func fd => refV fd.code ++ (refV fd.defaults ++ (refV fd.kwdefaults ++ fd.closure.map (·.2)))
  | .cls cd => [cd.ns]
  | .seq its _ => its.toList.flatMap refV
  | .fields vs => (match o.cls with
    | .type n => (match decide (n = "property") with
      | true => vs.toList.flatMap refV
      | false => [])
    | _ => [])
  | _ => []
def frL {α : Type} : List Addr → (List Addr → α) → α
  | [], k => k []
  | a :: r, k => HandSHeadRun.frNat a fun a => frL r fun r => k (a :: r)
theorem frL_eq {α : Type} : ∀ (l : List Addr) (k : List Addr → α), frL l k = k l
  | [], _ => rfl
  | a :: r, k => by
    show (HandSHeadRun.frNat a fun a => frL r fun r => k (a :: r)) = _
    rw [HandSHeadRun.frNat_eq, frL_eq r]
def lvl (g : Addr → Option Obj) (as : List Addr) : List Addr := as.flatMap fun a => match g a with
  | some o => refsQ o
  | none => []
def asQ {α : Type} (g : Addr → Option Obj) : Nat → List Addr → List Addr → (List Addr → α) → α
  | 0, fr, acc, k => k (acc ++ fr)
  | n + 1, fr, acc, k => frL (lvl g fr) fun f2 => asQ g n f2 (acc ++ fr) k
theorem asQ_ex {g : Addr → Option Obj} : ∀ (n : Nat) (fr acc : List Addr), ∃ as : List Addr, ∀ (α : Type) (k : List Addr → α), asQ g n fr acc k = k as
  | 0, fr, acc => ⟨acc ++ fr, fun _ _ => rfl⟩
  | n + 1, fr, acc => by
    obtain ⟨as, h⟩ := asQ_ex (g := g) n (lvl g fr) (acc ++ fr)
    refine ⟨as, fun α k => ?_⟩
    show (frL (lvl g fr) fun f2 => asQ g n f2 (acc ++ fr) k) = _
    rw [frL_eq]
    exact h α k
def frK {α : Type} (g : Addr → Option Obj) : List Addr → (PySem.W.Frag → α) → α
  | [], k => k []
  | a :: r, k => match g a with
    | some o => frK g r fun K => k ((a, o) :: K)
    | none => frK g r k
theorem frK_eq {α : Type} {g : Addr → Option Obj} : ∀ (as : List Addr) (k : PySem.W.Frag → α), frK g as k = k (frG g as)
  | [], _ => rfl
  | a :: r, k => by
    unfold frK frG
    rw [List.filterMap_cons]
    cases g a with
    | some o =>
      show (frK g r fun K => k ((a, o) :: K)) = _
      rw [frK_eq r]
      rfl
    | none =>
      show frK g r k = _
      rw [frK_eq r]
      rfl
abbrev AlP : Type := Bool × List FnY
abbrev Ck : Type := PySem.W.Frag → Bool
def obsP (cs : List Ck) (fn : List Dp) (K : PySem.W.Frag) : AlP := (cs.all fun c => c K, fn.map fun d => fnY K (d.at_ K))
def valP (fn : List Dp) : AlP := (true, fn.map Dp.val)
def SaysP (cs : List Ck) (fn : List Dp) (K : PySem.W.Frag) : Prop := obsP cs fn K = valP fn
def obsPG (n : Nat) (cs : List Ck) (fn : List Dp) (g : Addr → Option Obj) : AlP := asQ g n [mainGlobals, cStatics] [] fun as => frK g as fun K => obsP cs fn K
theorem obsPG_ex (n : Nat) (cs : List Ck) (fn : List Dp) (g : Addr → Option Obj) : ∃ as, obsPG n cs fn g = obsP cs fn (frG g as) := by
  obtain ⟨as, h⟩ := asQ_ex (g := g) n [mainGlobals, cStatics] []
  refine ⟨as, ?_⟩
  unfold obsPG
  rw [h, frK_eq]
def hookP (n : Nat) (cs : List Ck) (fn : List Dp) : PySem.W.Hook where
  α := AlP
  obs := fun s => obsPG n cs fn s.heap.get?
  val := fun _ => valP fn
  says := fun _ h => ∃ K : PySem.W.Frag, K.In h ∧ SaysP cs fn K
  of := fun _ s e => by
    obtain ⟨as, h⟩ := obsPG_ex n cs fn s.heap.get?
    rw [h] at e
    exact ⟨_, frG_in, e⟩
  keeps := fun _ _ _ ⟨K, hK, c⟩ k => ⟨K, PySem.W.Frag.In.keeps hK k, c⟩
theorem obsPG_eq {n : Nat} {cs : List Ck} {fn : List Dp} {g : Addr → Option Obj} {s : Shared} (h : ∀ a, g a = s.heap.get? a) : obsPG n cs fn g = (hookP n cs fn).obs s := by
  have e : g = s.heap.get? := funext h
  rw [e] <;> rfl
section
variable {cs : List Ck} {fn : List Dp} {K : PySem.W.Frag}
theorem SaysP.ck (c : SaysP cs fn K) (i : Nat) {f : Ck} (h : cs[i]? = some f := by rfl) : f K = true :=
  List.all_eq_true.mp (show (cs.all fun c => c K) = true from congrArg (fun z : AlP => z.1) c) f (List.mem_of_getElem? h)
theorem SaysP.at_ (c : SaysP cs fn K) (i : Nat) {d : Dp} (h : fn[i]? = some d := by rfl) : fnY K (d.at_ K) = d.val := by
  have e : fn.map (fun d => fnY K (d.at_ K)) = fn.map Dp.val := congrArg (fun z : AlP => z.2) c
  have e2 : (fn.map fun d => fnY K (d.at_ K))[i]? = (fn.map Dp.val)[i]? := by rw [e]
  rw [List.getElem?_map, List.getElem?_map, h] at e2
  exact Option.some.inj e2
end
/-! ### the law's end -/
theorem walk_goE {l : PySem.W.OpenLaw} {n k : Nat} {q : Program} {loose : List Str} {XP : (Str → Option Value) → Heap → Prop} {YP : World → Heap → Prop} {d : DefRec} {x : Str}
    (most : l.most = some n) (few : n ≤ sizeLine) (nodf : d.params.defaults = []) (hr : Room k callerA)
    (F : ∀ (w : World) (mg : Str → Option Value) (fa : Addr) (h : Heap), YP w h → h.Ns mainGlobals mg → mg d.name = some (.ref fa) →
      ∃ (K : PySem.W.Frag) (fd : FuncData) (sp : Sp), K.In h ∧ (∀ (s : Shared) (u : Value), BindsTo s fd ⟨[u], []⟩ [(x, u)]) ∧
        (∀ (H : Hp) (a : Addr) (ns : List Int), ns.length ≤ n → Only H → SqL K H a (ns.map V.int) → sp [.ref a] H (fun v _ => v = .bl true) fun _ _ _ => False) ∧
        ∀ base : Heap, K.In base → base.Ns mainGlobals mg → FnG l.prog w K mg base CX0 k fa fd [x] sp) :
    PySem.W.WalkO q loose XP YP l.row.toRowW d [] (fun f vs => PySem.call f vs) := by
  refine Att.attach_call most nodf
    fun w _ s₁ mg mb fa _ _ _ _ a vs ns top Y _ _ _ atF obj allInt len noG => ?_
  obtain ⟨K, fd, sp, inK, binds, hsp, keeps⟩ := F w mg fa _ Y top.T.g atF
  exact law_go inK top.T.g top.T.b top.T.builtins top.T.nolimit noG obj allInt (Nat.le_trans len few) hr keeps binds
    fun H hO hS => hsp H a ns len hO hS
end G
set_option Elab.async false
set_option linter.all false
set_option maxRecDepth 100000
set_option maxHeartbeats 8000000
/-! XA: what the top has written. -/
namespace G
open PySem PySem.Spec PyProof.Rows L2 NdefX StX
open He in
def ownB (K : PySem.W.Frag) (C : Addr) (m : Str) (f : Addr) : Bool := eqO (PySem.W.findIn K (.ref C) m) (some (some (.ref f))) && (PySem.W.isFn K (.ref f) && PySem.W.fnIn K f)
open He in
theorem own_ok {K : PySem.W.Frag} {C f : Addr} {m : Str} (h : ownB K C m f = true) : OwnM K C m f ∧ PySem.W.fnIn K f = true := by
  obtain ⟨c1, h⟩ := ba h
  obtain ⟨c2, c3⟩ := ba h
  exact ⟨⟨eqO_ok c1, c2⟩, c3⟩
open He in
def rckB (K : PySem.W.Frag) (C : Addr) : Bool := eqO (PySem.W.findIn K (.ref C) "__class__") (some (some (.builtin "object.__class__"))) && (eqO (PySem.W.specialIn K (.builtin "object.__class__") "__get__") (some (some (.builtin "getset_descriptor.__get__"))) &&
  (decide (PySem.W.takesIn K (.builtin "object.__class__") = some true) && (decide (PySem.W.mroIn K C (.type "object") = some true) && (decide (PySem.W.kitOne K (.ref C) (.ref C) = some true) && (decide (PySem.W.kitOne K (.type "NoneType") (.ref C) = some false) &&
  (decide (PySem.W.kitOne K (.type "int") (.ref C) = some false) && (decide (PySem.W.kitOne K (.type "str") (.ref C) = some false) && (decide (PySem.W.kitOne K (.type "list") (.ref C) = some false) && (decide (PySem.W.kitOne K (.type "bool") (.ref C) = some false) && decide (PySem.W.kitOne K (.type "dict") (.ref C) = some false))))))))))
open He in
theorem rck_ok {K : PySem.W.Frag} {C : Addr} (h : rckB K C = true) : RcK K C := by
  obtain ⟨c1, h⟩ := ba h
  obtain ⟨c2, h⟩ := ba h
  obtain ⟨c3, h⟩ := ba h
  obtain ⟨c4, h⟩ := ba h
  obtain ⟨c5, h⟩ := ba h
  obtain ⟨c6, h⟩ := ba h
  obtain ⟨c7, h⟩ := ba h
  obtain ⟨c8, h⟩ := ba h
  obtain ⟨c9, h⟩ := ba h
  obtain ⟨c10, c11⟩ := ba h
  exact ⟨eqO_ok c1, eqO_ok c2, of_decide_eq_true c3, of_decide_eq_true c4, of_decide_eq_true c5, of_decide_eq_true c6, of_decide_eq_true c7, of_decide_eq_true c8, of_decide_eq_true c9, of_decide_eq_true c10, of_decide_eq_true c11⟩
open He in
def eqoB (K : PySem.W.Frag) (C f : Addr) : Bool := eqO (PySem.W.findIn K (.ref C) "__eq__") (some (some (.ref f))) && (PySem.W.isFn K (.ref f) && (eqO (PySem.W.findIn K (.ref C) "__ne__") (some (some (.builtin "object.__ne__"))) && decide (PySem.W.mroIn K C (.type "object") = some true)))
open He in
theorem eqo_ok {K : PySem.W.Frag} {C f : Addr} (h : eqoB K C f = true) : EqO K C f := by
  obtain ⟨c1, h⟩ := ba h
  obtain ⟨c2, h⟩ := ba h
  obtain ⟨c3, c4⟩ := ba h
  exact ⟨eqO_ok c1, c2, eqO_ok c3, of_decide_eq_true c4⟩
/-- names of built-in types, in a row -/
def typesB : List Value → List String → Bool
  | [], [] => true
  | .type t :: r, s :: ss => decide (t = s) && typesB r ss
  | _, _ => false
open He in
theorem types_ok : ∀ {l : List Value} {ss : List String}, typesB l ss = true → l = ss.map Value.type
  | [], [], _ => rfl
  | .type t :: r, s :: ss, h => by
    obtain ⟨h1, h2⟩ := ba (show (decide (t = s) && typesB r ss) = true from h)
    rw [of_decide_eq_true h1, types_ok h2]
    rfl
  | [], _ :: _, h => nomatch h
  | .none :: _, _, h => nomatch h
  | .notImplemented :: _, _, h => nomatch h
  | .bool _ :: _, _, h => nomatch h
  | .int _ _ :: _, _, h => nomatch h
  | .str _ _ :: _, _, h => nomatch h
  | .ref _ :: _, _, h => nomatch h
  | .builtin _ :: _, _, h => nomatch h
  | .type _ :: _, [], h => nomatch h
def overB : List Value → Bool
  | .ref _ :: r => overB r
  | l => typesB l ["KeyError", "LookupError", "Exception", "BaseException", "object"] || typesB l ["LookupError", "Exception", "BaseException", "object"]
theorem over_ok : ∀ {l : List Value}, overB l = true → GX.KX.Over l := by
  intro l
  induction l with
  | nil =>
    intro h
    cases h
  | cons v r ih =>
    intro h
    unfold overB at h
    split at h
    · rename_i a r' e
      cases e
      exact (ih h).own a
    · rename_i l' e
      rcases Bool.or_eq_true_iff.mp h with h | h
      · exact ⟨[], .inl (types_ok h)⟩
      · exact ⟨[], .inr (types_ok h)⟩
/-- an own exception class over KeyError or LookupError -/
def oxO (C : Addr) (o : Obj) : Bool := match o with
  | ⟨.type t, _, .cls ⟨_, _, .ref D :: bm, _, _, true, _, _, _, _, false⟩, sl⟩ => decide (t = "type") && (decide (D = C) && (overB bm && (match sl.toList with
    | [_, _, _, _, some (.builtin s), _] => decide (s = "LookupError.__new__")
    | _ => false)))
  | _ => false
open He in
def oxB (K : PySem.W.Frag) (C : Addr) : Bool := (match K.lookup C with
  | some o => oxO C o
  | none => false) && (eqO (PySem.W.findIn K (.ref C) "__setattr__") (some (some (.builtin "object.__setattr__"))) && (decide (PySem.W.subIn K (.ref C) (.type "BaseException") = some true) && (decide (PySem.W.typeIn K (.ref C) = some (.type "type")) && PySem.W.keepIn K (.ref C))))
open He in
theorem ox_ok {K : PySem.W.Frag} {C : Addr} (h : oxB K C = true) : OwnX K C := by
  obtain ⟨c1, h⟩ := ba h
  obtain ⟨c2, h⟩ := ba h
  obtain ⟨c3, h⟩ := ba h
  obtain ⟨c4, c5⟩ := ba h
  refine ⟨?_, eqO_ok c2, of_decide_eq_true c3, of_decide_eq_true c4, c5⟩
  cases q : K.lookup C with
  | none =>
    rw [q] at c1
    cases c1
  | some o =>
    rw [q] at c1
    have c6 : oxO C o = true := c1
    unfold oxO at c6
    split at c6
    · rename_i t od x1 x2 D bm x4 x5 x6 x7 x8 x9 sl
      obtain ⟨d1, c6⟩ := ba c6
      obtain ⟨d2, c6⟩ := ba c6
      obtain ⟨d3, d4⟩ := ba c6
      split at d4
      · rename_i k0 k1 k2 k3 s k5 hs
        have e1 := of_decide_eq_true d1
        have e2 := of_decide_eq_true d2
        have e3 := of_decide_eq_true d4
        subst e1 e2 e3
        refine ⟨⟨x1, x5, x4, x2, bm, x6, x7, x8, x9, od, k0, k1, k2, k3, k5⟩, ?_, over_ok d3⟩
        have e4 : sl = #[k0, k1, k2, k3, some (.builtin "LookupError.__new__"), k5] := by
          rw [← Array.toArray_toList (xs := sl), hs]
        rw [e4]
        rfl
      · cases d4
    · cases c6
theorem err_self {K : PySem.W.Frag} {S : Addr} (h1 : PySem.W.subIn K (.ref S) (.type "BaseException") = some true) (h2 : PySem.W.isClsIn K S = true)
    (h3 : PySem.W.typeIn K (.ref S) = some (.type "type")) (h4 : PySem.W.subIn K (.ref S) (.ref S) = some true) : PySem.W.exmOne K (.ref S) (.ref S) = some true := by
  have a1 : (PySem.W.subIn K (.ref S) (.type "BaseException") == some true) = true := by
    rw [h1]
    rfl
  have a2 : ((PySem.W.clsIn K S).isSome && PySem.W.typeIn K (.ref S) == some (.type "type")) = true := by
    rw [show (PySem.W.clsIn K S).isSome = true from h2, h3]
    rfl
  show (if (PySem.W.subIn K (.ref S) (.type "BaseException") == some true) = true
    then (if ((PySem.W.clsIn K S).isSome && PySem.W.typeIn K (.ref S) == some (.type "type")) = true then PySem.W.subIn K (.ref S) (.ref S) else none) else none) = some true
  rw [if_pos a1, if_pos a2]
  exact h4
open He in
def exiB (K : PySem.W.Frag) (C f : Addr) : Bool := eqO (PySem.W.findIn K (.ref C) "__init__") (some (some (.ref f))) && (decide (PySem.W.typeIn K (.ref f) = some (.type "function")) && (eqO (PySem.W.findIn K (.ref C) "key") (some none) &&
  (decide (PySem.W.subIn K (.ref C) (.type "BaseException") = some true) && (PySem.W.isClsIn K C && (decide (PySem.W.typeIn K (.ref C) = some (.type "type")) && decide (PySem.W.subIn K (.ref C) (.ref C) = some true))))))
open He in
theorem exi_ok {K : PySem.W.Frag} {C f : Addr} (h : exiB K C f = true) : PySem.W.findIn K (.ref C) "__init__" = some (some (.ref f)) ∧ PySem.W.typeIn K (.ref f) = some (.type "function") ∧ PySem.W.findIn K (.ref C) "key" = some none ∧ PySem.W.exmOne K (.ref C) (.ref C) = some true := by
  obtain ⟨c1, h⟩ := ba h
  obtain ⟨c2, h⟩ := ba h
  obtain ⟨c3, h⟩ := ba h
  obtain ⟨c4, h⟩ := ba h
  obtain ⟨c5, h⟩ := ba h
  obtain ⟨c6, c7⟩ := ba h
  exact ⟨eqO_ok c1, of_decide_eq_true c2, eqO_ok c3, err_self (of_decide_eq_true c4) c5 (of_decide_eq_true c6) (of_decide_eq_true c7)⟩
abbrev PX : Program := PySem.W.OpenLaw.prog PySem.Challenge.rw_listviews_k37_records_told
def cks0 : List Ck := [
  fun K => He.Fa.ok K (.free "isinstance"),
  fun K => He.Fa.ok K (.free "int"),
  fun K => He.Fa.ok K (.free "bool"),
  fun K => He.Fa.ok K (.free "str"),
  fun K => He.Fa.ok K (.free "dict"),
  fun K => He.Fa.ok K (.free "len"),
  fun K => He.Fa.ok K (.free "all"),
  fun K => He.Fa.ok K (.free "list"),
  fun K => He.Fa.ok K (.free "range"),
  fun K => He.Fa.ok K (.free "min"),
  fun K => He.Fa.ok K (.free "max"),
  fun K => He.Fa.ok K (.free "tuple"),
  fun K => He.Fa.ok K (.free "repr"),
  fun K => He.Fa.ok K (.free "enumerate"),
  fun K => He.Fa.ok K (.str "LETTERS" "abcdefghijklmnopqrstuvwxyz"),
  fun K => He.Fa.ok K (.int "MOST_LETTERS" 8),
  fun K => He.Fa.ok K (.int "MOST_FIELDS" 6),
  fun K => He.Fa.ok K (.int "GREATEST" 999),
  fun K => He.Fa.ok K (.int "MOST_RECORDS" 40),
  fun K => plainB K (He.ga K "is_integer") "is_integer",
  fun K => He.Fa.ok K (.glo "is_integer"),
  fun K => plainB K (He.ga K "is_name") "is_name",
  fun K => He.Fa.ok K (.glo "is_name"),
  fun K => plainB K (He.ga K "is_value") "is_value",
  fun K => He.Fa.ok K (.glo "is_value"),
  fun K => plainB K (He.ga K "is_list") "is_list",
  fun K => He.Fa.ok K (.glo "is_list"),
  fun K => plainB K (He.ga K "need_name") "need_name",
  fun K => He.Fa.ok K (.glo "need_name"),
  fun K => plainB K (He.ga K "need_value") "need_value"]
def cks1 : List Ck := [
  fun K => He.Fa.ok K (.glo "need_value"),
  fun K => plainB K (He.ga K "need_record") "need_record",
  fun K => He.Fa.ok K (.glo "need_record"),
  fun K => plainB K (He.ga K "checked_pairs") "checked_pairs",
  fun K => He.Fa.ok K (.glo "checked_pairs"),
  fun K => plainB K (He.ga K "_law_cell") "_law_cell",
  fun K => He.Fa.ok K (.glo "_law_cell"),
  fun K => plainB K (He.ga K "_law_box") "_law_box",
  fun K => He.Fa.ok K (.glo "_law_box"),
  fun K => plainB K (He.ga K "_law_take") "_law_take",
  fun K => He.Fa.ok K (.glo "_law_take"),
  fun K => plainB K (He.ga K "_law_mixed") "_law_mixed",
  fun K => He.Fa.ok K (.glo "_law_mixed"),
  fun K => plainB K (He.ga K "_law_names") "_law_names",
  fun K => He.Fa.ok K (.glo "_law_names"),
  fun K => plainB K (He.ga K "_law_number") "_law_number",
  fun K => He.Fa.ok K (.glo "_law_number"),
  fun K => plainB K (He.ga K "_law_value") "_law_value",
  fun K => He.Fa.ok K (.glo "_law_value"),
  fun K => plainB K (He.ga K "_law_pairs") "_law_pairs",
  fun K => He.Fa.ok K (.glo "_law_pairs"),
  fun K => plainB K (He.ga K "_law_unknown") "_law_unknown",
  fun K => He.Fa.ok K (.glo "_law_unknown"),
  fun K => plainB K (He.ga K "_law_told") "_law_told",
  fun K => He.Fa.ok K (.glo "_law_told"),
  fun K => plainB K (He.ga K "_law_changed") "_law_changed",
  fun K => He.Fa.ok K (.glo "_law_changed"),
  fun K => plainB K (He.ga K "law") "law",
  fun K => He.Fa.ok K (.glo "law"),
  fun K => He.Fa.ok K (.glo "Records")]
def cks2 : List Ck := [
  fun K => He.Fa.ok K (.cls "Records"),
  fun K => He.Fa.ok K (.noat "Records" "own_pairs"),
  fun K => He.Fa.ok K (.noat "Records" "own_names"),
  fun K => He.Fa.ok K (.mkr "Records"),
  fun K => (PySem.W.keepIn K (.ref (He.ma K (He.ga K "Records") "__init__")) && codE K (He.ma K (He.ga K "Records") "__init__") "Records.__init__"),
  fun K => plainB K (He.ma K (He.ga K "Records") "names") "Records.names",
  fun K => He.Fa.ok K (.meth "Records" "names"),
  fun K => plainB K (He.ma K (He.ga K "Records") "pairs") "Records.pairs",
  fun K => He.Fa.ok K (.meth "Records" "pairs"),
  fun K => plainB K (He.ma K (He.ga K "Records") "place") "Records.place",
  fun K => He.Fa.ok K (.meth "Records" "place"),
  fun K => plainB K (He.ma K (He.ga K "Records") "__getitem__") "Records.__getitem__",
  fun K => ownB K (He.ga K "Records") "__getitem__" (He.ma K (He.ga K "Records") "__getitem__"),
  fun K => plainB K (He.ma K (He.ga K "Records") "__len__") "Records.__len__",
  fun K => ownB K (He.ga K "Records") "__len__" (He.ma K (He.ga K "Records") "__len__"),
  fun K => plainB K (He.ma K (He.ga K "Records") "__contains__") "Records.__contains__",
  fun K => ownB K (He.ga K "Records") "__contains__" (He.ma K (He.ga K "Records") "__contains__"),
  fun K => plainB K (He.ma K (He.ga K "Records") "__eq__") "Records.__eq__",
  fun K => eqoB K (He.ga K "Records") (He.ma K (He.ga K "Records") "__eq__"),
  fun K => PySem.W.notFirst K (He.ga K "Records") (.ref (He.ga K "Records")),
  fun K => rckB K (He.ga K "Records"),
  fun K => PySem.W.notFirst K (He.ga K "Records") (.type "list"),
  fun K => PySem.W.notFirst K (He.ga K "Records") (.type "dict"),
  fun K => He.Fa.ok K (.glo "UnknownKey"),
  fun K => plainB K (He.ma K (He.ga K "UnknownKey") "__init__") "UnknownKey.__init__",
  fun K => oxB K (He.ga K "UnknownKey"),
  fun K => xfB K (He.ga K "UnknownKey"),
  fun K => exiB K (He.ga K "UnknownKey") (He.ma K (He.ga K "UnknownKey") "__init__")]
abbrev cks : List Ck := cks0 ++ cks1 ++ cks2
def fns0 : List Dp := [
  ⟨fun K => He.ga K "is_integer", "is_integer", "is_integer", sIsInt, []⟩,
  ⟨fun K => He.ga K "is_name", "is_name", "is_name", sIsName, []⟩,
  ⟨fun K => He.ga K "is_value", "is_value", "is_value", sIsValue, []⟩,
  ⟨fun K => He.ga K "is_list", "is_list", "is_list", sIsList, []⟩,
  ⟨fun K => He.ga K "need_name", "need_name", "need_name", sNeedName, []⟩,
  ⟨fun K => He.ga K "need_value", "need_value", "need_value", sNeedValue, []⟩,
  ⟨fun K => He.ga K "need_record", "need_record", "need_record", sNeedRecord, []⟩,
  ⟨fun K => He.ga K "checked_pairs", "checked_pairs", "checked_pairs", sChk, []⟩,
  ⟨fun K => He.ga K "_law_cell", "_law_cell", "_law_cell", sCell, []⟩,
  ⟨fun K => He.ga K "_law_box", "_law_box", "_law_box", sBox, []⟩,
  ⟨fun K => He.ga K "_law_take", "_law_take", "_law_take", sTake, []⟩,
  ⟨fun K => He.ga K "_law_mixed", "_law_mixed", "_law_mixed", sMixed, []⟩,
  ⟨fun K => He.ga K "_law_names", "_law_names", "_law_names", sNames, []⟩,
  ⟨fun K => He.ga K "_law_number", "_law_number", "_law_number", sNumber, []⟩,
  ⟨fun K => He.ga K "_law_value", "_law_value", "_law_value", sValue, []⟩,
  ⟨fun K => He.ga K "_law_pairs", "_law_pairs", "_law_pairs", sPairs, []⟩,
  ⟨fun K => He.ga K "_law_unknown", "_law_unknown", "_law_unknown", sUnk, []⟩,
  ⟨fun K => He.ga K "_law_told", "_law_told", "_law_told", sTold, []⟩,
  ⟨fun K => He.ga K "_law_changed", "_law_changed", "_law_changed", sChg, []⟩,
  ⟨fun K => He.ga K "law", "law", "law", sLaw, []⟩]
def fns1 : List Dp := [
  ⟨fun K => He.ma K (He.ga K "Records") "__init__", "__init__", "Records.__init__", (sRc 0), []⟩,
  ⟨fun K => He.ma K (He.ga K "Records") "names", "names", "Records.names", (sRc 1), []⟩,
  ⟨fun K => He.ma K (He.ga K "Records") "pairs", "pairs", "Records.pairs", (sRc 2), []⟩,
  ⟨fun K => He.ma K (He.ga K "Records") "place", "place", "Records.place", (sRc 3), []⟩,
  ⟨fun K => He.ma K (He.ga K "Records") "__getitem__", "__getitem__", "Records.__getitem__", (sRc 4), []⟩,
  ⟨fun K => He.ma K (He.ga K "Records") "__len__", "__len__", "Records.__len__", (sRc 5), []⟩,
  ⟨fun K => He.ma K (He.ga K "Records") "__contains__", "__contains__", "Records.__contains__", (sRc 6), []⟩,
  ⟨fun K => He.ma K (He.ga K "Records") "__eq__", "__eq__", "Records.__eq__", (sRc 8), []⟩,
  ⟨fun K => He.ma K (He.ga K "UnknownKey") "__init__", "__init__", "UnknownKey.__init__", sUK, []⟩]
abbrev fns : List Dp := fns0 ++ fns1
theorem facts {w : World} {K : PySem.W.Frag} {h : Heap} {mg : Str → Option Value} {fa : Addr} (X : K.In h) (G : h.Ns mainGlobals mg) (hfa : mg "law" = some (.ref fa)) (c : SaysP cks fns K) :
    ∃ fd : FuncData, (∀ (s : Shared) (u : Value), BindsTo s fd ⟨[u], []⟩ [("_law_script", u)]) ∧ ∀ base : Heap, K.In base → base.Ns mainGlobals mg → FnG PX w K mg base CX0 8 fa fd ["_law_script"] (spLaw K) := by
  have m_isinstance : mg "isinstance" = none := He.free_ok X G (c.ck 0 rfl)
  have m_int : mg "int" = none := He.free_ok X G (c.ck 1 rfl)
  have m_bool : mg "bool" = none := He.free_ok X G (c.ck 2 rfl)
  have m_str : mg "str" = none := He.free_ok X G (c.ck 3 rfl)
  have m_dict : mg "dict" = none := He.free_ok X G (c.ck 4 rfl)
  have m_len : mg "len" = none := He.free_ok X G (c.ck 5 rfl)
  have m_all : mg "all" = none := He.free_ok X G (c.ck 6 rfl)
  have m_list : mg "list" = none := He.free_ok X G (c.ck 7 rfl)
  have m_range : mg "range" = none := He.free_ok X G (c.ck 8 rfl)
  have m_min : mg "min" = none := He.free_ok X G (c.ck 9 rfl)
  have m_max : mg "max" = none := He.free_ok X G (c.ck 10 rfl)
  have m_tuple : mg "tuple" = none := He.free_ok X G (c.ck 11 rfl)
  have m_repr : mg "repr" = none := He.free_ok X G (c.ck 12 rfl)
  have m_enumerate : mg "enumerate" = none := He.free_ok X G (c.ck 13 rfl)
  obtain ⟨tcLet, gcLet⟩ := He.str_ok X G (x := "LETTERS") (c.ck 14 rfl)
  obtain ⟨tcML, gcML⟩ := He.int_ok X G (x := "MOST_LETTERS") (c.ck 15 rfl)
  obtain ⟨tcMF, gcMF⟩ := He.int_ok X G (x := "MOST_FIELDS") (c.ck 16 rfl)
  obtain ⟨tcG, gcG⟩ := He.int_ok X G (x := "GREATEST") (c.ck 17 rfl)
  obtain ⟨tcMR, gcMR⟩ := He.int_ok X G (x := "MOST_RECORDS") (c.ck 18 rfl)
  obtain ⟨fd1, F1⟩ : ∃ fd, Fun K "is_integer" "is_integer" sIsInt (He.ga K "is_integer") fd := fun_of (c.at_ 0 rfl) rfl (c.ck 19 rfl)
  have b1 := F1.binds (ps := ["value", "low", "high"]) fun _ _ _ _ _ _ us hl => match us, hl with | [_, _, _], _ => rfl
  have g1 : mg "is_integer" = some (.ref (He.ga K "is_integer")) := He.glo_ok X G (c.ck 20 rfl)
  have k1 := F1.kp
  obtain ⟨fd2, F2⟩ : ∃ fd, Fun K "is_name" "is_name" sIsName (He.ga K "is_name") fd := fun_of (c.at_ 1 rfl) rfl (c.ck 21 rfl)
  have b2 := F2.binds (ps := ["value"]) fun _ _ _ _ _ _ us hl => match us, hl with | [_], _ => rfl
  have g2 : mg "is_name" = some (.ref (He.ga K "is_name")) := He.glo_ok X G (c.ck 22 rfl)
  have k2 := F2.kp
  obtain ⟨fd3, F3⟩ : ∃ fd, Fun K "is_value" "is_value" sIsValue (He.ga K "is_value") fd := fun_of (c.at_ 2 rfl) rfl (c.ck 23 rfl)
  have b3 := F3.binds (ps := ["value"]) fun _ _ _ _ _ _ us hl => match us, hl with | [_], _ => rfl
  have g3 : mg "is_value" = some (.ref (He.ga K "is_value")) := He.glo_ok X G (c.ck 24 rfl)
  have k3 := F3.kp
  obtain ⟨fd4, F4⟩ : ∃ fd, Fun K "is_list" "is_list" sIsList (He.ga K "is_list") fd := fun_of (c.at_ 3 rfl) rfl (c.ck 25 rfl)
  have b4 := F4.binds (ps := ["value", "most"]) fun _ _ _ _ _ _ us hl => match us, hl with | [_, _], _ => rfl
  have g4 : mg "is_list" = some (.ref (He.ga K "is_list")) := He.glo_ok X G (c.ck 26 rfl)
  have k4 := F4.kp
  obtain ⟨fd5, F5⟩ : ∃ fd, Fun K "need_name" "need_name" sNeedName (He.ga K "need_name") fd := fun_of (c.at_ 4 rfl) rfl (c.ck 27 rfl)
  have b5 := F5.binds (ps := ["value"]) fun _ _ _ _ _ _ us hl => match us, hl with | [_], _ => rfl
  have g5 : mg "need_name" = some (.ref (He.ga K "need_name")) := He.glo_ok X G (c.ck 28 rfl)
  have k5 := F5.kp
  obtain ⟨fd6, F6⟩ : ∃ fd, Fun K "need_value" "need_value" sNeedValue (He.ga K "need_value") fd := fun_of (c.at_ 5 rfl) rfl (c.ck 29 rfl)
  have b6 := F6.binds (ps := ["value"]) fun _ _ _ _ _ _ us hl => match us, hl with | [_], _ => rfl
  have g6 : mg "need_value" = some (.ref (He.ga K "need_value")) := He.glo_ok X G (c.ck 30 rfl)
  have k6 := F6.kp
  obtain ⟨fd7, F7⟩ : ∃ fd, Fun K "need_record" "need_record" sNeedRecord (He.ga K "need_record") fd := fun_of (c.at_ 6 rfl) rfl (c.ck 31 rfl)
  have b7 := F7.binds (ps := ["key", "value"]) fun _ _ _ _ _ _ us hl => match us, hl with | [_, _], _ => rfl
  have g7 : mg "need_record" = some (.ref (He.ga K "need_record")) := He.glo_ok X G (c.ck 32 rfl)
  have k7 := F7.kp
  obtain ⟨fdck, Fck⟩ : ∃ fd, Fun K "checked_pairs" "checked_pairs" sChk (He.ga K "checked_pairs") fd := fun_of (c.at_ 7 rfl) rfl (c.ck 33 rfl)
  have bck := Fck.binds (ps := ["pairs", "taken"]) fun _ _ _ _ _ _ us hl => match us, hl with | [_, _], _ => rfl
  have gck : mg "checked_pairs" = some (.ref (He.ga K "checked_pairs")) := He.glo_ok X G (c.ck 34 rfl)
  have kck := Fck.kp
  obtain ⟨fd8, F8⟩ : ∃ fd, Fun K "_law_cell" "_law_cell" sCell (He.ga K "_law_cell") fd := fun_of (c.at_ 8 rfl) rfl (c.ck 35 rfl)
  have b8 := F8.binds (ps := ["_law_script", "_law_k"]) fun _ _ _ _ _ _ us hl => match us, hl with | [_, _], _ => rfl
  have g8 : mg "_law_cell" = some (.ref (He.ga K "_law_cell")) := He.glo_ok X G (c.ck 36 rfl)
  have k8 := F8.kp
  obtain ⟨fd9, F9⟩ : ∃ fd, Fun K "_law_box" "_law_box" sBox (He.ga K "_law_box") fd := fun_of (c.at_ 9 rfl) rfl (c.ck 37 rfl)
  have b9 := F9.binds (ps := ["_law_cell_here"]) fun _ _ _ _ _ _ us hl => match us, hl with | [_], _ => rfl
  have g9 : mg "_law_box" = some (.ref (He.ga K "_law_box")) := He.glo_ok X G (c.ck 38 rfl)
  have k9 := F9.kp
  obtain ⟨fdA, FA⟩ : ∃ fd, Fun K "_law_take" "_law_take" sTake (He.ga K "_law_take") fd := fun_of (c.at_ 10 rfl) rfl (c.ck 39 rfl)
  have bA := FA.binds (ps := ["_law_box_here", "_law_many"]) fun _ _ _ _ _ _ us hl => match us, hl with | [_, _], _ => rfl
  have gA : mg "_law_take" = some (.ref (He.ga K "_law_take")) := He.glo_ok X G (c.ck 40 rfl)
  have kA := FA.kp
  obtain ⟨fdB, FB⟩ : ∃ fd, Fun K "_law_mixed" "_law_mixed" sMixed (He.ga K "_law_mixed") fd := fun_of (c.at_ 11 rfl) rfl (c.ck 41 rfl)
  have bB := FB.binds (ps := ["_law_box_here", "_law_some"]) fun _ _ _ _ _ _ us hl => match us, hl with | [_, _], _ => rfl
  have gB : mg "_law_mixed" = some (.ref (He.ga K "_law_mixed")) := He.glo_ok X G (c.ck 42 rfl)
  have kB := FB.kp
  obtain ⟨fdC, FC⟩ : ∃ fd, Fun K "_law_names" "_law_names" sNames (He.ga K "_law_names") fd := fun_of (c.at_ 12 rfl) rfl (c.ck 43 rfl)
  have bC := FC.binds (ps := ["_law_box_here", "_law_many"]) fun _ _ _ _ _ _ us hl => match us, hl with | [_, _], _ => rfl
  have gC : mg "_law_names" = some (.ref (He.ga K "_law_names")) := He.glo_ok X G (c.ck 44 rfl)
  have kC := FC.kp
  obtain ⟨fdD, FD⟩ : ∃ fd, Fun K "_law_number" "_law_number" sNumber (He.ga K "_law_number") fd := fun_of (c.at_ 13 rfl) rfl (c.ck 45 rfl)
  have bD := FD.binds (ps := ["_law_box_here"]) fun _ _ _ _ _ _ us hl => match us, hl with | [_], _ => rfl
  have gD : mg "_law_number" = some (.ref (He.ga K "_law_number")) := He.glo_ok X G (c.ck 46 rfl)
  have kD := FD.kp
  obtain ⟨fdE, FE⟩ : ∃ fd, Fun K "_law_value" "_law_value" sValue (He.ga K "_law_value") fd := fun_of (c.at_ 14 rfl) rfl (c.ck 47 rfl)
  have bE := FE.binds (ps := ["_law_box_here", "_law_fields"]) fun _ _ _ _ _ _ us hl => match us, hl with | [_, _], _ => rfl
  have gE : mg "_law_value" = some (.ref (He.ga K "_law_value")) := He.glo_ok X G (c.ck 48 rfl)
  have kE := FE.kp
  obtain ⟨fdps, Fps⟩ : ∃ fd, Fun K "_law_pairs" "_law_pairs" sPairs (He.ga K "_law_pairs") fd := fun_of (c.at_ 15 rfl) rfl (c.ck 49 rfl)
  have bps := Fps.binds (ps := ["_law_box_here", "_law_names_here", "_law_fields"]) fun _ _ _ _ _ _ us hl => match us, hl with | [_, _, _], _ => rfl
  have gps : mg "_law_pairs" = some (.ref (He.ga K "_law_pairs")) := He.glo_ok X G (c.ck 50 rfl)
  have kps := Fps.kp
  obtain ⟨fduk, Fuk⟩ : ∃ fd, Fun K "_law_unknown" "_law_unknown" sUnk (He.ga K "_law_unknown") fd := fun_of (c.at_ 16 rfl) rfl (c.ck 51 rfl)
  have buk := Fuk.binds (ps := ["_law_records", "_law_thing"]) fun _ _ _ _ _ _ us hl => match us, hl with | [_, _], _ => rfl
  have guk : mg "_law_unknown" = some (.ref (He.ga K "_law_unknown")) := He.glo_ok X G (c.ck 52 rfl)
  have kuk := Fuk.kp
  obtain ⟨fdto, Fto⟩ : ∃ fd, Fun K "_law_told" "_law_told" sTold (He.ga K "_law_told") fd := fun_of (c.at_ 17 rfl) rfl (c.ck 53 rfl)
  have bto := Fto.binds (ps := ["_law_records", "_law_pairs_here"]) fun _ _ _ _ _ _ us hl => match us, hl with | [_, _], _ => rfl
  have gto : mg "_law_told" = some (.ref (He.ga K "_law_told")) := He.glo_ok X G (c.ck 54 rfl)
  have kto := Fto.kp
  obtain ⟨fdch, Fch⟩ : ∃ fd, Fun K "_law_changed" "_law_changed" sChg (He.ga K "_law_changed") fd := fun_of (c.at_ 18 rfl) rfl (c.ck 55 rfl)
  have bch := Fch.binds (ps := ["_law_pairs_here", "_law_box_here"]) fun _ _ _ _ _ _ us hl => match us, hl with | [_, _], _ => rfl
  have gch : mg "_law_changed" = some (.ref (He.ga K "_law_changed")) := He.glo_ok X G (c.ck 56 rfl)
  have kch := Fch.kp
  obtain ⟨fdL, FL⟩ : ∃ fd, Fun K "law" "law" sLaw (He.ga K "law") fd := fun_of (c.at_ 19 rfl) rfl (c.ck 57 rfl)
  have bL := FL.binds (ps := ["_law_script"]) fun _ _ _ _ _ _ us hl => match us, hl with | [_], _ => rfl
  have gL : mg "law" = some (.ref (He.ga K "law")) := He.glo_ok X G (c.ck 58 rfl)
  have kL := FL.kp
  have gRc : mg "Records" = some (.ref (He.ga K "Records")) := He.glo_ok X G (c.ck 59 rfl)
  have cRc : Cls K (He.ga K "Records") := He.cls_ok (c.ck 60 rfl)
  have nRc_own_pairs : NoAttr K (He.ga K "Records") "own_pairs" := He.noat_ok (c.ck 61 rfl)
  have nRc_own_names : NoAttr K (He.ga K "Records") "own_names" := He.noat_ok (c.ck 62 rfl)
  have MRc : Mk K (He.ga K "Records") (He.ma K (He.ga K "Records") "__init__") := He.mkr_ok (c.ck 63 rfl)
  obtain ⟨Ein, fdin, Fin, hED⟩ : ∃ E fd, FunD K "__init__" "Records.__init__" (defArgs (sRc 0)) (defBody (sRc 0)) (defScope (sRc 0)) [.ref E] [] (He.ma K (He.ga K "Records") "__init__") fd ∧ ∀ H : Hp, SqT K H E [] := fund_ofE (c.at_ 20 rfl) rfl (c.ck 64 rfl)
  have bin := rcinit_binds Fin
  obtain ⟨fdnm, Fnm⟩ : ∃ fd, Fun K "names" "Records.names" (sRc 1) (He.ma K (He.ga K "Records") "names") fd := fun_of (c.at_ 21 rfl) rfl (c.ck 65 rfl)
  have bnm := Fnm.binds (ps := ["self"]) fun _ _ _ _ _ _ us hl => match us, hl with | [_], _ => rfl
  have Mnm : Meth K (He.ga K "Records") "names" (He.ma K (He.ga K "Records") "names") := He.meth_ok (c.ck 66 rfl)
  obtain ⟨fdpr, Fpr⟩ : ∃ fd, Fun K "pairs" "Records.pairs" (sRc 2) (He.ma K (He.ga K "Records") "pairs") fd := fun_of (c.at_ 22 rfl) rfl (c.ck 67 rfl)
  have bpr := Fpr.binds (ps := ["self"]) fun _ _ _ _ _ _ us hl => match us, hl with | [_], _ => rfl
  have Mpr : Meth K (He.ga K "Records") "pairs" (He.ma K (He.ga K "Records") "pairs") := He.meth_ok (c.ck 68 rfl)
  obtain ⟨fdpl, Fpl⟩ : ∃ fd, Fun K "place" "Records.place" (sRc 3) (He.ma K (He.ga K "Records") "place") fd := fun_of (c.at_ 23 rfl) rfl (c.ck 69 rfl)
  have bpl := Fpl.binds (ps := ["self", "key"]) fun _ _ _ _ _ _ us hl => match us, hl with | [_, _], _ => rfl
  have Mpl : Meth K (He.ga K "Records") "place" (He.ma K (He.ga K "Records") "place") := He.meth_ok (c.ck 70 rfl)
  obtain ⟨fdge, Fge⟩ : ∃ fd, Fun K "__getitem__" "Records.__getitem__" (sRc 4) (He.ma K (He.ga K "Records") "__getitem__") fd := fun_of (c.at_ 24 rfl) rfl (c.ck 71 rfl)
  have bge := Fge.binds (ps := ["self", "key"]) fun _ _ _ _ _ _ us hl => match us, hl with | [_, _], _ => rfl
  obtain ⟨OOge, ige⟩ := own_ok (c.ck 72 rfl : ownB K (He.ga K "Records") "__getitem__" (He.ma K (He.ga K "Records") "__getitem__") = true)
  obtain ⟨fdln, Fln⟩ : ∃ fd, Fun K "__len__" "Records.__len__" (sRc 5) (He.ma K (He.ga K "Records") "__len__") fd := fun_of (c.at_ 25 rfl) rfl (c.ck 73 rfl)
  have bln := Fln.binds (ps := ["self"]) fun _ _ _ _ _ _ us hl => match us, hl with | [_], _ => rfl
  obtain ⟨OOln, iln⟩ := own_ok (c.ck 74 rfl : ownB K (He.ga K "Records") "__len__" (He.ma K (He.ga K "Records") "__len__") = true)
  obtain ⟨fdco, Fco⟩ : ∃ fd, Fun K "__contains__" "Records.__contains__" (sRc 6) (He.ma K (He.ga K "Records") "__contains__") fd := fun_of (c.at_ 26 rfl) rfl (c.ck 75 rfl)
  have bco := Fco.binds (ps := ["self", "item"]) fun _ _ _ _ _ _ us hl => match us, hl with | [_, _], _ => rfl
  obtain ⟨OOco, ico⟩ := own_ok (c.ck 76 rfl : ownB K (He.ga K "Records") "__contains__" (He.ma K (He.ga K "Records") "__contains__") = true)
  obtain ⟨fdeq, Feq⟩ : ∃ fd, Fun K "__eq__" "Records.__eq__" (sRc 8) (He.ma K (He.ga K "Records") "__eq__") fd := fun_of (c.at_ 27 rfl) rfl (c.ck 77 rfl)
  have beq := Feq.binds (ps := ["self", "other"]) fun _ _ _ _ _ _ us hl => match us, hl with | [_, _], _ => rfl
  have EO : EqO K (He.ga K "Records") (He.ma K (He.ga K "Records") "__eq__") := eqo_ok (c.ck 78 rfl)
  have nE : PySem.W.notFirst K (He.ga K "Records") (.ref (He.ga K "Records")) = true := c.ck 79 rfl
  have kk : RcK K (He.ga K "Records") := rck_ok (c.ck 80 rfl)
  obtain ⟨dsI, vI, bI0⟩ := rcinit_binds0 Fin
  have nL : PySem.W.notFirst K (He.ga K "Records") (.type "list") = true := c.ck 81 rfl
  have nD : PySem.W.notFirst K (He.ga K "Records") (.type "dict") = true := c.ck 82 rfl
  have gXr : mg "UnknownKey" = some (.ref (He.ga K "UnknownKey")) := He.glo_ok X G (c.ck 83 rfl)
  obtain ⟨fdix, Fix⟩ : ∃ fd, Fun K "__init__" "UnknownKey.__init__" sUK (He.ma K (He.ga K "UnknownKey") "__init__") fd := fun_of (c.at_ 28 rfl) rfl (c.ck 84 rfl)
  have bix := Fix.binds (ps := ["self", "key"]) fun _ _ _ _ _ _ us hl => match us, hl with | [_, _], _ => rfl
  have Tx : OwnX K (He.ga K "UnknownKey") := ox_ok (c.ck 85 rfl)
  have XT : XfC K (He.ga K "UnknownKey") := xfB_ok (c.ck 86 rfl)
  obtain ⟨iX, tX, nX, eX⟩ := exi_ok (c.ck 87 rfl : exiB K (He.ga K "UnknownKey") (He.ma K (He.ga K "UnknownKey") "__init__") = true)
  have e := hfa.symm.trans gL
  cases e
  obtain ⟨_, _, _, _, _, _, _, _, _, hfd, _, _⟩ := FL.ex
  refine ⟨fdL, fun s u => by rw [hfd]; exact .of_eq rfl, fun base _ _ => ?_⟩
  have O1 : FnOk PX w K mg base CX0 1 _ _ ["value", "low", "high"] spIsInt := ok_isint F1 m_isinstance m_int m_bool
  have O2 : FnOk PX w K mg base CX0 1 _ _ ["value"] spIsName := ok_isname F2 gcML gcLet m_isinstance m_str m_len m_all
  have O5 : FnOk PX w K mg base CX0 2 _ _ ["value"] spNeedName := ok_needname F5 F2 b2 g2 O2
  have O3 : FnOk PX w K mg base CX0 2 _ _ ["value"] spIsValue := ok_isvalue F3 F2 b2 g2 O2 F1 b1 g1 O1 gcMF gcG m_isinstance m_dict m_len m_all
  have O6 : FnOk PX w K mg base CX0 3 _ _ ["value"] spNeedValue := ok_needvalue F6 F3 b3 g3 O3
  have O7 : FnOk PX w K mg base CX0 4 _ _ ["key", "value"] spNeedRecord := ok_needrecord F7 k5 b5 g5 O5 k6 b6 g6 O6
  have O4 : FnOk PX w K mg base CX0 1 _ _ ["value", "most"] (spIsList K) := ok_islist F4 m_isinstance m_len m_list m_tuple
  have Ock : FnOk PX w K mg base CX0 5 _ _ ["pairs", "taken"] (spChk K) := ok_chk Fck O4 g4 k4 b4 O7 g7 k7 b7 gcMR m_isinstance m_len m_list m_tuple m_dict
  have cc : RcC K (He.ga K "Records") := ⟨cRc, nRc_own_pairs, nRc_own_names⟩
  have Oin : FnOk PX w K mg base CX0 6 _ _ ["self", "pairs"] (spRcI K (He.ga K "Records")) := ok_rcinit Fin cc Ock gck kck bck
  have Onm : FnOk PX w K mg base CX0 1 _ _ ["self"] (spRcNm (He.ga K "Records")) := ok_rcnames Fnm cc m_list
  have Opr : FnOk PX w K mg base CX0 1 _ _ ["self"] (spRcP (He.ga K "Records")) := ok_rcpairs Fpr cc m_dict
  have Opl : FnOk PX w K mg base CX0 1 _ _ ["self", "key"] (spRcL (He.ga K "Records")) := ok_rcplace Fpl cc
  have Oge : FnOk PX w K mg base CX0 2 _ _ ["self", "key"] (spRcG (He.ga K "Records")) := ok_rcget Fge cc Mpl bpl Opl m_dict
  have Oln : FnOk PX w K mg base CX0 1 _ _ ["self"] (spRcN (He.ga K "Records")) := ok_rclen Fln cc m_len
  have Oco : FnOk PX w K mg base CX0 1 _ _ ["self", "item"] (spRcC (He.ga K "Records")) := ok_rchas Fco cc
  have OcN : FnOk PX w K mg base CX0 1 _ _ ["self", "item"] (spRcCn (He.ga K "Records")) := ok_rchasN Fco cc
  have Oeq : FnOk PX w K mg base CX0 1 _ _ ["self", "other"] (spRcE (He.ga K "Records")) := ok_rceq Feq cc kk gRc m_isinstance
  have Oeo : FnOk PX w K mg base CX0 1 _ _ ["self", "other"] (spRcEo (He.ga K "Records")) := ok_rceqO Feq cc kk gRc m_isinstance
  have Oix : FnOk PX w K mg base CX0 1 _ _ ["self", "key"] (spInitK (He.ga K "UnknownKey")) := ok_uk Fix Tx nX
  have OplX : FnOk PX w K mg base (L2.CX PX w) 3 _ _ ["self", "key"] (spRcX1 (He.ga K "Records") (He.ga K "UnknownKey")) := ok_placeX Fpl cc Tx gXr iX tX bix Oix
  have OgeX : FnOk PX w K mg base (L2.CX PX w) 4 _ _ ["self", "key"] (spRcX1 (He.ga K "Records") (He.ga K "UnknownKey")) := ok_getX Fge cc Mpl bpl OplX
  have Nn : FnOk PX w K mg base CX0 3 _ _ ["_law_box_here", "_law_many"] spNamesD := ok_namesD FC FA bA gA FB bB gB m_len m_list m_range
  have Nv : FnOk PX w K mg base CX0 3 _ _ ["_law_box_here", "_law_fields"] (spValue K) := ok_value FE FA bA gA FB bB gB FD bD gD m_len m_list m_min
  have Np : FnOk PX w K mg base CX0 4 _ _ ["_law_box_here", "_law_names_here", "_law_fields"] spPairs := ok_pairs Fps Nv gE kE bE
  have Oun : FnG PX w K mg base CX0 6 _ _ ["_law_records", "_law_thing"] (spUnk K (He.ga K "Records")) := ok_unk Fuk cc Mpl bpl OplX OOge ige bge OgeX gXr XT nX eX m_range m_repr
  have Oto : FnOk PX w K mg base CX0 4 _ _ ["_law_records", "_law_pairs_here"] (spTold K (He.ga K "Records")) := ok_told Fto cc Mnm bnm Onm Mpr bpr Opr OOln bln Oln OOge ige bge Oge Mpl bpl Opl OOco bco Oco m_len m_enumerate m_repr m_str
  have Och : FnOk PX w K mg base CX0 3 _ _ ["_law_pairs_here", "_law_box_here"] (spChg K) := ok_chg Fch FA bA gA m_len m_list m_dict
  exact ok_law FL F8 b8 g8 F9 b9 g9 FA bA gA kC bC gC Nn Np gps kps bps Oto gto kto bto Oun guk kuk buk Och gch kch bch cc MRc Oin gRc bin vI bI0 hED EO beq Oeq Oeo nE nL nD OOco bco OcN OOln bln Oln Mnm bnm Onm m_range m_max m_min m_len m_tuple m_repr m_dict
end G
set_option Elab.async false
set_option linter.all false
set_option maxRecDepth 100000
set_option maxHeartbeats 8000000
/-! XB: the top's run. -/
namespace G
open PySem PySem.Spec PyProof.Rows L2 NdefX StX
abbrev hk : PySem.W.Hook := hookP 5 cks fns
def ob (s : PySem.W.SharedT) : AlP := obsPG 5 cks fns (HandSHeadRun.getT s)
theorem ob_eq (s : PySem.W.SharedT) : ob s = hk.obs s.abs := obsPG_eq (HandSHeadRun.getT_eq s)
def loose0 : List Str := ["_wall", "BoardError", "MissingError", "StateError", "InvalidName", "InvalidValue", "InvalidRecords", "UnknownKey", "KeyTaken", "LETTERS", "MOST_LETTERS", "MOST_FIELDS", "GREATEST", "is_integer", "is_name", "is_value", "is_list", "need_name", "need_value", "need_record", "MOST_RECORDS", "Records", "checked_pairs", "_law_cell", "_law_box", "_law_take", "_law_mixed", "_law_names", "_law_number", "_law_value"]
def loose1 : List Str := ["_law_pairs", "_law_unknown", "_law_told", "_law_changed"]
abbrev looseX : List Str := loose0 ++ loose1
theorem run (w : World) : HandSHeadRun.RunEq (PySem.W.OpenLaw.row PySem.Challenge.rw_listviews_k37_records_told) (PySem.W.view PX [39]) hk ob 20000 looseX w := by
  intro os
  kernel_rfl
end G
set_option Elab.async false
set_option linter.all false
set_option maxRecDepth 100000
set_option maxHeartbeats 8000000
/-! XC: the end. -/
open PySem PySem.W PySem.Calls PyProof.Rows
set_option maxRecDepth 100000 in
set_option maxHeartbeats 0 in
theorem PySem.Challenge.cw_listviews_k37_records_told_holds : PySem.Challenge.rw_listviews_k37_records_told.Holds := by
  w_on; o_law
  refine HandSHeadRun.head_any (r := OpenLaw.row PySem.Challenge.rw_listviews_k37_records_told) (q := view (OpenLaw.row PySem.Challenge.rw_listviews_k37_records_told).prog [39]) (H := G.hk) (ob := G.ob) (M := 20000) (loose := G.looseX) (d := HandSHeadRun.topDef (OpenLaw.row PySem.Challenge.rw_listviews_k37_records_told).prog 39) (kwd := []) G.ob_eq
    (by kernel_rfl) (fun s => by kernel_rfl) G.run (by kernel_rfl) (by kernel_rfl) (by kernel_rfl) (by rfl) (by first | assumption | decide +kernel) (by decide +kernel) ⟨rfl, rfl, rfl, rfl, rfl, by decide +kernel⟩ ?hw ?hc
  case hw => w_witness2
  case hc =>
    refine G.walk_goE (l := PySem.Challenge.rw_listviews_k37_records_told) (n := 63) (k := 8) (x := "_law_script") rfl (by decide) (by kernel_rfl) ⟨rfl, by decide, by decide⟩ ?F
    intro w mg fa h Y GX hmg0
    obtain ⟨K, KX, c⟩ := Y
    have hmg : mg ("law" : PySem.Str) = some (.ref fa) := by
      have e : (HandSHeadRun.topDef (OpenLaw.row PySem.Challenge.rw_listviews_k37_records_told).prog 39).name = ("law" : PySem.Str) := by kernel_rfl
      rw [← e]
      exact hmg0
    obtain ⟨fd, hb, hF⟩ := G.facts (w := w) KX GX hmg c
    exact ⟨K, fd, G.spLaw K, KX, hb, fun H a ns hl _ hS => ⟨a, ns, rfl, hS, hl, fun _ => rfl⟩, hF⟩
