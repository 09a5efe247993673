import PyProof.Rows.All
import Wide.All
import OpenK.AllK
import Wide.FinOn
import HandS.ForMost
import HandS.ForExc
import HandS.ExcInit
import HandS.ExcField
import HandS.TryMany
import HandS.IsInst
import HandS.Wide
import HandS.Small
import HandS.RaiseMore
import PyProof.ReprRoads
import KE.KSuper
import HandS.ClsMeth
import HandS.Nested
import HandS.More
import HandS.StrMore
import HandS.Walk
import HandS.Defaults
import HandS.MakeKwOnly
import HandS.Star
import HandS.Property
import HandS.ExcInitHot
import HandS.SuiteRaise
import HandS.RaiseFrom
import HandS.WordsExc
import KE.IntTextLaws
import PyProof.InstNe
import HandS.SlotsOwn
import HandS.Words
import HandS.NamedTupSort
import KE.KOpsOwn
import HandS.MethStar
import OpenK.KMake
import KE.KOwnIter
import HandS.IterVal
import HandS.List
import HandS.TupSets
import HandS.DeepEq
import KE.KCallOwn
import HandS.FStr
import HandS.Style
import HandS.Head0
import HandS.Head1
import HandS.Head2
import HandS.HeadHook1
import HandS.HeadHook2
import PySem.Challenge.RW_listviews_k16_texts_of_orders_and_plus
set_option Elab.async false
set_option linter.all false
set_option maxRecDepth 100000
set_option maxHeartbeats 2000000
/-! G1: what a def keeps where no guard is under way; repr of data at any depth, dicts too. -/
namespace G
open PySem PySem.Spec PyProof.Rows L2

/-! ### how long a shown text is -/
mutual
def mass : PyData → Nat
  | .none => 4
  | .bool _ => 5
  | .int _ => 1921
  | .str x => (reprText x).length
  | .list xs => 3 + massAll xs
  | .tuple xs => 4 + massAll xs
  | .dict kvs => 3 + massKv kvs
def massAll : List PyData → Nat
  | [] => 0
  | x :: xs => mass x + 2 + massAll xs
def massKv : List (PyData × PyData) → Nat
  | [] => 0
  | (k, v) :: r => mass k + mass v + 4 + massKv r
end
theorem text_from_le : ∀ (ts : List Str) (k : Nat) (acc : Str), (textFrom k acc ts).length ≤ acc.length + piled ts
  | [], k, acc => by
    show acc.length ≤ acc.length + 0
    omega
  | t :: r, k, acc => by
    have h1 := text_from_le r (k + 1) (acc ++ (if k > 0 then ", " else "" : String) ++ t)
    rw [strLen_append, strLen_append] at h1
    have h2 : (((if k > 0 then ", " else "" : String) : Str)).length ≤ 2 := by
      split <;> decide
    show (textFrom (k + 1) _ r).length ≤ _
    rw [piled_cons]
    omega
theorem list_text_le (ts : List Str) : (listText ts).length ≤ 3 + piled ts := by
  unfold listText
  rw [strLen_append]
  have h1 := text_from_le ts 0 "["
  have e1 : ((("[" : String) : Str)).length = 1 := rfl
  have e2 : ((("]" : String) : Str)).length = 1 := rfl
  rw [e1] at h1
  rw [e2]
  omega
theorem join_le (ts : List Str) : (Str.join ", " ts).length ≤ piled ts := by
  by_cases h : ts = []
  · subst h
    exact Nat.le_refl 0
  · have := join_length_add ts h
    omega
theorem tuple_text_le (ts : List Str) : (tupleText ts).length ≤ 4 + piled ts := by
  unfold tupleText
  rw [strLen_append, strLen_append]
  have h1 := join_le ts
  have e1 : ((("(" : String) : Str)).length = 1 := rfl
  have e3 : (((if ts.length == 1 then ",)" else ")" : String) : Str)).length ≤ 2 := by split <;> decide
  rw [e1]
  omega
theorem dict_text_le (ts : List Str) : (dictText ts).length ≤ 3 + piled ts := by
  unfold dictText
  rw [strLen_append, strLen_append]
  have h1 := join_le ts
  have e1 : ((("{" : String) : Str)).length = 1 := rfl
  have e3 : ((("}" : String) : Str)).length = 1 := rfl
  rw [e1, e3]
  omega
mutual
theorem shown_le : ∀ d : PyData, d.showable = true → d.shown.length ≤ mass d
  | .none, _ => by decide
  | .bool b, _ => by cases b <;> decide
  | .int i, h => by
    have h' : i.natAbs.log2 < 1920 := by simpa [PyData.showable] using h
    have h2 := int_text_length_le (by decide) h'
    show (Str.ofString (toString i)).length ≤ 1921
    rw [PySem.ofString_length]
    exact h2
  | .str x, _ => by
    simp only [PyData.shown, mass]
    exact Nat.le_refl _
  | .list xs, h => by
    have h' : PyData.showableAll xs = true := by simpa [PyData.showable] using h
    have h1 := list_text_le (PyData.shownAll xs)
    have h2 := shown_all_le xs h'
    simp only [PyData.shown, mass]
    omega
  | .tuple xs, h => by
    have h' : PyData.showableAll xs = true := by simpa [PyData.showable] using h
    have h1 := tuple_text_le (PyData.shownAll xs)
    have h2 := shown_all_le xs h'
    simp only [PyData.shown, mass]
    omega
  | .dict kvs, h => by
    have h' : PyData.showableKv kvs = true := by simpa [PyData.showable] using h
    have h1 := dict_text_le (PyData.shownKv kvs)
    have h2 := shown_kv_le kvs h'
    simp only [PyData.shown, mass]
    omega
theorem shown_all_le : ∀ xs : List PyData, PyData.showableAll xs = true → piled (PyData.shownAll xs) ≤ massAll xs
  | [], _ => by
    simp only [PyData.shownAll, massAll, piled_nil]
    exact Nat.le_refl _
  | x :: xs, h => by
    simp only [PyData.showableAll, Bool.and_eq_true] at h
    have h1 := shown_le x h.1
    have h2 := shown_all_le xs h.2
    simp only [PyData.shownAll, massAll, piled_cons]
    omega
theorem shown_kv_le : ∀ xs : List (PyData × PyData), PyData.showableKv xs = true → piled (PyData.shownKv xs) ≤ massKv xs
  | [], _ => by
    simp only [PyData.shownKv, massKv, piled_nil]
    exact Nat.le_refl _
  | (k, v) :: xs, h => by
    simp only [PyData.showableKv, Bool.and_eq_true] at h
    have h1 := shown_le k h.1.1
    have h2 := shown_le v h.1.2
    have h3 := shown_kv_le xs h.2
    have e : (((": " : String) : Str)).length = 2 := rfl
    simp only [PyData.shownKv, massKv, piled_cons, strLen_append, e]
    omega
end

/-! ### data that stands in the heap: lists, tuples, dicts by int and text keys -/
mutual
inductive Rp (K : PySem.W.Frag) (H : Hp) : V → PyData → Prop
  | non : Rp K H .non .none
  | bl (b : Bool) : Rp K H (.bl b) (.bool b)
  | int (i : Int) : Rp K H (.int i) (.int i)
  | str (x : Str) : Rp K H (.str x) (.str x)
  | lst {a : Addr} {xs : List V} {ds : List PyData} : H a = some (.lst xs) → RpAll K H xs ds → Rp K H (.ref a) (.list ds)
  | tup {a : Addr} {xs : List V} {ds : List PyData} : H a = some (.tup xs) → RpAll K H xs ds → Rp K H (.ref a) (.tuple ds)
  | dic {a : Addr} {kvs : List (Key × V)} {ds : List (PyData × PyData)} : H a = some (.dK kvs) → RpAll K H (kvs.map fun p => kV p.1) (ds.map (·.1)) → RpAll K H (kvs.map (·.2)) (ds.map (·.2)) → Rp K H (.ref a) (.dict ds)
inductive RpAll (K : PySem.W.Frag) (H : Hp) : List V → List PyData → Prop
  | nil : RpAll K H [] []
  | cons {v : V} {vs : List V} {d : PyData} {ds : List PyData} : Rp K H v d → RpAll K H vs ds → RpAll K H (v :: vs) (d :: ds)
end

/-! ### .. and how it is read -/
mutual
/-- no list in it: each address that a reading of it counts is a dict's -/
def okS : PyData → Bool
  | .none | .bool _ | .int _ | .str _ => true
  | .list _ => false
  | .tuple xs => okSAll xs
  | .dict kvs => okSKv kvs
def okSAll : List PyData → Bool
  | [] => true
  | x :: xs => okS x && okSAll xs
def okSKv : List (PyData × PyData) → Bool
  | [] => true
  | (k, v) :: r => okS k && okS v && okSKv r
end
theorem okSKv_split : ∀ {kvs : List (PyData × PyData)}, okSKv kvs = true → okSAll (kvs.map (·.1)) = true ∧ okSAll (kvs.map (·.2)) = true
  | [], _ => ⟨rfl, rfl⟩
  | (k, v) :: r, h => by
    simp only [okSKv, Bool.and_eq_true] at h
    obtain ⟨h1, h2⟩ := okSKv_split h.2
    simp only [List.map_cons, okSAll, Bool.and_eq_true]
    exact ⟨⟨h.1.1, h1⟩, h.1.2, h2⟩
theorem pairs_vals {P : Program} {w : World} : ∀ {kvs : List (Key × V)} {vs : List (Key × Value)} {es : List DictEntry}, KV kvs vs → Pairs (mixKind P w) es vs →
    Vals (kvs.map fun p => kV p.1) (es.map (·.key)) ∧ Vals (kvs.map (·.2)) (es.map (·.val))
  | _, _, _, .nil, .nil => ⟨.nil, .nil⟩
  | _, _, _, .cons r t, .cons hk hv p => by
    obtain ⟨h1, h2⟩ := pairs_vals t p
    refine ⟨.cons ?_ h1, .cons ?_ h2⟩
    · dsimp only
      rw [r.1]
      rcases keyIs_shape hk with ⟨i, tk, e1, e2⟩ | ⟨x, tk, e1, e2⟩
      · rw [e1, e2]
        exact ⟨tk, rfl⟩
      · rw [e1, e2]
        exact ⟨tk, rfl⟩
    · dsimp only
      rw [hv]
      exact r.2
section
variable {X : Cx} {pins : List (Addr × Obj)} {σ : L2.St} {H : Hp} {s : Shared}
mutual
theorem rp_reads (I : Inv X pins σ H s) : ∀ (d : PyData) (v : V) (u : Value), Rp X.K H v d → RelV v u → ∃ as, Reads s.heap u d as ∧ (okS d = true → sysModules ∉ as)
  | .none, _, _, h, r => by
    cases h
    cases r
    exact ⟨_, Reads.none, fun _ => by simp⟩
  | .bool b, _, _, h, r => by
    cases h
    cases r
    exact ⟨_, Reads.bool b, fun _ => by simp⟩
  | .int i, _, _, h, r => by
    cases h
    obtain ⟨t, rfl⟩ := r
    exact ⟨_, Reads.int i t, fun _ => by simp⟩
  | .str x, _, _, h, r => by
    cases h
    obtain ⟨t, rfl⟩ := r
    exact ⟨_, Reads.str x t, fun _ => by simp⟩
  | .list ds, _, _, h, r => by
    cases h with
    | lst hs ha =>
      cases r
      obtain ⟨its, rv, ⟨o, n, ho, hc, _, hd⟩, _⟩ := I.list (.of hs)
      obtain ⟨as, hr, _⟩ := rp_readsAll I ds _ its ha rv
      exact ⟨_, Reads.list ho hc hd hr, fun z => by simp [okS] at z⟩
  | .tuple ds, _, _, h, r => by
    cases h with
    | tup hs ha =>
      cases r
      obtain ⟨its, rv, ⟨o, ho, hc, n, hd⟩, _⟩ := I.tuple (.of hs)
      obtain ⟨as, hr, q⟩ := rp_readsAll I ds _ its ha rv
      exact ⟨_, Reads.tuple ho hc hd hr, fun z => q (by simpa [okS] using z)⟩
  | .dict ds, _, _, h, r => by
    cases h with
    | dic hs hk hv =>
      cases r
      obtain ⟨_, hm, vs, rel, o, es, ep, e1, e2, e3, e4, e5, e6⟩ := I.hok _ _ hs
      obtain ⟨r1, r2⟩ := pairs_vals rel e5
      obtain ⟨as, q1, z1⟩ := rp_readsKeys I ds _ _ hk r1
      obtain ⟨bs, q2, z2⟩ := rp_readsVals I ds _ _ hv r2
      refine ⟨_, Reads.dict e1 e2.1 e3 q1 q2, fun z => ?_⟩
      have hz : okSKv ds = true := by simpa [okS] using z
      obtain ⟨k1, k2⟩ := okSKv_split hz
      have hm' := beq_eq_false_iff_ne.mp hm
      intro hin
      rcases List.mem_cons.mp hin with hx | hx
      · exact hm' hx.symm
      · rcases List.mem_append.mp hx with hx | hx
        · exact z1 k1 hx
        · exact z2 k2 hx
theorem rp_readsAll (I : Inv X pins σ H s) : ∀ (ds : List PyData) (vs : List V) (us : List Value), RpAll X.K H vs ds → Vals vs us → ∃ as, ReadsAll s.heap us ds as ∧ (okSAll ds = true → sysModules ∉ as)
  | [], _, _, h, r => by
    cases h
    cases r
    exact ⟨_, ReadsAll.nil, fun _ => by simp⟩
  | d :: ds, _, _, h, r => by
    cases h with
    | cons h1 h2 =>
      cases r with
      | cons r1 r2 =>
        obtain ⟨as, q1, z1⟩ := rp_reads I d _ _ h1 r1
        obtain ⟨bs, q2, z2⟩ := rp_readsAll I ds _ _ h2 r2
        refine ⟨_, ReadsAll.cons q1 q2, fun z => ?_⟩
        simp only [okSAll, Bool.and_eq_true] at z
        intro hin
        rcases List.mem_append.mp hin with hx | hx
        · exact z1 z.1 hx
        · exact z2 z.2 hx
theorem rp_readsKeys (I : Inv X pins σ H s) : ∀ (ds : List (PyData × PyData)) (vs : List V) (us : List Value), RpAll X.K H vs (ds.map (·.1)) → Vals vs us → ∃ as, ReadsAll s.heap us (ds.map (·.1)) as ∧ (okSAll (ds.map (·.1)) = true → sysModules ∉ as)
  | [], _, _, h, r => by
    cases h
    cases r
    exact ⟨_, ReadsAll.nil, fun _ => by simp⟩
  | (d, _) :: ds, _, _, h, r => by
    cases h with
    | cons h1 h2 =>
      cases r with
      | cons r1 r2 =>
        obtain ⟨as, q1, z1⟩ := rp_reads I d _ _ h1 r1
        obtain ⟨bs, q2, z2⟩ := rp_readsKeys I ds _ _ h2 r2
        refine ⟨_, ReadsAll.cons q1 q2, fun z => ?_⟩
        simp only [List.map_cons, okSAll, Bool.and_eq_true] at z
        intro hin
        rcases List.mem_append.mp hin with hx | hx
        · exact z1 z.1 hx
        · exact z2 z.2 hx
theorem rp_readsVals (I : Inv X pins σ H s) : ∀ (ds : List (PyData × PyData)) (vs : List V) (us : List Value), RpAll X.K H vs (ds.map (·.2)) → Vals vs us → ∃ as, ReadsAll s.heap us (ds.map (·.2)) as ∧ (okSAll (ds.map (·.2)) = true → sysModules ∉ as)
  | [], _, _, h, r => by
    cases h
    cases r
    exact ⟨_, ReadsAll.nil, fun _ => by simp⟩
  | (_, d) :: ds, _, _, h, r => by
    cases h with
    | cons h1 h2 =>
      cases r with
      | cons r1 r2 =>
        obtain ⟨as, q1, z1⟩ := rp_reads I d _ _ h1 r1
        obtain ⟨bs, q2, z2⟩ := rp_readsVals I ds _ _ h2 r2
        refine ⟨_, ReadsAll.cons q1 q2, fun z => ?_⟩
        simp only [List.map_cons, okSAll, Bool.and_eq_true] at z
        intro hin
        rcases List.mem_append.mp hin with hx | hx
        · exact z1 z.1 hx
        · exact z2 z.2 hx
end
end

/-! ### repr of a list of such data -/
/-- a list at the top: its own address is not counted -/
theorem repr_top {prog : Program} {w : World} {A : Around} {E : Value → Shared → Prop} {s : Shared} {Q : Value → Shared → Prop} {a : Addr} {o : Obj} {vs : Array Value} {n : Nat} {xs : List PyData} {as : List Addr}
    (h1 : s.heap.get? a = some o) (h2 : o.cls = .type "list") (h3 : o.data = .seq vs n) (h4 : ReadsAll s.heap vs.toList xs as) (hs : PyData.showableAll xs = true) (hsm : PyData.hasDictAll xs = true → sysModules ∉ as)
    (hg : A.guards = some []) (hu : A.units + ((PyData.list xs).depth + 1) < cLine) (hsz : (listText (PyData.shownAll xs)).length ≤ sizeLine)
    (hQ : ∀ h' u tk, (∀ b o, s.heap.get? b = some o → h'.get? b = some o) → Q (.str (listText (PyData.shownAll xs)) u) { s with heap := h', toks := tk }) :
    wpAny (model prog w) A (call (.builtin "repr") [.ref a]) Q E s := by
  obtain ⟨bs, hb, hk⟩ := ReprAllK.of_readsAll (prog := prog) (w := w) h4 hs hsm (fun t ht => Nat.le_trans (listText_mem_le ht) hsz)
  have hna : a ∉ bs :=
    not_mem_of_deeper (.list h1 h2 h3 h4) (by simp only [PyData.depth]; omega) hb
  simp only [PyData.depth] at hu
  refine call_repr_slot (A := A) (by omega) (idr := "list.__repr__") (T := "list") (show s.TypeIs (.ref a) "list" from ⟨o, h1, h2⟩) F.slot_list_repr.toG ?_
  have hu1 : A.in1.units = A.units + 1 := rfl
  obtain ⟨l⟩ := vs
  cases l with
  | nil =>
    have h4' : ReadsAll s.heap [] xs as := h4
    cases h4'
    have ht := hQ s.heap
    rw [show listText (PyData.shownAll []) = ("[]" : Str) by simp only [PyData.shownAll]; exact listText_nil] at ht
    exact call_list_repr_empty ⟨o, h1, h2⟩ h1 h3 ⟨_, _, rfl, ht _ _ fun _ _ e => e⟩
  | cons x l =>
    refine call_list_reprK h1 h2 h3 hna (by simpa using hk.length_eq) (fun i y e => hk.item i y (by simpa using e)) (by exact hg) (fun b _ => Clear.nil b) (by rw [hu1]; omega) (fun _ _ e => e) (fun h' u tk k => ⟨_, _, rfl, hQ h' u tk k⟩) hsz
/-- repr(xs), xs a list of data -/
def rRepr (K : PySem.W.Frag) : List V → Hp → VK → Prop := fun vs H Q => ∃ (a : Addr) (xs : List V) (ds : List PyData), vs = [.ref a] ∧ H a = some (.lst xs) ∧ RpAll K H xs ds ∧ PyData.showableAll ds = true ∧ (PyData.hasDictAll ds = true → okSAll ds = true) ∧
  (PyData.list ds).depth ≤ 20 ∧ 3 + massAll ds ≤ sizeLine ∧ Q (.str (listText (PyData.shownAll ds))) H
theorem call_repr {X : Cx} (hg : X.A.guards = some []) (hu : X.A.units + 64 < cLine) : CallR X (.builtin "repr") (rRepr X.K) := by
  intro pins s σ H xs us Q I r h
  obtain ⟨a, ys, ds, rfl, ha, hr, hs, hd, hp, hm, q⟩ := h
  obtain rfl := Vals.ref1 r
  obtain ⟨its, rv, ⟨o, n, ho, hc, _, hdt⟩, _⟩ := I.list (.of ha)
  obtain ⟨as, q1, z1⟩ := rp_readsAll I ds _ its hr rv
  have hz := Nat.le_trans (list_text_le _) (Nat.le_trans (Nat.add_le_add_left (shown_all_le ds hs) 3) hm)
  exact repr_top ho hc hdt q1 hs (fun z => z1 (hd z)) hg (by omega) hz fun h' u tk k => ⟨.str _, H, I.kept k, ⟨u, rfl⟩, q⟩
end G
set_option Elab.async false
set_option linter.all false
set_option maxRecDepth 100000
set_option maxHeartbeats 2000000
/-! G2: a def that runs where no guard is under way, and the law's own call. -/
namespace G
open PySem PySem.Spec PyProof.Rows L2
/-- as FnOk, of arounds without guards -/
structure FnG (P : Program) (w : World) (K : PySem.W.Frag) (mg : Str → Option Value) (base : Heap) (CX : CXT) (k : Nat) (f : Addr) (fd : FuncData) (ps : List Str) (sp : Sp) : Prop where
  size : ∀ vs H Q E, sp vs H Q E → vs.length = ps.length
  go : ∀ (A : Around) (outer : List Env) (s : Shared) (H : Hp) (args : Args) (us : List Value) (vs : List V) (Q : VK) (E : XK),
    A.guards = some [] → Room k A → Env0 P w K mg base A outer s H → BindsTo s fd args (ps.zip us) → Vals vs us → sp vs H Q E → codeAny (model P w) A (.call (.ref f) args) (CR CX outer P w H s Q E) s
section
variable {P : Program} {w : World} {K : PySem.W.Frag} {mg : Str → Option Value} {base : Heap} {CX : CXT}
theorem FnG.of_body {x qual : Str} {st : Stmt} {f : Addr} {fd : FuncData} {N ps : List Str} {k : Nat} {sp : Sp} (F : Fun K x qual st f fd) (S : FnScope N ps (defScope st))
    (size : ∀ vs H Q E, sp vs H Q E → vs.length = ps.length)
    (body : ∀ (cdv : Value) (A : Around) (outer : List Env) (s : Shared) (H : Hp) (vs : List V) (Q : VK) (E : XK), A.guards = some [] →
      Room k (A.deeper (envOfC qual (defScope st) s.heap.objs.size f cdv)) → sp vs H Q E →
      ∃ t, PSs (cxOf CX P w K mg base N qual (defScope st) f cdv A outer s H E).nox (defBody st) t ∧ t { nx := fun _ H' => Q .non H', rt := Q } (start N vs) H) :
    FnG P w K mg base CX (k + 1) f fd ps sp := by
  obtain ⟨_, _, _, _, _, _, cdv, _, _, rfl, lk, hcd⟩ := F.ex
  refine ⟨size, fun A outer s H args us vs Q E hg hr e0 hb r h => ?_⟩
  have inS : K.In s.heap := e0.mod.kin.keeps fun b o e => (e0.bs b o e).1
  have noL : s.heap.NoLimit := e0.mod.nolimit.keeps fun b o e => (e0.bs b o e).1
  refine codeAny_call_function hr.depth (inS _ _ lk) rfl S.co S.gen rfl
    (PySem.W.codeRec_of inS hcd) (hb _ _ _ _ ?_)
  refine wpAny_newFunctionEnv_cells S.kind
    (fun ⟨n, v⟩ hy => ?_) fun env he s1 x => ?_
  · rcases S.par n (List.of_mem_zip hy).1 with q | q
    · exact Or.inl q
    · exact Or.inr ⟨q, PySem.W.cellsFrom_some _ _ _ (Or.inl q)⟩
  · subst he
    refine ⟨noL.keeps x.toInCall.keep, codeAny_func ?_⟩
    obtain ⟨t, ht, hq⟩ := body cdv A outer s H vs Q E hg (hr.deeper _) h
    have J := inv_start (CX := CX) (P := P) (w := w) (K := K) (mg := mg) (base := base) (E := E) S hr.hd e0 (size _ _ _ _ h) r x
    refine wpAny_mono (ht.nox.run [] s1 (start N vs) H _ J hq) (fun fl s' z => ?_) fun e s' z => z
    cases fl with
    | ret u =>
      obtain ⟨v, σ', H', J', rv, q⟩ := z
      exact ⟨v, H', J'.os, J'.bare, J'.base, J'.hok, rv, q⟩
    | next =>
      obtain ⟨σ', H', J', q⟩ := z
      exact ⟨.non, H', J'.os, J'.bare, J'.base, J'.hok, rfl, q⟩
    | brk =>
      obtain ⟨_, _, _, q⟩ := z
      exact q.elim
    | cont =>
      obtain ⟨_, _, _, q⟩ := z
      exact q.elim
end
section
variable {X : Cx} {CX : CXT} {k : Nat} {f : Addr} {fd : FuncData} {ps : List Str} {sp : Sp} {dvs : List V} {ds : List Value} {E : XK} {x : Str} {p pos : Pos} {e : Expr} {es : List Expr} {t : TA}
theorem FnG.run {pins : List (Addr × Obj)} {σ : L2.St} {H : Hp} {s : Shared} {Q : VK} {us : List Value} {vs : List V} (F : FnG X.prog X.w X.K X.mg X.base CX k f fd ps sp) (hg : X.A.guards = some []) (hr : Room k X.A) (hb : Binds X.K fd ps ds) (hd : Vals dvs ds)
    (hx : Passes CX X E) (I : Inv X pins σ H s) (r : Vals vs us) (h : sp (vs ++ dvs) H Q E) : wpAny (model X.prog X.w) X.A (call (.ref f) us) (EP X pins σ Q) X.xe s := by
  have both := r.append hd
  have size : (us ++ ds).length = ps.length := both.length.symm.trans (F.size _ _ _ _ h)
  refine wpAny_call (codeAny_mono (F.go X.A X.stack s H ⟨us, []⟩ (us ++ ds) (vs ++ dvs) Q E hg hr I.env0 (hb s us I.kIn size) both h) fun q s' z => ?_)
  match q, z with
  | .error er, z => exact hx pins σ H s er s' I z
  | .ok (.ret u), z => exact I.after z
/-- f(e, ..) -/
theorem pe_callG (F : FnG X.prog X.w X.K X.mg X.base CX k f fd ps sp) (hg : X.A.guards = some []) (hr : Room k X.A) (gl : Gl X x) (hm : X.mg x = some (.ref f)) (hk : PySem.W.keepIn X.K (.ref f) = true) (hb : Binds X.K fd ps ds) (hd : Vals dvs ds)
    (hx : Passes CX X E) (ha : PA X (e :: es) t) (hdb : (x == ("__debug__" : Str)) = false := by decide)
    (he : starEach (e :: es) X.env = (false, eval e X.env) :: starEach es X.env := by rfl) (hpl : (backTo pos (starEach es X.env)).any (·.1) = false := by rfl) : PE X (.Call (.Name x p) (e :: es) [] pos) (tCall sp dvs E t) := by
  constructor
  intro pins s σ H Q I h
  refine wpAny_Call_Name_kw (ld_glob I gl hm ?_ hdb)
  exact PySem.W.callWith_K (h₀ := X.base) I.ok.mod.kin hk
    (thn (ha.run pos pins s σ H _ I h) fun us s1 ⟨vs, H1, I1, r, q⟩ => ⟨I1.kIn, F.run hg hr hb hd hx I1 r q⟩) he hpl
end
/-- True comes out, what stood stands, nothing went in or out -/
def Fine (s : Shared) (r : Result) (s' : Shared) : Prop :=
  r = .ok (.ret (.bool true)) ∧ OldK s.heap s'.heap ∧ s'.os = s.os ∧ AllBare s'.gens
/-- the law's call, from the state that the top leaves -/
theorem law_go {P : Program} {w : World} {K : PySem.W.Frag} {mg mb : Str → Option Value} {k : Nat} {fa a : Addr} {fd : FuncData} {x : Str} {sp : Sp} {s₁ : Shared} {vs : List Value} {ns : List Int}
    (inK : K.In s₁.heap) (gl : s₁.heap.Ns mainGlobals mg)
    (bl : s₁.heap.Ns builtinsNs mb) (boot : ∀ y : Str, y ≠ "__name__" → mb y = bootBuiltins y)
    (lim : s₁.heap.NoLimit) (noG : s₁.gens = #[])
    (script : s₁.heap.get? a = some { cls := .type "list", data := .seq vs.toArray })
    (allInt : IntsAre vs ns) (few : ns.length ≤ sizeLine) (hr : Room k callerA)
    (F : ∀ base : Heap, K.In base → base.Ns mainGlobals mg → FnG P w K mg base CX0 k fa fd [x] sp) (hbind : ∀ (s : Shared) (u : Value), BindsTo s fd ⟨[u], []⟩ [(x, u)])
    (hsp : ∀ H : Hp, Only H → SqL K H a (ns.map V.int) → sp [.ref a] H (fun v _ => v = .bl true) fun _ _ _ => False) :
    codeAny (model P w) callerA (.call (.ref fa) ⟨[.ref a], []⟩)
      (Fine s₁) s₁ := by
  -- nothing but the script is tracked; if the written part holds the script, nothing at all
  have main : ∀ H : Hp, Only H → SqL K H a (ns.map V.int) → HOk P w H s₁.heap → (∀ b, H b ≠ none → b = a ∧ K.lookup a = none) →
      codeAny (model P w) callerA (.call (.ref fa) ⟨[.ref a], []⟩)
      (Fine s₁) s₁ := by
    intro H hO hS hok hA
    have nsK : ∀ {b : Addr} {m : Str → Option Value}, s₁.heap.Ns b m → (hidT s₁.heap H).Ns b m := by
      rintro b m ⟨o, es, ep, e, d, r⟩
      refine ⟨o, es, ep, hidT_get e ?_, d, r⟩
      cases q : H b with
      | none => rfl
      | some u =>
        exfalso
        have eb := (hA b (by rw [q]; simp)).1
        rw [eb, script] at e
        rw [← Option.some.inj e] at d
        cases d
    have inB : K.In (hidT s₁.heap H) := fun b o e => hidT_get (inK b o e) (by
      cases q : H b with
      | none => rfl
      | some u =>
        exfalso
        obtain ⟨e1, e2⟩ := hA b (by rw [q]; simp)
        rw [e1, e2] at e
        cases e)
    obtain ⟨mc, l1, l2⟩ := lim
    have hM : Mod K mg (hidT s₁.heap H) := ⟨inB, nsK gl, ⟨mb, nsK bl, boot⟩, ⟨mc, nsK l1, l2⟩⟩
    have e0 : Env0 P w K mg (hidT s₁.heap H) callerA [] s₁ H := ⟨rfl, hM, fun b o e => of_hidT e, Nat.le_of_eq (hidT_size _ _), trivial, fun b z => absurd (show b ∈ ([] : List Addr) from z) (by simp), hok, .of_eq noG⟩
    have run := (F _ inB (nsK gl)).go callerA [] s₁ H ⟨[.ref a], []⟩ [.ref a] [.ref a] _ _ rfl hr e0 (hbind s₁ (.ref a)) (.cons rfl .nil) (hsp H hO hS)
    refine codeAny_mono run fun r s' h => ?_
    match r, h with
    | .ok (.ret u), h =>
      obtain ⟨v, H', os, bare, un, hok', r', q⟩ := h
      obtain rfl : v = .bl true := q
      obtain rfl : u = Value.bool true := r'
      refine ⟨rfl, OldK.of_keep fun b o e => ?_, os, bare⟩
      rcases hO b with z | ⟨ob, xs, z⟩
      · exact un.keep b o e z (fun z => absurd (show b ∈ ([] : List Addr) from z) (by simp)) (by simp)
      · obtain ⟨e1, _⟩ := hok b _ z
        obtain ⟨e2, _⟩ := hok' b _ (un.frzs b ob _ z)
        rw [e] at e1
        cases e1
        exact e2
  cases hk : K.lookup a with
  | some o =>
    have e := inK a o hk
    rw [script] at e
    cases e
    refine main (fun _ => none) (fun _ => .inl rfl) (.inr ⟨_, vs.toArray, _, hk, rfl, rfl, rfl, ?_, ?_⟩) (fun b u z => nomatch z) fun b z => absurd rfl z
    · rw [List.size_toArray, allInt.length]
      exact few
    · simpa using vals_ints allInt
  | none =>
    let o : Obj := { cls := .type "list", data := .seq vs.toArray }
    let T : HO := .frz o (.lst (ns.map V.int))
    have at_a : upd (fun _ => none) a T a = some T := upd_same
    refine main (upd (fun _ => none) a T) (fun b => ?_) (.inl (.inr ⟨o, at_a⟩)) (fun b u z => ?_) fun b z => ?_
    · by_cases h : b = a
      · exact .inr ⟨o, _, by rw [h]; exact at_a⟩
      · exact .inl (upd_ne h)
    · by_cases h : b = a
      · subst h
        rw [at_a] at z
        cases z
        exact ⟨script, by rw [List.length_map]; exact few, vs, _, vals_ints allInt, script⟩
      · rw [upd_ne h] at z
        cases z
    · by_cases h : b = a
      · exact ⟨h, hk⟩
      · exact absurd (upd_ne h) z
/-- what k_head leaves, by the law's promise -/
theorem walk_go {l : PySem.W.OpenLaw} {n k : Nat} {q : Program} {loose : List Str} {XP : (Str → Option Value) → Heap → Prop} {YP : World → Heap → Prop} {d : DefRec} {K : Params → PySem.W.Frag} {sp : PySem.W.Frag → Sp} {x : Str}
    (most : l.most = some n) (few : n ≤ sizeLine)
    (nodf : d.params.defaults = []) (hr : Room k callerA)
    (hY : ∀ (w : World) (h : Heap), YP w h → (K w.params).In h)
    (F : ∀ (w : World) (mg : Str → Option Value) (fa : Addr) (h : Heap),
      (K w.params).In h → h.Ns mainGlobals mg → mg d.name = some (.ref fa) →
      ∃ fd : FuncData, (∀ (s : Shared) (u : Value), BindsTo s fd ⟨[u], []⟩ [(x, u)]) ∧ ∀ base : Heap, (K w.params).In base → base.Ns mainGlobals mg → FnG l.prog w (K w.params) mg base CX0 k fa fd [x] (sp (K w.params)))
    (hsp : ∀ (K : PySem.W.Frag) (H : Hp) (a : Addr) (ns : List Int), ns.length ≤ n → Only H → SqL K H a (ns.map V.int) → sp K [.ref a] H (fun v _ => v = .bl true) fun _ _ _ => False) :
    PySem.W.WalkO q loose XP YP l.row.toRowW d []
      (fun f vs => PySem.call f vs) := by
  refine Att.attach_call most nodf
    fun w _ s₁ mg mb fa _ _ _ _ a vs ns top Y _ _ _ atF obj allInt len noG => ?_
  have inK := hY w _ Y
  obtain ⟨fd, binds, keeps⟩ := F w mg fa _ inK top.T.g atF
  exact law_go inK top.T.g top.T.b top.T.builtins top.T.nolimit noG obj allInt (Nat.le_trans len few) hr keeps binds
    fun H hO hS => hsp _ H a ns len hO hS
end G
set_option Elab.async false
set_option linter.all false
set_option maxRecDepth 100000
set_option maxHeartbeats 2000000
/-! U1: a method that says super().__init__(..): its own activation is known while it runs. -/
namespace G
open PySem PySem.Spec PyProof.Rows L2 NdefX

/-- one statement, of a body whose activation is on top -/
structure PSa (X : Cx) (body : List Stmt) (st : Stmt) (t : TS) : Prop where
  run : ∀ (pins : List (Addr × Obj)) (s : Shared) (σ : L2.St) (H : Hp) (D : Ends), Inv X pins σ H s → t D σ H → _root_.PySem.wpAt (model X.prog X.w) X.A (.func body X.env) (exec st X.env) (SP X pins D) X.xe s
/-- .. several -/
structure PSsa (X : Cx) (body : List Stmt) (st : List Stmt) (t : TS) : Prop where
  run : ∀ (pins : List (Addr × Obj)) (s : Shared) (σ : L2.St) (H : Hp) (D : Ends), Inv X pins σ H s → t D σ H → _root_.PySem.wpAt (model X.prog X.w) X.A (.func body X.env) (execs st X.env) (SP X pins D) X.xe s
section
variable {X : Cx} {body rest : List Stmt} {st : Stmt} {t u : TS}
theorem psa (h : PS X st t) : PSa X body st t := ⟨fun pins s σ H D I q => wpAt_of_wpAny (h.run pins s σ H D I q)⟩
theorem pssa {sts : List Stmt} (h : PSs X sts t) : PSsa X body sts t := ⟨fun pins s σ H D I q => wpAt_of_wpAny (h.run pins s σ H D I q)⟩
theorem pssa_cons (h1 : PSa X body st t) (h2 : PSsa X body rest u) : PSsa X body (st :: rest) (tSeq t u) := by
  refine ⟨fun pins s σ H D I h => ks_wpAt_execs_cons (ks_wpAt_mono (h1.run pins s σ H { D with nx := u D } I h) (fun f s1 q => ?_) fun _ _ z => z)⟩
  cases f with
  | next =>
    obtain ⟨σ', H', I', q⟩ := q
    exact h2.run pins s1 σ' H' D I' q
  | ret v => exact q
  | brk => exact q
  | cont => exact q
end

/-- what of the text the words super().__init__ rest on, said in the def at f, of the class at D, to an instance of the class at C; f2: the __init__ found -/
structure SupOf (P : Program) (K : PySem.W.Frag) (f cda cc D C f2 : Addr) (x : Str) : Prop where
  fn : ∃ oc od fd sl ar, K.lookup f = some ⟨oc, od, .func fd, sl⟩ ∧ (fd.params.posonlyargs ++ fd.params.args).head? = some ar ∧ ar.arg = x
  code : ∃ oc od vs sl file tf, K.lookup cda = some ⟨oc, od, .fields vs, sl⟩ ∧ vs[2]? = some (.str file tf) ∧ ((P.main.file : Str) == file) = true
  cell : ∃ oc od sl, K.lookup cc = some ⟨oc, od, .cell (some (.ref D)), sl⟩
  isc : ∃ cd, PySem.W.clsIn K D = some cd
  isC : ∃ cd, PySem.W.clsIn K C = some cd
  sub : PySem.W.mroIn K C (.ref D) = some true
  thd : PySem.W.nsIn K cStatics "thirdparty.any" = some none
  sup : PySem.W.ks_superIn K C D "__init__" = some (some (.ref f2))
  ty : PySem.W.typeIn K (.ref f2) = some (.type "function")
  fi : PySem.W.fnIn K f2 = true
  top : (P.main.scope.names.lookup ("super" : Str)).isSome = false

/-- super().__init__(..), the instance in the slot i -/
def tSup (i : Nat) (C : Addr) (sp : Sp) (E : XK) (t : TA) : TS := fun D σ H => ∃ a dx fs, σ[i]? = some (some (.ref a)) ∧ H a = some (.ins C dx fs) ∧
  t σ H fun vs H1 => sp (.ref a :: vs) H1 (fun _ H2 => D.nx σ H2) E

section
variable {X : Cx} {CX : CXT} {k i : Nat} {f cda cc D C f2 : Addr} {x : Str} {sp : Sp} {E : XK} {body : List Stmt} {e : Expr} {es : List Expr} {t : TA} {p0 p1 apos pos spos : Pos} {pl : Sem Bool}
theorem cls_at {h : Heap} {K : PySem.W.Frag} {D : Addr} {cd : ClassData} (I : K.In h) (hD : PySem.W.clsIn K D = some cd) : ∃ o, h.get? D = some o ∧ o.data = .cls cd := by
  unfold PySem.W.clsIn at hD
  split at hD
  · rename_i c d cd' sl ho
    cases hD
    exact ⟨_, I _ _ ho, rfl⟩
  · cases hD
/-- the object super() -/
theorem super_base {pins : List (Addr × Obj)} {s : Shared} {σ : L2.St} {H : Hp} {whole : Sem Value} {a dx : Addr} {fs : List (Str × V)} {Q : Value → Shared → Prop}
    (I : Inv X pins σ H s) (S : SupOf X.prog X.K f cda cc D C f2 x) (hfu : X.env.func = some f) (hco : X.env.code = .ref cda) (hcl : X.env.cells.lookup ("__class__" : Str) = some cc)
    (hks : X.env.kindOf "super" = some .globalImplicit) (hkc : X.env.kindOf "__class__" = some .free) (hkx : X.env.kindOf x = some .local) (hm : X.mg "super" = none) (hN : X.N[i]? = some x)
    (hs : σ[i]? = some (some (.ref a))) (ha : H a = some (.ins C dx fs))
    (h : ∀ s', Inv X pins σ H s' → s'.heap.get? s.heap.objs.size = some { cls := .type "super", dict := none, data := .fields #[.ref D, .ref a, .ref C], slots := #[] } → Q (.ref s.heap.objs.size) s') :
    _root_.PySem.wpAt (model X.prog X.w) X.A (.func body X.env) (attributeBase (.Call (.Name "super" p0) [] [] p1) "__init__" X.env whole) Q X.xe s := by
  obtain ⟨oc, od, fd, sl, ar, lk, hp, hx⟩ := S.fn
  obtain ⟨oc2, od2, vs, sl2, file, tf, lk2, hv, hfile⟩ := S.code
  obtain ⟨oc3, od3, sl3, lk3⟩ := S.cell
  obtain ⟨cdD, hD⟩ := S.isc
  have inK := I.kIn
  obtain ⟨oD, hD1, hD2⟩ := cls_at inK hD
  obtain ⟨mb, b1, b2⟩ := I.mod.blt
  obtain ⟨m, hn, hl⟩ := I.loc
  obtain ⟨u, ru, hlook⟩ := hl i x _ hN hs (.inl hkx)
  obtain rfl : u = Value.ref a := ru
  have hmx : m x = some (.ref a) := by
    rcases hlook with ⟨_, z⟩ | ⟨z, _⟩
    · exact z
    · rw [hkx] at z
      rcases z with z | z <;> cases z
  have hob : s.heap.get? a = some (PySem.W.instObj C dx) := (show ObjOk X.prog X.w H s.heap a (.ins C dx fs) from I.hok a _ ha).2.2.2.1
  refine ks_wpAt_super_base hks hkc (by decide) hfu (inK _ _ lk) rfl hp hco (inK _ _ lk2) rfl hv hfile S.top ?_
  refine PySem.W.ks_loadName_global I.ok.kind hks (Calls.loadGlobal_builtin (by rw [I.ok.glob]; exact I.mod.glob.keeps I.bk) hm (by rw [I.ok.blt]; exact b1.keeps I.bk) ((b2 "super" (by decide)).trans (by first | rfl | decide +kernel)) ⟨rfl, ?_⟩)
  refine wpAny_loadName_free I.ok.kind hkc hcl ⟨_, inK _ _ lk3, rfl⟩ ?_
  rw [hx]
  refine wpAny_loadName_local I.ok.kind hkx hn hmx ?_
  obtain ⟨hh, g, d, tk, os⟩ := s
  refine ks_wpAny_isType_cls hD1 hD2 ⟨rfl, ?_⟩
  refine ks_wpAny_call_super hD1 hD2 hob rfl (fun c z => nomatch z) (PySem.W.looks_mroIn inK S.sub) fun h' e1 kp => ?_
  exact h _ (I.kept (t' := tk) kp) e1
/-- super().__init__(e, ..) -/
theorem psa_super (S : SupOf X.prog X.K f cda cc D C f2 x) (F : FnR X.prog X.w X.K X.mg X.base CX k f2 sp) (hr : Room k X.A) (hx : Passes CX X E) (hfu : X.env.func = some f) (hco : X.env.code = .ref cda) (hcl : X.env.cells.lookup ("__class__" : Str) = some cc)
    (hks : X.env.kindOf "super" = some .globalImplicit) (hkc : X.env.kindOf "__class__" = some .free) (hkx : X.env.kindOf x = some .local) (hm : X.mg "super" = none) (hN : X.N[i]? = some x) (ha : PA X (e :: es) t)
    (hst : starEach (e :: es) X.env = (false, eval e X.env) :: starEach es X.env := by rfl) (hpl : (backTo pos (starEach es X.env)).any (·.1) = false := by rfl)
    (ht : eval (.Call (.Attribute (.Call (.Name "super" p0) [] [] p1) "__init__" apos) (e :: es) [] pos) X.env = (do
      let ov ← attributeBase (.Call (.Name "super" p0) [] [] p1) "__init__" X.env (eval (.Call (.Name "super" p0) [] [] p1) X.env)
      standAt apos.atName
      let (f, first) ← holding [ov] (getMethod ov "__init__" pl)
      callWith pos f first (backTo pos (starEach (e :: es) X.env)) []) := by rfl)
    (hw : swapsWith (.Call (.Attribute (.Call (.Name "super" p0) [] [] p1) "__init__" apos) (e :: es) [] pos) none spos.line X.env = pure false := by rfl) :
    PSa X body (.Expr (.Call (.Attribute (.Call (.Name "super" p0) [] [] p1) "__init__" apos) (e :: es) [] pos) spos) (tSup i C sp E t) := by
  refine ⟨fun pins s σ H Dn I h => ?_⟩
  obtain ⟨a, dx, fs, h1, h2, q⟩ := h
  refine ks_wpAt_Expr_any (ks_wpAt_MethodCall (pl := pl) (super_base I S hfu hco hcl hks hkc hkx hm hN h1 h2 fun s1 I1 hso => ?_) ht) I.quiet hw
  obtain ⟨cdC, hC⟩ := S.isC
  have inK := I1.kIn
  have hob : s1.heap.get? a = some (PySem.W.instObj C dx) := (show ObjOk X.prog X.w H s1.heap a (.ins C dx fs) from I1.hok a _ h2).2.2.2.1
  obtain ⟨oC, hC1, hC2⟩ := cls_at inK hC
  have hne : a ≠ C := fun z => by
    rw [z, hC1] at hob
    rw [Option.some.inj hob] at hC2
    cases hC2
  obtain ⟨of, hof, hofc⟩ : ∃ of, s1.heap.get? f2 = some of ∧ of.cls = .type "function" := by
    have ht' : (X.K.lookup f2).map (·.cls) = some (.type "function") := S.ty
    cases z : X.K.lookup f2 with
    | none =>
      rw [z] at ht'
      cases ht'
    | some of =>
      rw [z] at ht'
      exact ⟨of, inK _ _ z, Option.some.inj ht'⟩
  have hsup := S.sup
  unfold PySem.W.ks_superIn at hsup
  rw [hC] at hsup
  obtain ⟨hh, g, d, tk, os⟩ := s1
  refine ks_wpAny_getMethod_super hso (PySem.W.looks_opaque inK S.thd) (l₀ := cdC.mro) ((PySem.W.looks_clsIn inK hC).andThen .now) rfl inK hsup hof hofc hne (by decide) ?_
  have I2 := ClX.met_new (g := f2) (C := a) I1
  refine ClX.callwith_cm I2 (ClX.base_none I1 (Nat.le_refl _)) S.fi (thn (ha.run pos _ _ σ H _ I2 q) fun us s3 ⟨vs, H3, I3, r3, q3⟩ => ⟨⟨ClX.pin_at I3, I3.kIn⟩, ?_⟩) hst hpl
  refine thn (ClX.run_cm F hr hx I3 r3 q3) fun _ _ y => ?_
  obtain ⟨v, H4, I4, _, q4⟩ := y
  exact ⟨σ, H4, I4, q4⟩
end

/-! ### the method -/
/-- THE RULE: a method that captures __class__ (it says super()), by its body -/
theorem fnx_of {CX : CXT} {P : Program} {w : World} {K : PySem.W.Frag} {mg : Str → Option Value} {base : Heap} {k : Nat} {f cda cc : Addr} {name qual : Str} {params : Arguments} {body : List Stmt} {scope : Scope} {dV kV doc pm ct oc : Value} {an od : Option Addr}
    {osl : Array (Option Value)} {N ps : List Str} {sp : Sp} (lk : K.lookup f = some ⟨oc, od, .func (PySem.W.ksFn name qual params body scope dV kV doc pm an (.ref cda) ct cc), osl⟩) (hcd : PySem.W.codeIn K (.ref cda) qual = true)
    (hcell : ∃ oc od sl v, K.lookup cc = some ⟨oc, od, .cell v, sl⟩) (S : NScope N ps ["__class__"] scope) (len : ∀ vs H Q E, sp vs H Q E → vs.length = ps.length)
    (hbody : ∀ (A : Around) (outer : List Env) (s : Shared) (H : Hp) (vs : List V) (Q : VK) (E : XK), Room k (A.deeper (envF ⟨name, qual, params, body, scope, [("__class__", cc)], cda⟩ f s.heap.objs.size)) → sp vs H Q E →
      ∃ t, PSsa (ncx CX P w K mg base N ⟨name, qual, params, body, scope, [("__class__", cc)], cda⟩ f A outer s H E) body body t ∧ t { nx := fun _ H' => Q .non H', rt := Q } (startF N vs [none]) H) :
    FnOk P w K mg base CX (k + 1) f (PySem.W.ksFn name qual params body scope dV kV doc pm an (.ref cda) ct cc) ps sp := by
  refine ⟨len, fun A outer s H args us vs Q E hr e0 hb r hsp => ?_⟩
  have hl := len _ _ _ _ hsp
  have inK : K.In s.heap := e0.mod.kin.keeps fun b o e => (e0.bs b o e).1
  have lim : s.heap.NoLimit := e0.mod.nolimit.keeps fun b o e => (e0.bs b o e).1
  obtain ⟨oc3, od3, sl3, v3, lk3⟩ := hcell
  have C : CellsAt [(("__class__" : Str), cc)] ["__class__"] [none] s.heap H := by
    have one : ∀ {y : Str} {c : Addr}, List.lookup y [(("__class__" : Str), cc)] = some c → y = "__class__" ∧ c = cc := fun {y c} z => by
      have z2 := PySem.mem_of_lookup z
      rw [List.mem_singleton] at z2
      exact ⟨congrArg Prod.fst z2, congrArg Prod.snd z2⟩
    refine ⟨rfl, fun y c z => ?_, fun y y' c z z' => (one z).1.trans (one z').1.symm, fun i y z => ?_⟩
    · obtain ⟨_, rfl⟩ := one z
      exact ⟨(e0.bs _ _ (e0.mod.kin _ _ lk3)).2, v3, _, inK _ _ lk3, rfl⟩
    · have hy : y = "__class__" := by
        have z2 := List.mem_of_getElem? z
        rw [List.mem_singleton] at z2
        exact z2
      subst hy
      refine ⟨cc, by simp [List.lookup], fun v z => ?_⟩
      cases i with
      | zero => cases z
      | succ j => cases z
  refine codeAny_call_function hr.depth (inK _ _ lk) rfl S.co S.gen rfl (PySem.W.codeRec_of inK hcd) (hb _ _ _ _ ?_)
  refine wpAny_newFunctionEnv S.nocell (fun ⟨n, _⟩ hy => S.par n (List.of_mem_zip hy).1) (fun h₁ hns hsb => ⟨lim.fresh _ hsb, ?_⟩) S.kind
  show codeAny _ _ (.func body (envF ⟨name, qual, params, body, scope, [("__class__", cc)], cda⟩ f s.heap.objs.size)) _ _
  refine ks_codeAny_funcAt ?_
  have kp : ∀ b o, s.heap.get? b = some o → h₁.get? b = some o := fun b o e => hsb.extBut b o (Nat.ne_of_lt (Heap.lt_size e)) (Heap.get?_push_of_some _ e)
  obtain ⟨t, ht, hq⟩ := hbody A outer s H vs Q E (hr.deeper _) hsp
  have I : Inv (ncx CX P w K mg base N ⟨name, qual, params, body, scope, [("__class__", cc)], cda⟩ f A outer s H E) [] (startF N vs [none]) H { s with heap := h₁, toks := s.toks + (ps.zip us).length } := inv_startN S hr.hd e0 hl r C hns kp
  refine ks_wpAt_mono (ht.run [] _ (startF N vs [none]) H _ I hq) (fun fl s' hs => ?_) fun e s' hs => hs
  have fin : ∀ {σ' : L2.St} {H' : Hp} {v : V} {u : Value}, Inv (ncx CX P w K mg base N ⟨name, qual, params, body, scope, [("__class__", cc)], cda⟩ f A outer s H E) [] σ' H' s' → L2.RelV v u → Q v H' → CE outer P w H s Q u s' :=
    fun {σ' H' v u} J rv q => ⟨v, H', J.os, J.bare, J.base, J.hok, rv, q⟩
  cases fl with
  | ret u =>
    obtain ⟨v, σ', H', J, rv, q⟩ := hs
    exact fin J rv q
  | next =>
    obtain ⟨σ', H', J, q⟩ := hs
    exact fin (v := V.non) (u := Value.none) J rfl q
  | brk =>
    obtain ⟨_, _, _, q⟩ := hs
    exact False.elim q
  | cont =>
    obtain ⟨_, _, _, q⟩ := hs
    exact False.elim q
end G
set_option Elab.async false
set_option linter.all false
set_option maxRecDepth 100000
set_option maxHeartbeats 2000000
/-! G3: a cell, its box, a draw from it. -/
namespace G
open PySem PySem.Spec PyProof.Rows L2
def topS (i : Nat) : Stmt := PySem.Challenge.pw_listviews_k16_texts_of_orders_and_plus.main.body.getD i (.Pass ⟨0, 0, 0, 0⟩)
abbrev sCell : Stmt := topS 38
abbrev sBox : Stmt := topS 39
abbrev sTake : Stmt := topS 40
theorem scCell : FnScope ["_law_script", "_law_k"] ["_law_script", "_law_k"] (defScope sCell) := ⟨rfl, rfl, rfl, by decide +kernel, rfl, by decide +kernel, by decide +kernel⟩
theorem scBox : FnScope ["_law_cell_here"] ["_law_cell_here"] (defScope sBox) := ⟨rfl, rfl, rfl, by decide +kernel, rfl, by decide +kernel, by decide +kernel⟩
theorem scTake : FnScope ["_law_box_here", "_law_many", "_law_digit", "_law_mixed_here"] ["_law_box_here", "_law_many"] (defScope sTake) := ⟨rfl, rfl, rfl, by decide +kernel, rfl, by decide +kernel, by decide +kernel⟩
/-- all but b stands as it stood -/
def But (b : Addr) (H H' : Hp) : Prop := ∀ c o, c ≠ b → H c = some o → H' c = some o
theorem But.refl (b : Addr) (H : Hp) : But b H H := fun _ _ _ h => h
theorem But.trans {b : Addr} {H H1 H2 : Hp} (x : But b H H1) (y : But b H1 H2) : But b H H2 := fun c o n h => y c o n (x c o n h)
theorem But.upd {b : Addr} {H : Hp} {o : HO} : But b H (upd H b o) := fun c u n h => by
  rw [upd_ne n]
  exact h
theorem But.new {b p : Addr} {H : Hp} {o : HO} (h : H p = none) : But b H (L2.upd H p o) := fun c u n e => by
  rw [upd_ne (ne_of_none e h)]
  exact e
theorem But.same {b : Addr} {H H' : Hp} (h : Same H H') : But b H H' := fun c o _ e => h c o e
theorem Same.new {p : Addr} {H : Hp} {o : HO} (h : H p = none) : Same H (upd H p o) := fun c u e => by
  rw [upd_ne (ne_of_none e h)]
  exact e
/-- a box from which at most n draws were made -/
def BoxAt (H : Hp) (b : Addr) (n : Nat) : Prop := ∃ x y z : Int, H b = some (.lst [.int x, .int y, .int z]) ∧ 0 ≤ x ∧ 0 ≤ y ∧ y < 2147483629 ∧ 0 ≤ z ∧ z ≤ n
theorem BoxAt.mono {H : Hp} {b : Addr} {n m : Nat} (h : BoxAt H b n) (le : n ≤ m) : BoxAt H b m := by
  obtain ⟨x, y, z, e, h1, h2, h3, h4, h5⟩ := h
  exact ⟨x, y, z, e, h1, h2, h3, h4, by omega⟩
theorem BoxAt.keep {H H' : Hp} {b : Addr} {n : Nat} (h : BoxAt H b n) (s : ∀ o, H b = some o → H' b = some o) : BoxAt H' b n := by
  obtain ⟨x, y, z, e, r⟩ := h
  exact ⟨x, y, z, s _ e, r⟩
/-- a draw is one of so many -/
theorem draw_at {r m : Int} {n : Nat} (h0 : 0 ≤ r) (h1 : r < m) (e : m = n) : ∃ j : Nat, r = j ∧ j < n := ⟨r.toNat, by omega, by omega⟩
def spCell' (K : PySem.W.Frag) : Sp := fun vs H Q _ => ∃ (a : Addr) (ns : List Int) (z : Int), vs = [.ref a, .int z] ∧ SqL K H a (ns.map V.int) ∧ 0 ≤ z ∧ z < 1000 ∧ ∀ i : Int, Q (.int i) H
def spBox : Sp := fun vs H Q _ => ∃ i : Int, vs = [.int i] ∧ ∀ (b : Addr) (H' : Hp), H b = none → Same H H' → BoxAt H' b 0 → Q (.ref b) H'
def spTake : Sp := fun vs H Q _ => ∃ (b : Addr) (m : Int) (n : Nat), vs = [.ref b, .int m] ∧ BoxAt H b n ∧ n ≤ 100000 ∧ 0 < m ∧ m < 2 ^ 200 ∧
  ∀ (r : Int) (H' : Hp), 0 ≤ r → r < m → BoxAt H' b (n + 1) → But b H H' → Q (.int r) H'
section
variable {P : Program} {w : World} {K : PySem.W.Frag} {mg : Str → Option Value} {base : Heap}
theorem ok_cell {f : Addr} {fd : FuncData} (F : Fun K "_law_cell" "_law_cell" sCell f fd) (ml : mg "len" = none) : FnOk P w K mg base CX0 1 f fd ["_law_script", "_law_k"] (spCell' K) := by
  refine F.ok scCell (fun vs H Q E h => ?_) (fun cdv A outer s H vs Q E hr h => ?_)
  · obtain ⟨a, ns, j, rfl, _⟩ := h
    rfl
  · obtain ⟨a, ns, z, rfl, hS, z0, z1, q⟩ := h
    obtain ⟨j, rfl, hj⟩ := draw_at (n := 1000) z0 z1 rfl
    refine ⟨_, pss_cons (ps_if (pt_cmpR op_lt (pv 1) (pe_callB call_len_seq (by rfl) ml PySem.boot_len (pa_cons (pv 0) pa_nil)) (nomark _))
        (pss_one (ps_ret (pe_ix ix_list (pv 0) (pv 1) (fun _ _ => rfl)))) pss_nil)
      (pss_one (ps_ret (pe_op op_add (pe_op op_mul pe_int (pv 1)) pe_int))), ?_⟩
    refine ⟨_, rfl, _, rfl, a, _, rfl, .inl hS, _, _, rfl, rfl, _, rfl, ite2 (fun e => ?_) (fun _ => ?_)⟩
    · have e1 : (j : Int) < ((ns.map V.int).length : Nat) := of_decide_eq_true e
      have e2 : j < ns.length := by
        rw [List.length_map] at e1
        omega
      exact ⟨_, rfl, _, rfl, a, _, _, .int ns[j], rfl, rfl, hS, atI_nat (by rw [List.getElem?_map, List.getElem?_eq_getElem e2] <;> rfl), q _⟩
    · exact ⟨_, rfl, _, _, rfl, rfl, .inl ⟨by decide, by decide⟩, _, _, rfl, rfl, q _⟩
theorem ok_box {f : Addr} {fd : FuncData} (F : Fun K "_law_box" "_law_box" sBox f fd) (mm : mg "max" = none) : FnOk P w K mg base CX0 1 f fd ["_law_cell_here"] spBox := by
  refine F.ok scBox (fun vs H Q E h => ?_) (fun cdv A outer s H vs Q E hr h => ?_)
  · obtain ⟨i, rfl, _⟩ := h
    rfl
  · obtain ⟨i, rfl, q⟩ := h
    refine ⟨_, pss_one (ps_ret (pe_lst (pa_cons (pe_callB (call_max2 rfl) (by rfl) mm (by decide +kernel) (pa_cons pe_int (pa_cons (pe_op op_sub (pv 0) (pe_op op_pow pe_int pe_int)) pa_nil)))
      (pa_cons (pe_op op_mod (pv 0) pe_int) (pa_cons pe_int pa_nil))))), ?_⟩
    refine ⟨_, rfl, _, _, rfl, rfl, ⟨by decide, by decide, by decide⟩, _, _, rfl, rfl, _, _, rfl, _, rfl, _, _, rfl, rfl, (by show (0 : Int) < 2147483629; decide), (by show 3 ≤ sizeLine; decide), fun b hb => ?_⟩
    refine q b _ hb (Same.new hb) ⟨_, _, _, upd_same, ?_, Int.emod_nonneg _ (by decide), Int.emod_lt_of_pos _ (by decide), Int.le_refl _, Int.le_refl _⟩
    split <;> omega
theorem emod_in (a m : Int) (h : 0 < m) : 0 ≤ a % m ∧ a % m < m := ⟨Int.emod_nonneg _ (by omega), Int.emod_lt_of_pos _ h⟩
theorem ok_take {f : Addr} {fd : FuncData} (F : Fun K "_law_take" "_law_take" sTake f fd) : FnOk P w K mg base CX0 1 f fd ["_law_box_here", "_law_many"] spTake := by
  refine F.ok scTake (fun vs H Q E h => ?_) (fun cdv A outer s H vs Q E hr h => ?_)
  · obtain ⟨b, m, n, rfl, _⟩ := h
    rfl
  · obtain ⟨b, m, n, rfl, ⟨x, y, z, hb, hx, hy, hy2, hz, hzn⟩, hn, hm, hm2, q⟩ := h
    refine ⟨_, pss_cons (ps_if (pt_cmpR op_gt (pe_ix ix_list (pv 0) pe_int (fun _ _ => rfl)) pe_int (nomark _))
        (pss_cons (ps_set (i := 2) scTake.nd rfl (.inl rfl) (pe_op op_mod (pe_ix ix_list (pv 0) pe_int (fun _ _ => rfl)) (pv 1)))
        (pss_cons (ps_asg (pe_op op_fdivW (pe_ix ix_list (pv 0) pe_int (fun _ _ => rfl)) (pv 1)) (pg_sub (pv 0) pe_int set_list))
        (pss_one (ps_ret (pv 2))))) pss_nil)
      (pss_cons (ps_asg (pe_op op_add (pe_ix ix_list (pv 0) pe_int (fun _ _ => rfl)) pe_int) (pg_sub (pv 0) pe_int set_list))
      (pss_cons (ps_set (i := 3) scTake.nd rfl (.inl rfl) (pe_op op_mod (pe_op op_pow (pe_op op_add (pe_op op_add (pe_ix ix_list (pv 0) pe_int (fun _ _ => rfl)) (pe_op op_mul pe_int (pe_ix ix_list (pv 0) pe_int (fun _ _ => rfl)))) pe_int) pe_int) pe_int))
      (pss_cons (ps_set (i := 3) scTake.nd rfl (.inl rfl) (pe_op op_mod (pe_op op_pow (pe_op op_add (pv 3) (pe_op op_mul pe_int (pe_ix ix_list (pv 0) pe_int (fun _ _ => rfl)))) pe_int) pe_int))
      (pss_one (ps_ret (pe_op op_mod (pe_op op_fdivW (pv 3) pe_int) (pv 1))))))), ?_⟩
    -- if box[0] > 0
    refine ⟨_, rfl, b, _, 0, .int x, rfl, rfl, .of hb, rfl, _, _, rfl, rfl, _, rfl, ite2 (fun e => ?_) (fun _ => ?_)⟩
    · refine ⟨_, rfl, b, _, 0, .int x, rfl, rfl, .of hb, rfl, _, rfl, _, _, rfl, rfl, hm, ?_⟩
      refine ⟨_, rfl, b, _, 0, .int x, rfl, rfl, .of hb, rfl, _, rfl, _, _, rfl, rfl, wide_div hm (b := 200) (by omega) (by decide) (by decide), ?_⟩
      refine ⟨_, rfl, b, _, 0, 0, rfl, rfl, hb, rfl, _, rfl, ?_⟩
      have r := emod_in x m hm
      exact q _ _ r.1 r.2 ⟨_, _, _, upd_same, Int.ediv_nonneg hx (by omega), hy, hy2, hz, by omega⟩ But.upd
    · refine ⟨_, rfl, b, _, 2, .int z, rfl, rfl, .of hb, rfl, _, _, rfl, rfl, ?_⟩
      refine ⟨_, rfl, b, _, 2, 2, rfl, rfl, hb, rfl, ?_⟩
      have hb' : (upd H b (.lst [.int x, .int y, .int (z + 1)])) b = some (.lst [.int x, .int y, .int (z + 1)]) := upd_same
      refine ⟨_, rfl, b, _, 1, .int y, rfl, rfl, .of hb', rfl, _, rfl, b, _, 2, .int (z + 1), rfl, rfl, .of hb', rfl, _, _, rfl, rfl, .inl ⟨by decide, by decide⟩, _, _, rfl, rfl, _, _, rfl, rfl,
        _, _, rfl, rfl, ⟨by decide, by decide, by omega⟩, _, _, rfl, rfl, (by show (0 : Int) < 2147483647; decide), ?_⟩
      generalize h1 : ((y + 7487 * (z + 1) + 211) ^ (5 : Int).toNat : Int) = t1
      have r1 := emod_in t1 2147483647 (by decide)
      refine ⟨_, rfl, _, rfl, b, _, 2, .int (z + 1), rfl, rfl, .of hb', rfl, _, _, rfl, rfl, .inl ⟨by decide, by decide⟩, _, _, rfl, rfl, _, _, rfl, rfl, ⟨by decide, by decide, by omega⟩, _, _, rfl, rfl, (by show (0 : Int) < 2147483587; decide), ?_⟩
      generalize h2 : ((t1 % 2147483647 + 104729 * (z + 1)) ^ (3 : Int).toNat : Int) = t2
      refine ⟨_, rfl, _, _, rfl, rfl, wide_div (by decide) (b := 200) (by decide) (by decide) (by decide), _, rfl, _, _, rfl, rfl, hm, ?_⟩
      have r := emod_in (t2 % 2147483587 / 16) m hm
      exact q _ _ r.1 r.2 ⟨_, _, _, upd_same, hx, hy, hy2, by omega, by omega⟩ But.upd
end
end G
set_option Elab.async false
set_option linter.all false
set_option maxRecDepth 100000
set_option maxHeartbeats 2000000
/-! G5: what data in the heap keeps, its type, == of it. -/
namespace G
open PySem PySem.Spec PyProof.Rows L2
section
variable {K : PySem.W.Frag} {H H' : Hp}
mutual
theorem rp_same (s : Same H H') : ∀ (d : PyData) (v : V), Rp K H v d → Rp K H' v d
  | .none, _, h => by
    cases h
    exact .non
  | .bool b, _, h => by
    cases h
    exact .bl b
  | .int i, _, h => by
    cases h
    exact .int i
  | .str x, _, h => by
    cases h
    exact .str x
  | .list ds, _, h => by
    cases h with
    | lst e r => exact .lst (s _ _ e) (rp_sameAll s ds _ r)
  | .tuple ds, _, h => by
    cases h with
    | tup e r => exact .tup (s _ _ e) (rp_sameAll s ds _ r)
  | .dict ds, _, h => by
    cases h with
    | dic e r q => exact .dic (s _ _ e) (rp_sameK s ds _ r) (rp_sameV s ds _ q)
theorem rp_sameAll (s : Same H H') : ∀ (ds : List PyData) (vs : List V), RpAll K H vs ds → RpAll K H' vs ds
  | [], _, h => by
    cases h
    exact .nil
  | d :: ds, _, h => by
    cases h with
    | cons a b => exact .cons (rp_same s d _ a) (rp_sameAll s ds _ b)
theorem rp_sameK (s : Same H H') : ∀ (ds : List (PyData × PyData)) (vs : List V), RpAll K H vs (ds.map (·.1)) → RpAll K H' vs (ds.map (·.1))
  | [], _, h => by
    cases h
    exact .nil
  | (d, _) :: ds, _, h => by
    cases h with
    | cons a b => exact .cons (rp_same s d _ a) (rp_sameK s ds _ b)
theorem rp_sameV (s : Same H H') : ∀ (ds : List (PyData × PyData)) (vs : List V), RpAll K H vs (ds.map (·.2)) → RpAll K H' vs (ds.map (·.2))
  | [], _, h => by
    cases h
    exact .nil
  | (_, d) :: ds, _, h => by
    cases h with
    | cons a b => exact .cons (rp_same s d _ a) (rp_sameV s ds _ b)
end
theorem rp_len : ∀ {ds : List PyData} {vs : List V}, RpAll K H vs ds → vs.length = ds.length
  | [], _, h => by
    cases h
    rfl
  | _ :: ds, _, h => by
    cases h with
    | cons a b =>
      rw [List.length_cons, List.length_cons, rp_len b]
theorem rp_at : ∀ {ds : List PyData} {vs : List V} {i : Nat} {v : V}, RpAll K H vs ds → vs[i]? = some v → ∃ d, ds[i]? = some d ∧ Rp K H v d
  | [], _, i, v, h, e => by
    cases h
    simp at e
  | d :: ds, _, i, v, h, e => by
    cases h with
    | cons a b =>
      cases i with
      | zero =>
        have e' := Option.some.inj e
        subst e'
        exact ⟨d, rfl, a⟩
      | succ j => exact rp_at (ds := ds) (i := j) b (by simpa using e)
theorem rp_app : ∀ {ds : List PyData} {vs : List V} {v : V} {d : PyData}, RpAll K H vs ds → Rp K H v d → RpAll K H (vs ++ [v]) (ds ++ [d])
  | [], _, _, _, h, r => by
    cases h
    exact .cons r .nil
  | _ :: ds, _, _, _, h, r => by
    cases h with
    | cons a b => exact .cons a (rp_app b r)
theorem rp_set : ∀ {ds : List PyData} {vs : List V} {v : V} {d : PyData} (i : Nat), RpAll K H vs ds → Rp K H v d → RpAll K H (vs.set i v) (ds.set i d)
  | [], _, _, _, _, h, r => by
    cases h
    exact .nil
  | _ :: ds, _, _, _, i, h, r => by
    cases h with
    | cons a b =>
      cases i with
      | zero => exact .cons r b
      | succ j => exact .cons a (rp_set j b r)
theorem rp_ints : ∀ (is : List Int), RpAll K H (is.map V.int) (is.map PyData.int)
  | [] => .nil
  | i :: is => .cons (.int i) (rp_ints is)
mutual
theorem rp_dp : ∀ (d : PyData) (v : V), d.hasDict = false → Rp K H v d → Dp K H v d
  | .none, _, _, h => by
    cases h
    exact .non
  | .bool b, _, _, h => by
    cases h
    exact .bl b
  | .int i, _, _, h => by
    cases h
    exact .int i
  | .str x, _, _, h => by
    cases h
    exact .str x
  | .list ds, _, n, h => by
    cases h with
    | lst e r => exact .lst (.of e) (rp_dpAll ds _ (by simpa [PyData.hasDict] using n) r)
  | .tuple ds, _, n, h => by
    cases h with
    | tup e r => exact .tup (.of e) (rp_dpAll ds _ (by simpa [PyData.hasDict] using n) r)
  | .dict ds, _, n, h => by simp [PyData.hasDict] at n
theorem rp_dpAll : ∀ (ds : List PyData) (vs : List V), PyData.hasDictAll ds = false → RpAll K H vs ds → DpAll K H vs ds
  | [], _, _, h => by
    cases h
    exact .nil
  | d :: ds, _, n, h => by
    simp only [PyData.hasDictAll, Bool.or_eq_false_iff] at n
    cases h with
    | cons a b => exact .cons (rp_dp d _ n.1 a) (rp_dpAll ds _ n.2 b)
end
/-- the name of a thing's type -/
def tyN : PyData → String
  | .none => "NoneType"
  | .bool _ => "bool"
  | .int _ => "int"
  | .str _ => "str"
  | .list _ => "list"
  | .tuple _ => "tuple"
  | .dict _ => "dict"
theorem rp_ty {v : V} {d : PyData} (h : Rp K H v d) : TyX K H v (.type (tyN d)) := by
  cases h with
  | non => exact .base .non
  | bl b => exact .base (.bl b)
  | int i => exact .base (.int i)
  | str x => exact .base (.str x)
  | lst e r => exact .base (.lst e)
  | tup e r => exact .base (.tup e)
  | dic e r q => exact .base (.dK e)
end
/-- H without what stands at b -/
def hide (b : Addr) (H : Hp) : Hp := fun a => if a = b then none else H a
theorem hide_same (b : Addr) (H : Hp) : Same (hide b H) H := fun a o e => by
  by_cases h : a = b
  · rw [show hide b H a = none from if_pos h] at e
    cases e
  · rwa [show hide b H a = H a from if_neg h] at e
theorem hide_ne {b a : Addr} {H : Hp} (h : a ≠ b) : hide b H a = H a := if_neg h
theorem hide_at {b : Addr} {H : Hp} : hide b H b = none := if_pos rfl
theorem hide_but {b : Addr} {H H' : Hp} (h : But b H H') : Same (hide b H) (hide b H') := fun a o e => by
  have n : a ≠ b := fun z => by
    rw [z, hide_at] at e
    cases e
  rw [hide_ne n] at e ⊢
  exact h a o n e
theorem hide_upd {b : Addr} {H : Hp} {o : HO} : hide b (upd H b o) = hide b H := by
  funext a
  by_cases h : a = b
  · rw [h, hide_at, hide_at]
  · rw [hide_ne h, hide_ne h, upd_ne h]
/-- what is new is not in what stood -/
theorem hide_new {b : Addr} {H : Hp} (h : H b = none) : Same H (hide b H) := fun a o e => by
  rw [hide_ne (ne_of_none e h)]
  exact e
theorem hide_mono {b : Addr} {H H' : Hp} (h : Same H H') : Same (hide b H) (hide b H') := hide_but fun c o _ e => h c o e
theorem hide_hide {b c : Addr} {H : Hp} : hide b (hide c H) = hide c (hide b H) := by
  funext a
  unfold hide
  split <;> split <;> rfl
end G
set_option Elab.async false
set_option linter.all false
set_option maxRecDepth 100000
set_option maxHeartbeats 2000000
/-! V3: the items of a list, in a drawn order. -/
namespace G
open PySem PySem.Spec PyProof.Rows L2
abbrev sMixed : Stmt := topS 41
theorem scMixed : FnScope ["_law_box_here", "_law_some", "_law_left", "_law_found"] ["_law_box_here", "_law_some"] (defScope sMixed) := ⟨rfl, rfl, rfl, by decide +kernel, rfl, by decide +kernel, by decide +kernel⟩
/-- data that == takes: no dict, texts that can be compared, not too deep -/
def lay (d : PyData) : Prop := d.hasDict = false ∧ d.canLay0 = true ∧ d.depth ≤ 60
theorem lay_all : ∀ {ds : List PyData}, (∀ d ∈ ds, lay d) → PyData.hasDictAll ds = false ∧ PyData.canLayAll0 ds = true ∧ PyData.depthAll ds ≤ 60
  | [], _ => ⟨rfl, rfl, Nat.zero_le _⟩
  | d :: ds, h => by
    obtain ⟨a1, a2, a3⟩ := h d List.mem_cons_self
    obtain ⟨b1, b2, b3⟩ := lay_all (ds := ds) fun e he => h e (List.mem_cons_of_mem _ he)
    refine ⟨?_, ?_, ?_⟩
    · rw [PyData.hasDictAll, a1, b1]
      rfl
    · rw [PyData.canLayAll0, a2, b2]
      rfl
    · rw [PyData.depthAll]
      exact Nat.max_le.mpr ⟨a3, b3⟩
theorem lay_shaped {d : PyData} (h : lay d) : SeqAt.shaped d = true := by
  unfold SeqAt.shaped
  rw [h.2.1, decide_eq_true (Nat.le_trans h.2.2 (by decide))]
  rfl
theorem lay_list {ds : List PyData} (h : ∀ d ∈ ds, lay d) : SeqAt.shaped (.list ds) = true := by
  obtain ⟨_, b2, b3⟩ := lay_all h
  unfold SeqAt.shaped
  rw [PyData.canLay0, b2, decide_eq_true (show (PyData.list ds).depth ≤ 64 by rw [PyData.depth]; omega)]
  rfl
/-- values and what they show -/
abbrev Vd := V × PyData
theorem rp_pairs {K : PySem.W.Frag} {H : Hp} : ∀ {qs : List Vd}, (∀ p ∈ qs, Rp K H p.1 p.2) → RpAll K H (qs.map (·.1)) (qs.map (·.2))
  | [], _ => .nil
  | p :: qs, h => .cons (h p List.mem_cons_self) (rp_pairs fun q hq => h q (List.mem_cons_of_mem _ hq))
theorem dp_pairs {K : PySem.W.Frag} {H : Hp} {qs : List Vd} (h : ∀ p ∈ qs, Rp K H p.1 p.2) (l : ∀ p ∈ qs, lay p.2) : DpAll K H (qs.map (·.1)) (qs.map (·.2)) :=
  rp_dpAll _ _ (lay_all (ds := qs.map (·.2)) fun d hd => by
    obtain ⟨p, hp, rfl⟩ := List.mem_map.mp hd
    exact l p hp).1 (rp_pairs h)
theorem erase_map {α β : Type} (f : α → β) : ∀ (l : List α) (j : Nat), (l.map f).eraseIdx j = (l.eraseIdx j).map f
  | [], _ => rfl
  | _ :: _, 0 => rfl
  | x :: l, j + 1 => by
    show f x :: (l.map f).eraseIdx j = f x :: (l.eraseIdx j).map f
    rw [erase_map f l j]
theorem erase_perm {α : Type} : ∀ {l : List α} {j : Nat} (h : j < l.length), ([l[j]] ++ l.eraseIdx j).Perm l
  | _ :: _, 0, _ => .refl _
  | x :: l, j + 1, h => by
    have hj : j < l.length := by simpa using h
    have ih := erase_perm hj
    show (l[j] :: x :: l.eraseIdx j).Perm (x :: l)
    exact (List.Perm.swap x _ _).trans (List.Perm.cons x ih)
/-- some: any order of its items, in a new list -/
def spMixed (K : PySem.W.Frag) : Sp := fun vs H Q _ => ∃ (b a : Addr) (n : Nat) (ps : List Vd), vs = [.ref b, .ref a] ∧ BoxAt H b n ∧ n + ps.length ≤ 100000 ∧ (SqL K H a (ps.map (·.1)) ∨ SqT K H a (ps.map (·.1))) ∧
  (∀ p ∈ ps, lay p.2 ∧ ∀ H', But b H H' → Rp K H' p.1 p.2) ∧
  ∀ (p : Addr) (H' : Hp) (qs : List Vd), qs.Perm ps → H p = none → H' p = some (.lst (qs.map (·.1))) → BoxAt H' b (n + ps.length) → But b H H' → Q (.ref p) H'
theorem eqv_nil (ds : List PyData) : PyData.eqv (.list ds) (.list []) = ds.isEmpty := by
  cases ds with
  | nil => rfl
  | cons d ds => rfl
section
variable {P : Program} {w : World} {K : PySem.W.Frag} {mg : Str → Option Value} {base : Heap}
theorem ok_mixed {f fT : Addr} {fd fdT : FuncData} (F : Fun K "_law_mixed" "_law_mixed" sMixed f fd) (T : Fun K "_law_take" "_law_take" sTake fT fdT) (bT : Binds K fdT ["_law_box_here", "_law_many"] []) (gT : mg "_law_take" = some (.ref fT))
    (ml : mg "len" = none) (mL : mg "list" = none) : FnOk P w K mg base CX0 2 f fd ["_law_box_here", "_law_some"] (spMixed K) := by
  refine F.ok scMixed (fun vs H Q E h => ?_) (fun cdv A outer s H vs Q E hr h => ?_)
  · obtain ⟨b, a, n, ps, rfl, _⟩ := h
    rfl
  · obtain ⟨b, a, n, ps, rfl, B, hn, hS, hp, q⟩ := h
    have big : ∀ {k : Nat}, k ≤ 100000 → k < sizeLine := fun {k} h => by
      rw [sizeLine_eq]
      omega
    refine ⟨_, pss_cons (ps_par (i := 2) (j := 3) (by rfl) scMixed.nd rfl rfl (by decide) rfl rfl (pa_cons (pe_callTy call_list_of (by rfl) mL (by decide +kernel) (pa_cons (pv 1) pa_nil)) (pa_cons (pe_lst pa_nil) pa_nil)) (by rfl))
      (pss_cons (ps_while PassesOwn.never (pt_cmpR (op_neD hr.units) (pv 2) (pe_lst pa_nil) (nomark _))
        (pss_one (ps_expr (pe_bm PySem.F.plainAttrs_list PySem.F.slot_list_append PySem.F.type_list_append mt_append (pv 3) (pa_cons
          (pe_bm PySem.F.plainAttrs_list PySem.F.slot_list_pop PySem.F.type_list_pop mt_popAt (pv 2)
            (pa_cons (pe_call (ok_take T) hr rfl gT T.kp bT .nil pass0 (pa_cons (pv 0) (pa_cons (pe_callB call_len_seq (by rfl) ml PySem.boot_len (pa_cons (pv 2) pa_nil)) pa_nil))) pa_nil)) pa_nil)))))
      (pss_one (ps_ret (pv 3)))), ?_⟩
    refine ⟨_, rfl, a, _, rfl, hS, fun l hl => ⟨by decide, fun p hp0 => ⟨_, _, rfl, ?_⟩⟩⟩
    have nlp : l ≠ p := fun z => by
      rw [z, upd_same] at hp0
      cases hp0
    have hpn : H p = none := (upd_ne nlp.symm).symm.trans hp0
    have nbl : b ≠ l := by
      obtain ⟨_, _, _, e, _⟩ := B
      exact ne_of_none e hl
    have nbp : b ≠ p := by
      obtain ⟨_, _, _, e, _⟩ := B
      exact ne_of_none e hpn
    refine ⟨fun m σ H1 => ∃ qs rs : List Vd, m = qs.length ∧ σ = [some (.ref b), some (.ref a), some (.ref l), some (.ref p)] ∧ H1 l = some (.lst (qs.map (·.1))) ∧ H1 p = some (.lst (rs.map (·.1))) ∧
        (rs ++ qs).Perm ps ∧ BoxAt H1 b (n + rs.length) ∧ But b H H1, ⟨ps.length, ps, [], rfl, rfl, ?_, upd_same, .refl _, ?_, ?_⟩, ?_⟩
    · rw [upd_ne nlp, upd_same]
    · exact (B.keep fun o e => by rw [upd_ne nbp, upd_ne nbl]; exact e).mono (Nat.le_add_right _ _)
    · exact (But.new hl).trans (But.new hp0)
    · rintro m σ H1 ⟨qs, rs, rfl, rfl, el, ep, pm, B1, s1⟩
      have hq : ∀ x ∈ qs, x ∈ ps := fun x hx => pm.mem_iff.mp (List.mem_append_right _ hx)
      have hlen : rs.length + qs.length = ps.length := by
        rw [← List.length_append]
        exact pm.length_eq
      refine ⟨_, rfl, by decide, fun t ht => ?_⟩
      have nlt : l ≠ t := ne_of_none el ht
      have s2 : But b H (upd H1 t (.lst [])) := s1.trans (But.new ht)
      refine ⟨.list (qs.map fun x : Vd => x.2), .list [], .lst (xs := qs.map fun x : Vd => x.1) (.of (by rw [upd_ne nlt]; exact el)) (dp_pairs (fun x hx => (hp x (hq x hx)).2 _ s2) fun x hx => (hp x (hq x hx)).1), .lst (.of upd_same) .nil, lay_list (fun d hd => ?_), by rfl, _, rfl, ?_⟩
      · obtain ⟨x, hx, rfl⟩ := List.mem_map.mp hd
        exact (hp x (hq x hx)).1
      · rw [eqv_nil]
        cases qs with
        | nil =>
          refine iteF ?_
          refine ⟨_, rfl, ?_⟩
          rw [List.append_nil] at pm
          refine q p _ rs pm hpn ?_ ?_ s2
          · rw [upd_ne (ne_of_none ep ht)]
            exact ep
          · have e : rs.length = ps.length := pm.length_eq
            rw [← e]
            exact B1.keep fun o e => by rw [upd_ne (ne_of_none e ht)]; exact e
        | cons y ys =>
          refine iteT ?_
          have hlen' : rs.length + (ys.length + 1) = ps.length := hlen
          refine ⟨fun σ' H' => ∃ m', m' < (y :: ys).length ∧ ∃ qs rs : List Vd, m' = qs.length ∧ σ' = [some (.ref b), some (.ref a), some (.ref l), some (.ref p)] ∧ H' l = some (.lst (qs.map (·.1))) ∧ H' p = some (.lst (rs.map (·.1))) ∧
            (rs ++ qs).Perm ps ∧ BoxAt H' b (n + rs.length) ∧ But b H H', fun _ _ h => h, ?_⟩
          have ep2 : upd H1 t (.lst []) p = some (.lst (rs.map (·.1))) := by
            rw [upd_ne (ne_of_none ep ht)]
            exact ep
          have el2 : upd H1 t (.lst []) l = some (.lst ((y :: ys).map (·.1))) := by
            rw [upd_ne nlt]
            exact el
          have B2 : BoxAt (upd H1 t (.lst [])) b (n + rs.length) := B1.keep fun o e => by rw [upd_ne (ne_of_none e ht)]; exact e
          refine ⟨_, rfl, .inl ⟨rfl, _, .of ep2⟩, _, rfl, .inl ⟨rfl, _, .of el2⟩, _, rfl, _, rfl, l, _, rfl, .inl (.of el2), b, _, n + rs.length, rfl, B2, by omega, ?_, ?_, fun r H3 r0 r1 B3 s3 => ?_⟩
          · rw [List.length_map]
            show (0 : Int) < ((ys.length + 1 : Nat) : Int)
            omega
          · rw [List.length_map]
            show ((ys.length + 1 : Nat) : Int) < _
            have : ys.length + 1 ≤ 100000 := by omega
            omega
          · obtain ⟨j, rfl, hj⟩ := draw_at r0 r1 (n := (y :: ys).length) (by rw [List.length_map])
            have el3 : H3 l = some (.lst ((y :: ys).map (·.1))) := s3 _ _ nbl.symm el2
            have ep3 : H3 p = some (.lst (rs.map (·.1))) := s3 _ _ nbp.symm ep2
            have hjm : j < ((y :: ys).map (·.1)).length := by
              rw [List.length_map]
              exact hj
            have hj5 : j < 100000 := by
              have e : (y :: ys).length = ys.length + 1 := rfl
              omega
            refine ⟨l, _, (j : Int), j, ((y :: ys)[j]).1, rfl, rfl, el3, by omega, by omega, ?_, ?_, ?_⟩
            · have := PySem.seqIndex_of (k := (j : Int)) (n := ((y :: ys).map (·.1)).length) (by omega) (by omega)
              rw [this]
              rfl
            · rw [List.getElem?_map, List.getElem?_eq_getElem hj]
              rfl
            · refine ⟨p, _, _, rfl, rfl, by rw [upd_ne nlp.symm]; exact ep3, ?_, ?_⟩
              · rw [List.length_map]
                exact big (by omega)
              · refine ⟨((y :: ys).eraseIdx j).length, ?_, (y :: ys).eraseIdx j, rs ++ [(y :: ys)[j]], rfl, rfl, ?_, ?_, ?_, ?_, ?_⟩
                · rw [List.length_eraseIdx, if_pos hj]
                  show (ys.length + 1) - 1 < ys.length + 1
                  omega
                · rw [upd_ne nlp, upd_same, erase_map]
                · rw [upd_same, List.map_append]
                  rfl
                · rw [List.append_assoc]
                  refine List.Perm.trans (List.Perm.append_left rs ?_) pm
                  exact erase_perm hj
                · rw [List.length_append, List.length_singleton]
                  exact B3.keep fun o e => by rw [upd_ne nbp, upd_ne nbl]; exact e
                · intro c o nc e
                  have e3 := (s2.trans s3) c o nc e
                  rw [upd_ne (ne_of_none e hpn), upd_ne (ne_of_none e hl)]
                  exact e3
end
end G
set_option Elab.async false
set_option linter.all false
set_option maxRecDepth 100000
set_option maxHeartbeats 2000000
/-! V4: drawn names. -/
namespace G
open PySem PySem.Spec PyProof.Rows L2
abbrev sNames : Stmt := topS 42
abbrev nNames : List Str := ["_law_box_here", "_law_many", "_law_letters", "_law_way", "_law_cut", "_law_begin", "_law_step", "_law_stem", "_law_k", "_law_found", "_law_letter", "_law_name"]
theorem scNames : FnScope nNames ["_law_box_here", "_law_many"] (defScope sNames) := ⟨rfl, rfl, rfl, by decide +kernel, rfl, by decide +kernel, by decide +kernel⟩
abbrev cs (z : Str) : List Nat := z.cps.toList
theorem cs_len (z : Str) : (cs z).length = z.length := by simp [cs, Str.length]
theorem cs_app (a b : Str) : cs (a ++ b) = cs a ++ cs b := TL.tl_append a b
theorem app_len (a b : Str) : (a ++ b).length = a.length + b.length := strLen_append a b
theorem small_size {n : Nat} (h : n ≤ 7000) : n ≤ sizeLine := by
  rw [sizeLine_eq]
  omega
theorem box_new {H : Hp} {b p : Addr} {n : Nat} {o : HO} (B : BoxAt H b n) (h : H p = none) : BoxAt (upd H p o) b n := B.keep fun o' e => Same.new h b o' e
theorem box_ne {H : Hp} {b p : Addr} {n : Nat} (B : BoxAt H b n) (h : H p = none) : p ≠ b := fun z => by
  obtain ⟨_, _, _, e, _⟩ := B
  rw [← z, h] at e
  cases e
theorem box_upd {H : Hp} {b p : Addr} {n : Nat} {o : HO} (B : BoxAt H b n) (h : p ≠ b) : BoxAt (upd H p o) b n := by
  obtain ⟨x, y, z, e, r⟩ := B
  exact ⟨x, y, z, (upd_ne h.symm).trans e, r⟩
/-- a store at what was new -/
theorem but_upd {b p : Addr} {H H1 : Hp} {o : HO} (k : But b H H1) (h : H p = none) : But b H (upd H1 p o) := fun c u n e => by
  rw [upd_ne (ne_of_none e h)]
  exact k c u n e
theorem free_of {b p : Addr} {H H' : Hp} (k : But b H H') (n : p ≠ b) (h : H' p = none) : H p = none := by
  cases e : H p with
  | none => rfl
  | some o =>
    rw [k p o n e] at h
    cases h
/-! ### names -/
def LowZ (z : Str) : Prop := ∀ c ∈ cs z, 97 ≤ c ∧ c ≤ 122
def NameZ (z : Str) : Prop := LowZ z ∧ 1 ≤ z.length ∧ z.length ≤ 8
def NameI (y : Str) (i : Nat) : Prop := LowZ y ∧ 1 ≤ y.length ∧ y.length ≤ 8 ∧ (26 ≤ i → y.length ≤ 7)
theorem LowZ.app {a b : Str} (h1 : LowZ a) (h2 : LowZ b) : LowZ (a ++ b) := fun c hc => by
  rw [cs_app] at hc
  rcases List.mem_append.mp hc with h | h
  · exact h1 c h
  · exact h2 c h
theorem LowZ.cut {a : Str} (h : LowZ a) (lo hi : Option Int) : LowZ (cutS a lo hi) := fun c hc => by
  have hc' : c ∈ ((cs a).drop _).take _ := hc
  exact h c (List.mem_of_mem_drop (List.mem_of_mem_take hc'))
theorem low_one {c : Nat} (h : 97 ≤ c ∧ c ≤ 122) : LowZ ⟨#[c]⟩ := fun x hx => by
  have : x ∈ [c] := hx
  rw [List.mem_singleton.mp this]
  exact h
theorem LowZ.lay {z : Str} (h : LowZ z) : lay (.str z) := by
  refine ⟨rfl, ?_, Nat.zero_le _⟩
  show z.cps.all (· < 0x110000) = true
  rw [Array.all_eq_true]
  intro i hi
  have := h z.cps[i] (by simp [cs])
  exact decide_eq_true (by omega)
abbrev abc : Str := "abcdefghijklmnopqrstuvwxyz"
theorem abc_low : LowZ abc := by
  have h : ((cs abc).all fun c => decide (97 ≤ c ∧ c ≤ 122)) = true := by decide +kernel
  exact fun c hc => of_decide_eq_true (List.all_eq_true.mp h c hc)
theorem abc_at {j : Nat} (hj : j < 26) : ∃ c, abc.cps[j]? = some c ∧ 97 ≤ c ∧ c ≤ 122 := by
  have h1 : j < abc.cps.size := hj
  refine ⟨abc.cps[j], by simp [h1], abc_low _ ?_⟩
  simp [cs]
theorem cut_first (z : Str) (k : Nat) : cs (cutS z none (some (k : Int))) = (cs z).take k := by
  show ((cs z).drop (HT.sIx z.length 0 none)).take (HT.sIx z.length z.length (some (k : Int)) - HT.sIx z.length 0 none) = _
  rw [HT.sIx_none, HT.sIx_nat z.length z.length k, List.drop_zero, ← cs_len, Nat.sub_zero]
  by_cases h : k ≤ (cs z).length
  · rw [Nat.min_eq_left h]
  · rw [Nat.min_eq_right (by omega), List.take_length, List.take_of_length_le (by omega)]
theorem cut_len (z : Str) (k : Nat) : (cutS z none (some (k : Int))).length = min k z.length := by
  rw [← cs_len, cut_first, List.length_take, cs_len]
def spNames : Sp := fun vs H Q _ => ∃ (b : Addr) (m n : Nat), vs = [.ref b, .int (m : Int)] ∧ BoxAt H b n ∧ n ≤ 50000 ∧ m ≤ 100 ∧
  ∀ (p : Addr) (H' : Hp) (zs : List Str), zs.length = m → (∀ z ∈ zs, NameZ z) → H p = none → H' p = some (.lst (zs.map V.str)) → BoxAt H' b (n + 11 + m) → But b H H' → Q (.ref p) H'
section
variable {P : Program} {w : World} {K : PySem.W.Frag} {mg : Str → Option Value} {base : Heap}
theorem ok_names {f fT fM : Addr} {fd fdT fdM : FuncData} (F : Fun K "_law_names" "_law_names" sNames f fd) (T : Fun K "_law_take" "_law_take" sTake fT fdT) (bT : Binds K fdT ["_law_box_here", "_law_many"] []) (gT : mg "_law_take" = some (.ref fT))
    (M : Fun K "_law_mixed" "_law_mixed" sMixed fM fdM) (bM : Binds K fdM ["_law_box_here", "_law_some"] []) (gM : mg "_law_mixed" = some (.ref fM)) (ml : mg "len" = none) (mL : mg "list" = none) (mr : mg "range" = none) :
    FnOk P w K mg base CX0 3 f fd ["_law_box_here", "_law_many"] spNames := by
  have GT : FnOk P w K mg base CX0 1 fT fdT ["_law_box_here", "_law_many"] spTake := ok_take T
  have GM : FnOk P w K mg base CX0 2 fM fdM ["_law_box_here", "_law_some"] (spMixed K) := ok_mixed M T bT gT ml mL
  refine F.ok scNames (fun vs H Q E h => ?_) (fun cdv A outer s H vs Q E hr h => ?_)
  · obtain ⟨b, m, n, rfl, _⟩ := h
    rfl
  · obtain ⟨b, m, n, rfl, B, hn, hm, q⟩ := h
    have hr1 := hr.mono (show 1 ≤ 2 by decide)
    obtain ⟨ts, psl, qsl⟩ : ∃ t, PSs (cxOf CX0 P w K mg base nNames "_law_names" (defScope sNames) f cdv A outer s H E).nox ((defBody sNames).drop 5) t ∧
        ∀ (way cut bg st : Nat) (z : Str) (x8 : Option V) (H1 : Hp), cut ≤ 7 → (26 < m → cut ≤ 6) → bg < 26 → st ≤ 17 → LowZ z → z.length = 7 → BoxAt H1 b (n + 11) → But b H H1 → t { nx := fun _ H' => Q .non H', rt := Q } [some (.ref b), some (.int (m : Int)), some (.str abc), some (.int (way : Int)), some (.int (cut : Int)), some (.int (bg : Int)), some (.int (st : Int)), some (.str z), x8, none, none, none] H1 := by
      refine ⟨_, pss_cons (ps_set (i := 9) scNames.nd rfl (.inl rfl) (pe_lst pa_nil))
      (pss_cons (ps_for PassesOwn.never rfl (pi_range1 rfl mr (pa_cons (pv 1) pa_nil)) (pg_name (i := 8) scNames.nd rfl (.inl rfl))
        (pss_cons (ps_set (i := 10) scNames.nd rfl (.inl rfl) (pe_item_str (pv 2) (pe_op op_mod (pe_op op_add (pv 5) (pe_op op_mul (pv 6) (pv 8))) pe_int) (fun _ _ => rfl)))
        (pss_cons (ps_set (i := 11) scNames.nd rfl (.inl rfl) (pe_op op_add_str (pe_slice sl_str (pv 7) po_none (po_some (pv 4))) (pv 10)))
        (pss_cons (ps_if (PW.pt (pw_and (pt_cmpR op_eq (pv 3) pe_int (nomark _)) (pw_and1 (pt_cmpR op_lt (pv 1) pe_int (nomark _)))))
          (pss_one (ps_set (i := 11) scNames.nd rfl (.inl rfl) (pe_op op_add_str (pv 10) (pe_slice sl_str (pv 7) po_none (po_some (pe_op op_mod (pe_op op_add (pv 4) (pe_op op_mul pe_int (pv 8))) pe_int)))))) pss_nil)
        (pss_one (ps_expr (pe_bm PySem.F.plainAttrs_list PySem.F.slot_list_append PySem.F.type_list_append mt_append (pv 9) (pa_cons
          (pe_ifExp (pt_cmpR op_lt (pv 8) pe_int (nomark _)) (pv 11) (pe_op op_add_str (pv 11) (pe_item_str (pv 2) (pe_op op_fdiv (pv 8) pe_int) (fun _ _ => rfl)))) pa_nil))))))))
      (pss_one (ps_ret (pv 9)))), ?_⟩
      intro way cut bg st z x8 H1 hcut hcut2 hbg hst hz hl B1 k1
      refine ⟨Nat.zero_le _, fun D hD => ?_⟩
      have nD := box_ne B1 hD
      have fD := free_of k1 nD hD
      refine ⟨_, rfl, _, rfl, by omega, by omega, ?_⟩
      rw [Int.toNat_natCast m]
      refine for_range (lo := 0) (n := m) (fun i σ H2 => ∃ (zs : List Str) (x8 x10 x11 : Option V), σ = [some (.ref b), some (.int (m : Int)), some (.str abc), some (.int (way : Int)), some (.int (cut : Int)), some (.int (bg : Int)), some (.int (st : Int)), some (.str z), x8, some (.ref D), x10, x11] ∧
        H2 D = some (.lst (zs.map V.str)) ∧ zs.length = i ∧ (∀ y ∈ zs, NameZ y) ∧ BoxAt H2 b (n + 11) ∧ But b H H2) ?_ ?_ ?_
      · exact ⟨[], x8, none, none, rfl, upd_same, rfl, (fun y h => nomatch h), box_new B1 hD, but_upd k1 fD⟩
      · rintro i σ H2 hi ⟨zs, x8, x10, x11, rfl, e2, hlz, hy, B2, k2⟩
        have r := emod_in ((bg : Int) + (st : Int) * (0 + (i : Int))) 26 (by decide)
        obtain ⟨j, ej, hj⟩ := draw_at r.1 r.2 (n := 26) rfl
        obtain ⟨c, hc, c97⟩ := abc_at hj
        refine ⟨_, rfl, _, rfl, _, rfl, _, rfl, _, _, rfl, rfl, .inl ⟨by omega, by omega⟩, _, _, rfl, rfl, _, _, rfl, rfl, (by show (0 : Int) < 26; decide), _, _, c, rfl, rfl, r.1, by omega, (show _ < ((26 : Nat) : Int) by omega), (by rw [ej]; exact hc), ?_⟩
        have lo := low_one c97
        have len1 : (⟨#[c]⟩ : Str).length = 1 := rfl
        generalize (⟨#[c]⟩ : Str) = lt at lo len1
        have cl := cut_len z cut
        refine ⟨_, rfl, _, rfl, _, rfl, z, rfl, small_size (by omega), _, rfl, _, _, rfl, rfl, small_size (by omega), ?_⟩
        have Y0 : LowZ (cutS z none (some (cut : Int)) ++ lt) ∧ 1 ≤ (cutS z none (some (cut : Int)) ++ lt).length ∧ (cutS z none (some (cut : Int)) ++ lt).length ≤ 8 ∧ (26 ≤ i → (cutS z none (some (cut : Int)) ++ lt).length ≤ 7) := by
          rw [app_len]
          exact ⟨(hz.cut _ _).app lo, by omega, by omega, fun _ => by omega⟩
        have r8 := emod_in ((cut : Int) + 3 * (0 + (i : Int))) 8 (by decide)
        refine ⟨_, rfl, rfl, _, rfl, ite2 (fun _ => ?_) (fun _ => ?_)⟩
        · refine ⟨_, rfl, _, _, rfl, rfl, _, rfl, ite2 (fun h27 => ?_) (fun _ => ?_)⟩
          · have hm27 : (m : Int) < 27 := of_decide_eq_true h27
            obtain ⟨j8, ej8, hj8⟩ := draw_at r8.1 r8.2 (n := 8) rfl
            have cl8 := cut_len z j8
            refine ⟨_, rfl, _, rfl, _, rfl, _, rfl, _, _, rfl, rfl, .inl ⟨by decide, by decide⟩, _, _, rfl, rfl, _, _, rfl, rfl, (by show (0 : Int) < 8; decide), _, rfl, z, rfl, small_size (by omega), _, _, rfl, rfl, ?_, ?_⟩
            · rw [ej8, len1]
              exact small_size (by omega)
            have Y : NameI (lt ++ cutS z none (some (((cut : Int) + 3 * (0 + (i : Int))) % 8))) i := by
              unfold NameI
              rw [ej8, app_len]
              exact ⟨lo.app (hz.cut _ _), by omega, by omega, fun h => by omega⟩
            revert Y
            generalize (lt ++ cutS z none (some (((cut : Int) + 3 * (0 + (i : Int))) % 8))) = y
            intro Y
            obtain ⟨y1, y2, y3, y4⟩ := Y
            have done : ∀ (u : Str) (x8 x10 x11 : Option V), NameZ u → ∃ (zs' : List Str) (x8' x10' x11' : Option V), [some (V.ref b), some (.int (m : Int)), some (.str abc), some (.int (way : Int)), some (.int (cut : Int)), some (.int (bg : Int)), some (.int (st : Int)), some (.str z), x8, some (.ref D), x10, x11] = [some (.ref b), some (.int (m : Int)), some (.str abc), some (.int (way : Int)), some (.int (cut : Int)), some (.int (bg : Int)), some (.int (st : Int)), some (.str z), x8', some (.ref D), x10', x11'] ∧
                upd H2 D (.lst (zs.map V.str ++ [.str u])) D = some (.lst (zs'.map V.str)) ∧ zs'.length = i + 1 ∧ (∀ y ∈ zs', NameZ y) ∧ BoxAt (upd H2 D (.lst (zs.map V.str ++ [.str u]))) b (n + 11) ∧ But b H (upd H2 D (.lst (zs.map V.str ++ [.str u]))) := fun u x8 x10 x11 hu => by
              refine ⟨zs ++ [u], x8, x10, x11, rfl, ?_, ?_, fun v hv => ?_, box_upd B2 nD, but_upd k2 fD⟩
              · rw [upd_same, List.map_append]
                rfl
              · rw [List.length_append, hlz]
                rfl
              · rcases List.mem_append.mp hv with hv | hv
                · exact hy v hv
                · rw [List.mem_singleton.mp hv]
                  exact hu
            have room : (zs.map V.str).length < sizeLine := by
              rw [List.length_map]
              exact small1000 (by omega)
            refine ⟨_, rfl, .inl ⟨rfl, _, .of e2⟩, _, rfl, _, _, rfl, rfl, _, rfl, ite2 (fun h26 => ?_) (fun h26 => ?_)⟩
            · exact ⟨_, rfl, D, _, _, rfl, rfl, e2, room, done y _ _ _ ⟨y1, y2, y3⟩⟩
            · have h26' : ¬ ((0 + (i : Int)) < 26) := fun h => h26 (decide_eq_true h)
              have yl := y4 (by omega)
              have hd : (0 + (i : Int)) / 26 = ((i / 26 : Nat) : Int) := by omega
              obtain ⟨c2, hc2, c297⟩ := abc_at (j := i / 26) (by omega)
              refine ⟨_, rfl, _, rfl, _, rfl, _, _, rfl, rfl, ⟨by decide, by decide⟩, _, _, c2, rfl, rfl, by omega, by omega, (show _ < ((26 : Nat) : Int) by omega), (by rw [hd]; exact hc2), _, _, rfl, rfl, ?_, D, _, _, rfl, rfl, e2, room, ?_⟩
              · show y.length + 1 ≤ sizeLine
                exact small_size (by omega)
              · have l2 : (y ++ (⟨#[c2]⟩ : Str)).length = y.length + 1 := app_len y ⟨#[c2]⟩
                exact done (y ++ ⟨#[c2]⟩) _ _ _ ⟨y1.app (low_one c297), by omega, by omega⟩
          · have Y : NameI (cutS z none (some (cut : Int)) ++ lt) i := Y0
            revert Y
            generalize (cutS z none (some (cut : Int)) ++ lt) = y
            intro Y
            obtain ⟨y1, y2, y3, y4⟩ := Y
            have done : ∀ (u : Str) (x8 x10 x11 : Option V), NameZ u → ∃ (zs' : List Str) (x8' x10' x11' : Option V), [some (V.ref b), some (.int (m : Int)), some (.str abc), some (.int (way : Int)), some (.int (cut : Int)), some (.int (bg : Int)), some (.int (st : Int)), some (.str z), x8, some (.ref D), x10, x11] = [some (.ref b), some (.int (m : Int)), some (.str abc), some (.int (way : Int)), some (.int (cut : Int)), some (.int (bg : Int)), some (.int (st : Int)), some (.str z), x8', some (.ref D), x10', x11'] ∧
                upd H2 D (.lst (zs.map V.str ++ [.str u])) D = some (.lst (zs'.map V.str)) ∧ zs'.length = i + 1 ∧ (∀ y ∈ zs', NameZ y) ∧ BoxAt (upd H2 D (.lst (zs.map V.str ++ [.str u]))) b (n + 11) ∧ But b H (upd H2 D (.lst (zs.map V.str ++ [.str u]))) := fun u x8 x10 x11 hu => by
              refine ⟨zs ++ [u], x8, x10, x11, rfl, ?_, ?_, fun v hv => ?_, box_upd B2 nD, but_upd k2 fD⟩
              · rw [upd_same, List.map_append]
                rfl
              · rw [List.length_append, hlz]
                rfl
              · rcases List.mem_append.mp hv with hv | hv
                · exact hy v hv
                · rw [List.mem_singleton.mp hv]
                  exact hu
            have room : (zs.map V.str).length < sizeLine := by
              rw [List.length_map]
              exact small1000 (by omega)
            refine ⟨_, rfl, .inl ⟨rfl, _, .of e2⟩, _, rfl, _, _, rfl, rfl, _, rfl, ite2 (fun h26 => ?_) (fun h26 => ?_)⟩
            · exact ⟨_, rfl, D, _, _, rfl, rfl, e2, room, done y _ _ _ ⟨y1, y2, y3⟩⟩
            · have h26' : ¬ ((0 + (i : Int)) < 26) := fun h => h26 (decide_eq_true h)
              have yl := y4 (by omega)
              have hd : (0 + (i : Int)) / 26 = ((i / 26 : Nat) : Int) := by omega
              obtain ⟨c2, hc2, c297⟩ := abc_at (j := i / 26) (by omega)
              refine ⟨_, rfl, _, rfl, _, rfl, _, _, rfl, rfl, ⟨by decide, by decide⟩, _, _, c2, rfl, rfl, by omega, by omega, (show _ < ((26 : Nat) : Int) by omega), (by rw [hd]; exact hc2), _, _, rfl, rfl, ?_, D, _, _, rfl, rfl, e2, room, ?_⟩
              · show y.length + 1 ≤ sizeLine
                exact small_size (by omega)
              · have l2 : (y ++ (⟨#[c2]⟩ : Str)).length = y.length + 1 := app_len y ⟨#[c2]⟩
                exact done (y ++ ⟨#[c2]⟩) _ _ _ ⟨y1.app (low_one c297), by omega, by omega⟩
        · have Y : NameI (cutS z none (some (cut : Int)) ++ lt) i := Y0
          revert Y
          generalize (cutS z none (some (cut : Int)) ++ lt) = y
          intro Y
          obtain ⟨y1, y2, y3, y4⟩ := Y
          have done : ∀ (u : Str) (x8 x10 x11 : Option V), NameZ u → ∃ (zs' : List Str) (x8' x10' x11' : Option V), [some (V.ref b), some (.int (m : Int)), some (.str abc), some (.int (way : Int)), some (.int (cut : Int)), some (.int (bg : Int)), some (.int (st : Int)), some (.str z), x8, some (.ref D), x10, x11] = [some (.ref b), some (.int (m : Int)), some (.str abc), some (.int (way : Int)), some (.int (cut : Int)), some (.int (bg : Int)), some (.int (st : Int)), some (.str z), x8', some (.ref D), x10', x11'] ∧
              upd H2 D (.lst (zs.map V.str ++ [.str u])) D = some (.lst (zs'.map V.str)) ∧ zs'.length = i + 1 ∧ (∀ y ∈ zs', NameZ y) ∧ BoxAt (upd H2 D (.lst (zs.map V.str ++ [.str u]))) b (n + 11) ∧ But b H (upd H2 D (.lst (zs.map V.str ++ [.str u]))) := fun u x8 x10 x11 hu => by
            refine ⟨zs ++ [u], x8, x10, x11, rfl, ?_, ?_, fun v hv => ?_, box_upd B2 nD, but_upd k2 fD⟩
            · rw [upd_same, List.map_append]
              rfl
            · rw [List.length_append, hlz]
              rfl
            · rcases List.mem_append.mp hv with hv | hv
              · exact hy v hv
              · rw [List.mem_singleton.mp hv]
                exact hu
          have room : (zs.map V.str).length < sizeLine := by
            rw [List.length_map]
            exact small1000 (by omega)
          refine ⟨_, rfl, .inl ⟨rfl, _, .of e2⟩, _, rfl, _, _, rfl, rfl, _, rfl, ite2 (fun h26 => ?_) (fun h26 => ?_)⟩
          · exact ⟨_, rfl, D, _, _, rfl, rfl, e2, room, done y _ _ _ ⟨y1, y2, y3⟩⟩
          · have h26' : ¬ ((0 + (i : Int)) < 26) := fun h => h26 (decide_eq_true h)
            have yl := y4 (by omega)
            have hd : (0 + (i : Int)) / 26 = ((i / 26 : Nat) : Int) := by omega
            obtain ⟨c2, hc2, c297⟩ := abc_at (j := i / 26) (by omega)
            refine ⟨_, rfl, _, rfl, _, rfl, _, _, rfl, rfl, ⟨by decide, by decide⟩, _, _, c2, rfl, rfl, by omega, by omega, (show _ < ((26 : Nat) : Int) by omega), (by rw [hd]; exact hc2), _, _, rfl, rfl, ?_, D, _, _, rfl, rfl, e2, room, ?_⟩
            · show y.length + 1 ≤ sizeLine
              exact small_size (by omega)
            · have l2 : (y ++ (⟨#[c2]⟩ : Str)).length = y.length + 1 := app_len y ⟨#[c2]⟩
              exact done (y ++ ⟨#[c2]⟩) _ _ _ ⟨y1.app (low_one c297), by omega, by omega⟩
      · rintro σ H2 ⟨zs, x8, x10, x11, rfl, e2, hlz, hy, B2, k2⟩
        exact ⟨_, rfl, q D H2 zs hlz hy fD e2 (B2.mono (by omega)) k2⟩
    obtain ⟨tl, pl, ql⟩ : ∃ t, PSs (cxOf CX0 P w K mg base nNames "_law_names" (defScope sNames) f cdv A outer s H E).nox ((defBody sNames).drop 2) t ∧
        ∀ (way cut bg : Nat) (H1 : Hp), cut ≤ 7 → (26 < m → cut ≤ 6) → bg < 26 → BoxAt H1 b (n + 3) → But b H H1 → t { nx := fun _ H' => Q .non H', rt := Q } [some (.ref b), some (.int (m : Int)), some (.str abc), some (.int (way : Int)), some (.int (cut : Int)), some (.int (bg : Int)), none, none, none, none, none, none] H1 := by
      refine ⟨_, pss_cons (ps_asg (pe_tup (pa_cons (pe_ix ix_list (pe_lst (pa_cons pe_int (pa_cons pe_int (pa_cons pe_int (pa_cons pe_int (pa_cons pe_int (pa_cons pe_int (pa_cons pe_int (pa_cons pe_int pa_nil)))))))))
          (pe_call GT hr1 rfl gT T.kp bT .nil pass0 (pa_cons (pv 0) (pa_cons pe_int pa_nil))) (fun _ _ => rfl)) (pa_cons pe_str pa_nil)))
        (pg_tup (by rfl) (pgs_cons (pg_name (i := 6) scNames.nd rfl (.inl rfl)) (pgs_cons (pg_name (i := 7) scNames.nd rfl (.inr rfl)) pgs_nil))))
      (pss_cons (ps_for PassesOwn.never rfl (pi_range1 rfl mr (pa_cons pe_int pa_nil)) (pg_name (i := 8) scNames.nd rfl (.inl rfl))
        (pss_one (ps_set (i := 7) scNames.nd rfl (.inr rfl) (pe_op op_add_str (pv 7) (pe_item_str (pv 2) (pe_call GT hr1 rfl gT T.kp bT .nil pass0 (pa_cons (pv 0) (pa_cons pe_int pa_nil))) (fun _ _ => rfl))))))
      (pss_cons (ps_if (PW.pt (pw_and (pt_cmpR op_eq (pv 3) pe_int (nomark _)) (pw_and1 (pt_cmpR op_lt (pv 1) pe_int (nomark _)))))
        (pss_one (ps_ret (pe_call GM hr rfl gM M.kp bM .nil pass0 (pa_cons (pv 0) (pa_cons (pe_lc (own := [("_law_k", 8)]) (g := gName 8) (tt := tYes) (by rfl) scNames.nd (pi_range1 rfl mr (pa_cons (pv 1) pa_nil))
          (blkOk_by (own := [("_law_k", 8)]) (N := nNames) (sc := defScope sNames) (by decide +kernel)) (fun _ _ _ _ _ => pg_name (i := 8) scNames.nd rfl (.inl rfl)) (fun _ _ _ _ _ => pts_nil)
          (fun _ _ _ _ _ => pe_slice sl_str (pe_op op_add_str (pv 7) (pe_item_str (pv 2) (pv 5) (fun _ _ => rfl))) po_none (po_some (pe_op op_add (pv 8) pe_int)))) pa_nil))))) pss_nil)
      psl)), ?_⟩
      intro way cut bg H1 hcut hcut2 hbg B1 k1
      refine ⟨(by show 8 ≤ sizeLine; decide), fun p1 hp1 => ?_⟩
      have np1 := box_ne B1 hp1
      refine ⟨_, rfl, b, 8, n + 3, rfl, box_new B1 hp1, by omega, by decide, by decide, fun r H2 r0 r1 B2 k2 => ?_⟩
      obtain ⟨j, rfl, hj⟩ := draw_at (n := 8) r0 r1 rfl
      have e2 := k2 _ _ np1 upd_same
      have kk2 : But b H H2 := (k1.trans (But.new hp1)).trans k2
      obtain ⟨st, hst, hst17⟩ : ∃ st : Nat, ([.int 1, .int 3, .int 5, .int 7, .int 9, .int 11, .int 15, .int 17] : List V)[j]? = some (.int (st : Int)) ∧ st ≤ 17 := by
        match j, hj with
        | 0, _ => exact ⟨1, rfl, by decide⟩
        | 1, _ => exact ⟨3, rfl, by decide⟩
        | 2, _ => exact ⟨5, rfl, by decide⟩
        | 3, _ => exact ⟨7, rfl, by decide⟩
        | 4, _ => exact ⟨9, rfl, by decide⟩
        | 5, _ => exact ⟨11, rfl, by decide⟩
        | 6, _ => exact ⟨15, rfl, by decide⟩
        | 7, _ => exact ⟨17, rfl, by decide⟩
      refine ⟨p1, _, _, .int (st : Int), rfl, rfl, .of e2, atI_nat hst, (by show 2 ≤ sizeLine; decide), fun p2 hp2 => ?_⟩
      have np2 := box_ne B2 hp2
      refine ⟨p2, _, rfl, .of upd_same, rfl, _, _, rfl, _, _, rfl, rfl, ?_⟩
      have B3 : BoxAt (upd H2 p2 (.tup [.int (st : Int), .str ""])) b (n + 4) := box_new B2 hp2
      have k3 : But b H (upd H2 p2 (.tup [.int (st : Int), .str ""])) := kk2.trans (But.new hp2)
      generalize upd H2 p2 (.tup [.int (st : Int), .str ""]) = H3 at B3 k3
      -- the stem
      refine ⟨_, rfl, by decide, by decide, ?_⟩
      refine for_range (lo := 0) (n := 7) (fun i σ H4 => ∃ (z : Str) (x8 : Option V), σ = [some (.ref b), some (.int (m : Int)), some (.str abc), some (.int (way : Int)), some (.int (cut : Int)), some (.int (bg : Int)), some (.int (st : Int)), some (.str z), x8, none, none, none] ∧ LowZ z ∧ z.length = i ∧ BoxAt H4 b (n + 4 + i) ∧ But b H H4) ?_ ?_ ?_
      · exact ⟨"", none, rfl, (fun c h => nomatch h), rfl, B3, k3⟩
      · rintro i σ H4 hi ⟨z, x8, rfl, hz, hl, B4, k4⟩
        refine ⟨_, rfl, _, rfl, _, rfl, b, 26, n + 4 + i, rfl, B4, by omega, by decide, by decide, fun r H5 r0 r1 B5 k5 => ?_⟩
        obtain ⟨j, rfl, hj⟩ := draw_at (n := 26) r0 r1 rfl
        obtain ⟨c, hc, c97⟩ := abc_at hj
        refine ⟨_, _, c, rfl, rfl, by omega, by omega, (show ((j : Nat) : Int) < ((26 : Nat) : Int) by omega), hc, ?_⟩
        refine ⟨_, _, rfl, rfl, ?_, ?_⟩
        · show z.length + 1 ≤ sizeLine
          rw [sizeLine_eq]
          omega
        · refine ⟨z ++ ⟨#[c]⟩, _, rfl, hz.app (low_one c97), ?_, B5, k4.trans k5⟩
          rw [app_len, hl]
          rfl
      · rintro σ H4 ⟨z, x8, rfl, hz, hl, B4, k4⟩
        -- from here on two ways
        have namesOf : ∀ (zs : List Str) (qs : List Vd), qs.Perm (zs.map fun z => (V.str z, PyData.str z)) → (∀ z ∈ zs, NameZ z) →
            ∃ ys : List Str, qs.map (·.1) = ys.map V.str ∧ ys.length = zs.length ∧ ∀ y ∈ ys, NameZ y := fun zs qs pm hz => by
          have each : ∀ x ∈ qs, ∃ y, x = (V.str y, PyData.str y) ∧ NameZ y := fun x hx => by
            obtain ⟨y, hy, e⟩ := List.mem_map.mp (pm.mem_iff.mp hx)
            exact ⟨y, e.symm, hz y hy⟩
          have hlen : qs.length = zs.length := by
            rw [pm.length_eq, List.length_map]
          rw [← hlen]
          clear pm hlen
          induction qs with
          | nil => exact ⟨[], rfl, rfl, fun y hy => nomatch hy⟩
          | cons x qs ih =>
            obtain ⟨y, rfl, hy⟩ := each x List.mem_cons_self
            obtain ⟨ys, e1, e2, e3⟩ := ih fun x hx => each x (List.mem_cons_of_mem _ hx)
            refine ⟨y :: ys, ?_, congrArg (· + 1) e2, fun u hu => ?_⟩
            · rw [List.map_cons, e1]
              rfl
            · rcases List.mem_cons.mp hu with rfl | hu
              · exact hy
              · exact e3 u hu
        have mInt : (m : Int).toNat = m := Int.toNat_natCast m
        refine ⟨_, rfl, rfl, _, rfl, ite2 (fun _ => ?_) (fun _ => ?_)⟩
        · refine ⟨_, rfl, _, _, rfl, rfl, _, rfl, ite2 (fun h9 => ?_) (fun _ => ?_)⟩
          · have hm9 : (m : Int) < 9 := of_decide_eq_true h9
            refine ⟨_, rfl, _, rfl, _, rfl, by omega, by omega, fun D hD => ?_⟩
            have nD := box_ne B4 hD
            have fD := free_of k4 nD hD
            rw [mInt]
            refine lc_range (lo := 0) (n := m) (fun i H5 => ∃ ys : List Str, H5 D = some (.lst (ys.map V.str)) ∧ ys.length = i ∧ (∀ y ∈ ys, NameZ y) ∧ BoxAt H5 b (n + 11) ∧ But b H H5) ?_ ?_ ?_
            · exact ⟨[], upd_same, rfl, (fun y h => nomatch h), box_new B4 hD, but_upd k4 fD⟩
            · rintro i H5 hi ⟨ys, e5, hl5, hy, B5, k5⟩
              refine ⟨rfl, ?_⟩
              unfold tYes
              dsimp only
              rw [if_pos rfl]
              obtain ⟨c, hc, c97⟩ := abc_at hbg
              refine ⟨_, rfl, _, rfl, _, rfl, _, _, c, rfl, rfl, by omega, by omega, (show ((bg : Nat) : Int) < ((26 : Nat) : Int) by omega), hc, _, _, rfl, rfl, ?_, ?_⟩
              · show z.length + 1 ≤ sizeLine
                rw [sizeLine_eq]
                omega
              have lz : (z ++ ⟨#[c]⟩).length = 8 := by
                rw [app_len, hl]
                rfl
              refine ⟨_, rfl, _, _, rfl, rfl, _, rfl, _, rfl, small_size (by omega), ?_⟩
              have e0 : (0 + (i : Int) + 1 : Int) = ((i + 1 : Nat) : Int) := by omega
              rw [e0]
              have cl := cut_len (z ++ ⟨#[c]⟩) (i + 1)
              refine ⟨_, e5, ?_, ys ++ [cutS (z ++ ⟨#[c]⟩) none (some ((i + 1 : Nat) : Int))], ?_, ?_, ?_, ?_, ?_⟩
              · rw [List.length_map]
                exact small1000 (by omega)
              · rw [upd_same, List.map_append]
                rfl
              · rw [List.length_append, hl5]
                rfl
              · intro y h
                rcases List.mem_append.mp h with h | h
                · exact hy y h
                · rw [List.mem_singleton.mp h]
                  exact ⟨(hz.app (low_one c97)).cut _ _, by omega, by omega⟩
              · exact box_upd B5 nD
              · exact but_upd k5 fD
            · rintro H5 ⟨ys, e5, hl5, hy, B5, k5⟩
              refine ⟨b, D, n + 11, ys.map fun z => (V.str z, PyData.str z), rfl, B5, ?_, .inl (.of ?_), ?_, fun p H6 qs pm np e6 B6 k6 => ?_⟩
              · rw [List.length_map]
                omega
              · rw [e5, List.map_map]
                rfl
              · intro x hx
                obtain ⟨y, hyy, rfl⟩ := List.mem_map.mp hx
                exact ⟨(hy y hyy).1.lay, fun H' _ => .str y⟩
              · obtain ⟨us, u1, u2, u3⟩ := namesOf ys qs pm hy
                rw [u1] at e6
                rw [List.length_map, hl5] at B6
                exact q p H6 us (u2.trans hl5) u3 (free_of k5 (box_ne B5 np) np) e6 B6 (k5.trans k6)
          · exact qsl way cut bg st z x8 H4 hcut hcut2 hbg hst17 hz hl B4 k4
        · exact qsl way cut bg st z x8 H4 hcut hcut2 hbg hst17 hz hl B4 k4
    refine ⟨_, pss_cons (ps_set (i := 2) scNames.nd rfl (.inr rfl) pe_str)
      (pss_cons (ps_asg (pe_tup (pa_cons (pe_call GT hr1 rfl gT T.kp bT .nil pass0 (pa_cons (pv 0) (pa_cons pe_int pa_nil)))
          (pa_cons (pe_call GT hr1 rfl gT T.kp bT .nil pass0 (pa_cons (pv 0) (pa_cons (pe_ifExp (pt_cmpR op_lt (pv 1) pe_int (nomark _)) pe_int pe_int) pa_nil)))
          (pa_cons (pe_call GT hr1 rfl gT T.kp bT .nil pass0 (pa_cons (pv 0) (pa_cons pe_int pa_nil))) pa_nil))))
        (pg_tup (by rfl) (pgs_cons (pg_name (i := 3) scNames.nd rfl (.inl rfl)) (pgs_cons (pg_name (i := 4) scNames.nd rfl (.inl rfl)) (pgs_cons (pg_name (i := 5) scNames.nd rfl (.inr rfl)) pgs_nil))))) pl), ?_⟩
    refine ⟨_, rfl, b, 4, n, rfl, B, by omega, by decide, by decide, fun way H1 w0 w1 B1 k1 => ?_⟩
    obtain ⟨way, rfl, _⟩ := draw_at (n := 4) w0 w1 rfl
    refine ⟨_, rfl, _, rfl, _, _, rfl, rfl, _, rfl, ite2 (fun hm27 => ?_) (fun hm27 => ?_)⟩
    · refine ⟨b, 8, n + 1, rfl, B1, by omega, by decide, by decide, fun cut H2 c0 c1 B2 k2 => ?_⟩
      obtain ⟨cut, rfl, hcut⟩ := draw_at (n := 8) c0 c1 rfl
      refine ⟨_, rfl, b, 26, n + 2, rfl, B2, by omega, by decide, by decide, fun bg H3 g0 g1 B3 k3 => ?_⟩
      obtain ⟨bg, rfl, hbg⟩ := draw_at (n := 26) g0 g1 rfl
      refine ⟨(by show 3 ≤ sizeLine; decide), fun p hp => ⟨p, _, rfl, .of upd_same, rfl, _, _, rfl, _, _, rfl, _, _, rfl, rfl, ?_⟩⟩
      have hm' : (m : Int) < 27 := of_decide_eq_true hm27
      exact ql way cut bg _ (by omega) (by omega) hbg (box_new B3 hp) (((k1.trans k2).trans k3).trans (But.new hp))
    · refine ⟨b, 7, n + 1, rfl, B1, by omega, by decide, by decide, fun cut H2 c0 c1 B2 k2 => ?_⟩
      obtain ⟨cut, rfl, hcut⟩ := draw_at (n := 7) c0 c1 rfl
      refine ⟨_, rfl, b, 26, n + 2, rfl, B2, by omega, by decide, by decide, fun bg H3 g0 g1 B3 k3 => ?_⟩
      obtain ⟨bg, rfl, hbg⟩ := draw_at (n := 26) g0 g1 rfl
      refine ⟨(by show 3 ≤ sizeLine; decide), fun p hp => ⟨p, _, rfl, .of upd_same, rfl, _, _, rfl, _, _, rfl, _, _, rfl, rfl, ?_⟩⟩
      exact ql way cut bg _ (by omega) (by omega) hbg (box_new B3 hp) (((k1.trans k2).trans k3).trans (But.new hp))
end
end G
set_option Elab.async false
set_option linter.all false
set_option maxRecDepth 100000
set_option maxHeartbeats 2000000
/-! V5: the values of some fields. -/
namespace G
open PySem PySem.Spec PyProof.Rows L2
/-- some of the fields, each with a number -/
def ValN (zs : List Str) (kvs : List (Key × V)) : Prop := ∀ p ∈ kvs, ∃ z i, p = (Sum.inr z, V.int i) ∧ z ∈ zs ∧ -999 ≤ i ∧ i ≤ 999
/-- an order of texts is made of these texts -/
theorem texts_of : ∀ {zs : List Str} {qs : List Vd}, qs.Perm (zs.map fun z => (V.str z, PyData.str z)) → ∃ ys : List Str, qs.map (·.1) = ys.map V.str ∧ ys.length = zs.length ∧ ∀ y ∈ ys, y ∈ zs := by
  intro zs qs pm
  have each : ∀ x ∈ qs, ∃ y, x = (V.str y, PyData.str y) ∧ y ∈ zs := fun x hx => by
    obtain ⟨y, hy, e⟩ := List.mem_map.mp (pm.mem_iff.mp hx)
    exact ⟨y, e.symm, hy⟩
  have hlen : qs.length = zs.length := by
    rw [pm.length_eq, List.length_map]
  rw [← hlen]
  clear pm hlen
  induction qs with
  | nil => exact ⟨[], rfl, rfl, fun y hy => nomatch hy⟩
  | cons x qs ih =>
    obtain ⟨y, rfl, hy⟩ := each x List.mem_cons_self
    obtain ⟨ys, e1, e2, e3⟩ := ih fun x hx => each x (List.mem_cons_of_mem _ hx)
    refine ⟨y :: ys, ?_, congrArg (· + 1) e2, fun u hu => ?_⟩
    · rw [List.map_cons, e1]
      rfl
    · rcases List.mem_cons.mp hu with rfl | hu
      · exact hy
      · exact e3 u hu
theorem mem_putK {kvs : List (Key × V)} {k : Key} {v : V} {p : Key × V} (h : p ∈ putK kvs k v) : p = (k, v) ∨ p ∈ kvs := by
  unfold putK at h
  split at h
  · obtain ⟨q, hq, e⟩ := List.mem_map.mp h
    by_cases z : q.1 = k
    · rw [if_pos z] at e
      left
      rw [← e, z]
    · rw [if_neg z] at e
      right
      rw [← e]
      exact hq
  · rcases List.mem_append.mp h with h | h
    · exact .inr h
    · exact .inl (List.mem_singleton.mp h)
theorem putK_pos (kvs : List (Key × V)) (k : Key) (v : V) : 1 ≤ (putK kvs k v).length := by
  unfold putK
  split
  · rename_i h
    obtain ⟨x, hx, _⟩ := List.any_eq_true.mp h
    rw [List.length_map]
    exact List.length_pos_of_mem hx
  · rw [List.length_append]
    exact Nat.le_add_left 1 _
theorem ValN.put {zs : List Str} {kvs : List (Key × V)} (h : ValN zs kvs) {z : Str} {i : Int} (hz : z ∈ zs) (h1 : -999 ≤ i) (h2 : i ≤ 999) : ValN zs (putK kvs (Sum.inr z) (.int i)) := fun p hp => by
  rcases mem_putK hp with e | hp
  · exact ⟨z, i, e, hz, h1, h2⟩
  · exact h p hp
theorem cutV_first (xs : List V) (k : Nat) (h : k ≤ xs.length) : cutV xs none (some (k : Int)) = xs.take k := by
  unfold cutV
  rw [HT.sIx_none, HT.sIx_nat, List.drop_zero, Nat.min_eq_left h, Nat.sub_zero]
end G
set_option Elab.async false
set_option linter.all false
set_option maxRecDepth 100000
set_option maxHeartbeats 2000000
/-! P0: isinstance by the kind of a thing. -/
namespace G
open PySem PySem.Spec PyProof.Rows L2
def isI : PyData → Bool
  | .int _ => true
  | .bool _ => true
  | _ => false
def isB : PyData → Bool
  | .bool _ => true
  | _ => false
def isTup : PyData → Bool
  | .tuple _ => true
  | _ => false
def isLst : PyData → Bool
  | .list _ => true
  | _ => false
def isDic : PyData → Bool
  | .dict _ => true
  | _ => false
theorem kit_i {K : PySem.W.Frag} : ∀ d : PyData, PySem.W.kitOne K (.type (tyN d)) (.type "int") = some (isI d)
  | .none => kit_ty (a := "NoneType") (b := "int") (r := false) (by decide +kernel)
  | .bool _ => kit_ty (a := "bool") (b := "int") (r := true) (by decide +kernel)
  | .int _ => kit_ty (a := "int") (b := "int") (r := true) (by decide +kernel)
  | .str _ => kit_ty (a := "str") (b := "int") (r := false) (by decide +kernel)
  | .list _ => kit_ty (a := "list") (b := "int") (r := false) (by decide +kernel)
  | .tuple _ => kit_ty (a := "tuple") (b := "int") (r := false) (by decide +kernel)
  | .dict _ => kit_ty (a := "dict") (b := "int") (r := false) (by decide +kernel)
theorem kit_b {K : PySem.W.Frag} : ∀ d : PyData, PySem.W.kitOne K (.type (tyN d)) (.type "bool") = some (isB d)
  | .none => kit_ty (a := "NoneType") (b := "bool") (r := false) (by decide +kernel)
  | .bool _ => kit_ty (a := "bool") (b := "bool") (r := true) (by decide +kernel)
  | .int _ => kit_ty (a := "int") (b := "bool") (r := false) (by decide +kernel)
  | .str _ => kit_ty (a := "str") (b := "bool") (r := false) (by decide +kernel)
  | .list _ => kit_ty (a := "list") (b := "bool") (r := false) (by decide +kernel)
  | .tuple _ => kit_ty (a := "tuple") (b := "bool") (r := false) (by decide +kernel)
  | .dict _ => kit_ty (a := "dict") (b := "bool") (r := false) (by decide +kernel)
theorem kit_t {K : PySem.W.Frag} : ∀ d : PyData, PySem.W.kitOne K (.type (tyN d)) (.type "tuple") = some (isTup d)
  | .none => kit_ty (a := "NoneType") (b := "tuple") (r := false) (by decide +kernel)
  | .bool _ => kit_ty (a := "bool") (b := "tuple") (r := false) (by decide +kernel)
  | .int _ => kit_ty (a := "int") (b := "tuple") (r := false) (by decide +kernel)
  | .str _ => kit_ty (a := "str") (b := "tuple") (r := false) (by decide +kernel)
  | .list _ => kit_ty (a := "list") (b := "tuple") (r := false) (by decide +kernel)
  | .tuple _ => kit_ty (a := "tuple") (b := "tuple") (r := true) (by decide +kernel)
  | .dict _ => kit_ty (a := "dict") (b := "tuple") (r := false) (by decide +kernel)
theorem kit_l {K : PySem.W.Frag} : ∀ d : PyData, PySem.W.kitOne K (.type (tyN d)) (.type "list") = some (isLst d)
  | .none => kit_ty (a := "NoneType") (b := "list") (r := false) (by decide +kernel)
  | .bool _ => kit_ty (a := "bool") (b := "list") (r := false) (by decide +kernel)
  | .int _ => kit_ty (a := "int") (b := "list") (r := false) (by decide +kernel)
  | .str _ => kit_ty (a := "str") (b := "list") (r := false) (by decide +kernel)
  | .list _ => kit_ty (a := "list") (b := "list") (r := true) (by decide +kernel)
  | .tuple _ => kit_ty (a := "tuple") (b := "list") (r := false) (by decide +kernel)
  | .dict _ => kit_ty (a := "dict") (b := "list") (r := false) (by decide +kernel)
theorem kit_d {K : PySem.W.Frag} : ∀ d : PyData, PySem.W.kitOne K (.type (tyN d)) (.type "dict") = some (isDic d)
  | .none => kit_ty (a := "NoneType") (b := "dict") (r := false) (by decide +kernel)
  | .bool _ => kit_ty (a := "bool") (b := "dict") (r := false) (by decide +kernel)
  | .int _ => kit_ty (a := "int") (b := "dict") (r := false) (by decide +kernel)
  | .str _ => kit_ty (a := "str") (b := "dict") (r := false) (by decide +kernel)
  | .list _ => kit_ty (a := "list") (b := "dict") (r := false) (by decide +kernel)
  | .tuple _ => kit_ty (a := "tuple") (b := "dict") (r := false) (by decide +kernel)
  | .dict _ => kit_ty (a := "dict") (b := "dict") (r := true) (by decide +kernel)
def isS : PyData → Bool
  | .str _ => true
  | _ => false
theorem kit_s {K : PySem.W.Frag} : ∀ d : PyData, PySem.W.kitOne K (.type (tyN d)) (.type "str") = some (isS d)
  | .none => kit_ty (a := "NoneType") (b := "str") (r := false) (by decide +kernel)
  | .bool _ => kit_ty (a := "bool") (b := "str") (r := false) (by decide +kernel)
  | .int _ => kit_ty (a := "int") (b := "str") (r := false) (by decide +kernel)
  | .str _ => kit_ty (a := "str") (b := "str") (r := true) (by decide +kernel)
  | .list _ => kit_ty (a := "list") (b := "str") (r := false) (by decide +kernel)
  | .tuple _ => kit_ty (a := "tuple") (b := "str") (r := false) (by decide +kernel)
  | .dict _ => kit_ty (a := "dict") (b := "str") (r := false) (by decide +kernel)
/-- isinstance(x, int), by name -/
theorem pt_isi {X : Cx} {y : Str} {py : Pos} {te : TE} {n : Str} {p q pos : Pos} (T : String) (he : PE X (.Name y py) te) (hg : Gl X "isinstance" := by rfl) (hm : X.mg "isinstance" = none) (gn : Gl X n := by rfl) (mn : X.mg n = none) (hv : bootBuiltins n = some (.type T) := by decide +kernel)
    (hn : n ≠ "__name__" := by decide) (hd : (n == ("__debug__" : Str)) = false := by decide) :
    PE X (.Call (.Name "isinstance" p) [.Name y py, .Name n q] [] pos) (tCB (rIsi X.K) (tCons te (tCons (tC (.ty T)) tNil))) :=
  pe_callB call_isi hg hm (by decide +kernel) (pa_cons he (pa_cons (pe_bltn gn mn hv rfl hn hd) pa_nil))

end G
set_option Elab.async false
set_option linter.all false
set_option maxRecDepth 100000
set_option maxHeartbeats 2000000
/-! W1: checks that pass. -/
namespace G
open PySem PySem.Spec PyProof.Rows L2 NdefX
abbrev sIsInt : Stmt := topS 16
abbrev sIsName : Stmt := topS 17
abbrev sNeedName : Stmt := topS 24
abbrev sIsValue : Stmt := topS 18
abbrev sNeedValue : Stmt := topS 25
abbrev sNeedRecord : Stmt := topS 26
theorem scIsInt : FnScope ["value", "low", "high"] ["value", "low", "high"] (defScope sIsInt) := ⟨rfl, rfl, rfl, by decide +kernel, rfl, by decide +kernel, by decide +kernel⟩
theorem scIsName : FnScope ["value", "letter"] ["value"] (defScope sIsName) := ⟨rfl, rfl, rfl, by decide +kernel, rfl, by decide +kernel, by decide +kernel⟩
theorem scNeedName : FnScope ["value"] ["value"] (defScope sNeedName) := ⟨rfl, rfl, rfl, by decide +kernel, rfl, by decide +kernel, by decide +kernel⟩
theorem scIsValue : FnScope ["value", "field"] ["value"] (defScope sIsValue) := ⟨rfl, rfl, rfl, by decide +kernel, rfl, by decide +kernel, by decide +kernel⟩
theorem scNeedValue : FnScope ["value"] ["value"] (defScope sNeedValue) := ⟨rfl, rfl, rfl, by decide +kernel, rfl, by decide +kernel, by decide +kernel⟩
theorem scNeedRecord : FnScope ["key", "value"] ["key", "value"] (defScope sNeedRecord) := ⟨rfl, rfl, rfl, by decide +kernel, rfl, by decide +kernel, by decide +kernel⟩
/-- a record's value, of some names -/
structure ValOk (zs : List Str) (kvs : List (Key × V)) : Prop where
  nm : ∀ z ∈ zs, NameZ z
  is : ValN zs kvs
  pos : 1 ≤ kvs.length
  six : kvs.length ≤ 6
theorem valV_of {zs : List Str} {kvs : List (Key × V)} (h : ValN zs kvs) {i : Nat} {k : Key} {v : V} (e : kvs[i]? = some (k, v)) : ∃ (z : Str) (n : Int), k = Sum.inr z ∧ z ∈ zs ∧ valV kvs k = some (.int n) ∧ -999 ≤ n ∧ n ≤ 999 := by
  have hm := List.mem_of_getElem? e
  obtain ⟨z, j, ez, hz, _, _⟩ := h _ hm
  obtain ⟨rfl, _⟩ := Prod.mk.inj ez
  cases q : valV kvs (Sum.inr z) with
  | none =>
    exfalso
    have h2 : (kvs.find? fun kv => decide (kv.1 = (Sum.inr z : Key))) = none := by
      have : Option.map (fun p : Key × V => p.2) (kvs.find? fun kv => decide (kv.1 = (Sum.inr z : Key))) = none := q
      exact Option.map_eq_none_iff.mp this
    have h3 := List.find?_eq_none.mp h2 _ hm
    exact h3 (decide_eq_true rfl)
  | some x =>
    have h2 : Option.map (fun p : Key × V => p.2) (kvs.find? fun kv => decide (kv.1 = (Sum.inr z : Key))) = some x := q
    obtain ⟨p, hp, rfl⟩ := Option.map_eq_some_iff.mp h2
    obtain ⟨z2, n, ep, _, n1, n2⟩ := h p (List.mem_of_find?_eq_some hp)
    rw [ep]
    exact ⟨z, n, rfl, hz, rfl, n1, n2⟩
def spIsInt : Sp := fun vs H Q _ => ∃ v lo hi : Int, vs = [.int v, .int lo, .int hi] ∧ Q (.bl (decide (lo ≤ v) && decide (v ≤ hi))) H
def spIsName : Sp := fun vs H Q _ => ∃ z : Str, vs = [.str z] ∧ NameZ z ∧ ∀ H', Same H H' → Q (.bl true) H'
def spNeedName : Sp := fun vs H Q _ => ∃ z : Str, vs = [.str z] ∧ NameZ z ∧ ∀ H', Same H H' → Q .non H'
def spIsValue : Sp := fun vs H Q _ => ∃ (d : Addr) (zs : List Str) (kvs : List (Key × V)), vs = [.ref d] ∧ H d = some (.dK kvs) ∧ ValOk zs kvs ∧ ∀ H', Same H H' → Q (.bl true) H'
def spNeedValue : Sp := fun vs H Q _ => ∃ (d : Addr) (zs : List Str) (kvs : List (Key × V)), vs = [.ref d] ∧ H d = some (.dK kvs) ∧ ValOk zs kvs ∧ ∀ H', Same H H' → Q .non H'
def spNeedRecord : Sp := fun vs H Q _ => ∃ (y : Str) (d : Addr) (zs : List Str) (kvs : List (Key × V)), vs = [.str y, .ref d] ∧ NameZ y ∧ H d = some (.dK kvs) ∧ ValOk zs kvs ∧ ∀ H', Same H H' → Q .non H'
section
variable {P : Program} {w : World} {K : PySem.W.Frag} {mg : Str → Option Value} {base : Heap}
theorem ok_isint {f : Addr} {fd : FuncData} (F : Fun K "is_integer" "is_integer" sIsInt f fd) (mi : mg "isinstance" = none) (mn : mg "int" = none) (mb : mg "bool" = none) : FnOk P w K mg base CX0 1 f fd ["value", "low", "high"] spIsInt := by
  refine F.ok scIsInt (fun vs H Q E h => ?_) (fun cdv A outer s H vs Q E hr h => ?_)
  · obtain ⟨v, lo, hi, rfl, _⟩ := h
    rfl
  · obtain ⟨v, lo, hi, rfl, q⟩ := h
    refine ⟨_, pss_cons (ps_if (PW.pt (pw_or (pt_not (pt_val (pt_isi "int" (pv 0) (hm := mi) (mn := mn)))) (pw_or1 (pt_val (pt_isi "bool" (pv 0) (hm := mi) (mn := mb)))))) (pss_one (ps_ret pe_bl)) pss_nil)
      (pss_one (ps_ret (pe_chain op_le op_le (pv 1) (pv 0) (pv 2)))), ?_⟩
    have hR : Rp K H (.int v) (.int v) := .int v
    refine ⟨_, rfl, _, _, _, _, _, rfl, .ty _, rp_ty hR, kit_i (.int v), _, rfl, iteF ?_⟩
    refine ⟨_, rfl, _, _, _, _, _, rfl, .ty _, rp_ty hR, kit_b (.int v), _, rfl, iteF ?_⟩
    refine ⟨_, rfl, _, rfl, _, _, rfl, rfl, _, rfl, ?_⟩
    cases e : decide (lo ≤ v) with
    | false =>
      refine iteF ?_
      rw [e] at q
      exact q
    | true =>
      refine iteT ?_
      rw [e] at q
      exact ⟨_, rfl, _, _, rfl, rfl, q⟩
theorem ok_isname {f : Addr} {fd : FuncData} {t1 t2 : Tok} (F : Fun K "is_name" "is_name" sIsName f fd) (gM : mg "MOST_LETTERS" = some (.int 8 t1)) (gL : mg "LETTERS" = some (.str abc t2)) (mi : mg "isinstance" = none) (ms : mg "str" = none) (ml : mg "len" = none) (ma : mg "all" = none) :
    FnOk P w K mg base CX0 1 f fd ["value"] spIsName := by
  refine F.ok scIsName (fun vs H Q E h => ?_) (fun cdv A outer s H vs Q E hr h => ?_)
  · obtain ⟨z, rfl, _⟩ := h
    rfl
  · obtain ⟨z, rfl, ⟨hz, h1, h8⟩, q⟩ := h
    refine ⟨_, pss_cons (ps_if (PW.pt (pw_or (pt_not (pt_val (pt_isi "str" (pv 0) (hm := mi) (mn := ms)))) (pw_or1 (pt_not (pt_chain op_le op_le pe_int (pe_callB call_len_str (by rfl) ml PySem.boot_len (pa_cons (pv 0) pa_nil)) (pe_glob (v := .int 8) rfl gM ⟨_, rfl⟩))))))
        (pss_one (ps_ret pe_bl)) pss_nil)
      (pss_one (ps_ret (pe_callB (cr_all rfl) (by rfl) ma (by decide +kernel) (pa_cons (pe_lc (own := [("letter", 1)]) (g := gName 1) (tt := tYes) (by rfl) scIsName.nd (pi_str (pv 0))
        (blkOk_by (own := [("letter", 1)]) (N := ["value", "letter"]) (sc := defScope sIsName) (by decide +kernel)) (fun _ _ _ _ _ => pg_name (i := 1) scIsName.nd rfl (.inl rfl)) (fun _ _ _ _ _ => pts_nil)
        (fun _ _ _ _ _ => pe_cmpR op_in_sign (pv 1) (pe_glob (v := .str abc) rfl gL ⟨_, rfl⟩) (by rfl))) pa_nil)))), ?_⟩
    have hR : Rp K H (.str z) (.str z) := .str z
    refine ⟨_, rfl, _, _, _, _, _, rfl, .ty _, rp_ty hR, kit_s (.str z), _, rfl, iteF ?_⟩
    refine ⟨_, rfl, z, rfl, small_size (by omega), _, _, rfl, rfl, _, rfl, ?_⟩
    rw [decide_eq_true (show (1 : Int) ≤ (z.length : Int) by omega)]
    refine iteT ⟨_, _, rfl, rfl, _, rfl, ?_⟩
    rw [decide_eq_true (show (z.length : Int) ≤ 8 by omega)]
    refine iteF ?_
    refine ⟨_, rfl, z, rfl, fun D hD => ?_⟩
    refine lc_it walk_str (fun i H2 => Same H H2 ∧ H2 D = some (.lst ((List.replicate i true).map V.bl))) ?_ ?_ ?_ ?_
    · exact ⟨Same.new hD, upd_same⟩
    · exact fun _ _ _ _ => trivial
    · rintro i x H2 H3 hi ⟨s2, e2⟩ ⟨rfl, c, hc, rfl⟩
      have hc2 : (cs z)[i]? = some c := by
        rw [← hc, ← Array.getElem?_toList]
      have hzs : z.cps.size = z.length := rfl
      have c97 := hz c (List.mem_of_getElem? hc2)
      refine ⟨rfl, ?_⟩
      unfold tYes
      dsimp only
      rw [if_pos rfl]
      refine ⟨_, rfl, c, _, rfl, rfl, _, e2, ?_, fun a o e => ?_, ?_⟩
      · rw [List.length_map, List.length_replicate]
        exact Nat.lt_of_lt_of_le hi (small_size (by omega))
      · rw [upd_ne (ne_of_none e hD)]
        exact s2 _ _ e
      · have hin : decide (c ∈ abc.cps.toList) = true := decide_eq_true (by
          have e : abc.cps.toList = (List.range 26).map (97 + ·) := by decide +kernel
          rw [e]
          exact List.mem_map.mpr ⟨c - 97, List.mem_range.mpr (by omega), by omega⟩)
        rw [upd_same, hin, List.replicate_succ', List.map_append]
        rfl
    · rintro H2 ⟨s2, e2⟩
      refine ⟨D, _, rfl, .of e2, ?_⟩
      have ha : (List.replicate z.cps.size true).all id = true := by
        rw [List.all_eq_true]
        intro x hx
        rw [(List.mem_replicate.mp hx).2]
        rfl
      rw [ha]
      exact q H2 s2
theorem ok_needname {f fI : Addr} {fd fdI : FuncData} (F : Fun K "need_name" "need_name" sNeedName f fd) (I : Fun K "is_name" "is_name" sIsName fI fdI) (bI : Binds K fdI ["value"] []) (gI : mg "is_name" = some (.ref fI))
    (GI : FnOk P w K mg base CX0 1 fI fdI ["value"] spIsName) : FnOk P w K mg base CX0 2 f fd ["value"] spNeedName := by
  refine F.ok scNeedName (fun vs H Q E h => ?_) (fun cdv A outer s H vs Q E hr h => ?_)
  · obtain ⟨z, rfl, _⟩ := h
    rfl
  · obtain ⟨z, rfl, hz, q⟩ := h
    refine ⟨_, pss_one (ps_if (pt_not (pt_val (pe_call GI hr rfl gI I.kp bI .nil pass0 (pa_cons (pv 0) pa_nil)))) (pss_one ps_never) pss_nil), ?_⟩
    exact ⟨_, rfl, z, rfl, hz, fun H' s' => ⟨_, rfl, iteF (q H' s')⟩⟩
theorem ok_isvalue {f fN fI : Addr} {fd fdN fdI : FuncData} {t1 t2 : Tok} (F : Fun K "is_value" "is_value" sIsValue f fd) (N : Fun K "is_name" "is_name" sIsName fN fdN) (bN : Binds K fdN ["value"] []) (gN : mg "is_name" = some (.ref fN))
    (GN : FnOk P w K mg base CX0 1 fN fdN ["value"] spIsName) (I : Fun K "is_integer" "is_integer" sIsInt fI fdI) (bI : Binds K fdI ["value", "low", "high"] []) (gI : mg "is_integer" = some (.ref fI)) (GI : FnOk P w K mg base CX0 1 fI fdI ["value", "low", "high"] spIsInt)
    (gM : mg "MOST_FIELDS" = some (.int 6 t1)) (gG : mg "GREATEST" = some (.int 999 t2)) (mi : mg "isinstance" = none) (md : mg "dict" = none) (ml : mg "len" = none) (ma : mg "all" = none) :
    FnOk P w K mg base CX0 2 f fd ["value"] spIsValue := by
  refine F.ok scIsValue (fun vs H Q E h => ?_) (fun cdv A outer s H vs Q E hr h => ?_)
  · obtain ⟨d, zs, kvs, rfl, _⟩ := h
    rfl
  · obtain ⟨d, zs, kvs, rfl, hd, hv, q⟩ := h
    have hu := hu_of hr
    refine ⟨_, pss_cons (ps_if (PW.pt (pw_or (pt_not (pt_val (pt_isi "dict" (pv 0) (hm := mi) (mn := md)))) (pw_or1 (pt_not (pt_chain op_le op_le pe_int (pe_callB call_lenD (by rfl) ml PySem.boot_len (pa_cons (pv 0) pa_nil)) (pe_glob (v := .int 6) rfl gM ⟨_, rfl⟩))))))
        (pss_one (ps_ret pe_bl)) pss_nil)
      (pss_one (ps_ret (pe_callB (cr_all rfl) (by rfl) ma (by decide +kernel) (pa_cons (pe_lock (pe_lc (own := [("field", 1)]) (g := gName 1) (tt := tYes) (by rfl) scIsValue.nd (pi_keys (pv 0))
        (blkOk_by (own := [("field", 1)]) (N := ["value", "field"]) (sc := defScope sIsValue) (by decide +kernel)) (fun _ _ _ _ _ => pg_name (i := 1) scIsValue.nd rfl (.inl rfl)) (fun _ _ _ _ _ => pts_nil)
        (fun _ _ _ _ _ => pe_and (pe_call GN hr rfl gN N.kp bN .nil pass0 (pa_cons (pv 1) pa_nil)) (pe_one (pe_call GI hr rfl gI I.kp bI .nil pass0 (pa_cons (pe_dget hu (pv 0) (pv 1) (fun _ _ => rfl))
          (pa_cons (pe_un un_neg (pe_glob (v := .int 999) rfl gG ⟨_, rfl⟩)) (pa_cons (pe_glob (v := .int 999) rfl gG ⟨_, rfl⟩) pa_nil)))))))) pa_nil)))), ?_⟩
    refine ⟨_, rfl, _, _, _, _, _, rfl, .ty _, .base (.dK hd), kit_ty (a := "dict") (b := "dict") (r := true) (by decide +kernel), _, rfl, iteF ?_⟩
    refine ⟨_, rfl, d, kvs, rfl, hd, ?_⟩
    have h1 := hv.pos
    have h6 := hv.six
    refine ⟨_, _, rfl, rfl, _, rfl, ?_⟩
    rw [decide_eq_true (show (1 : Int) ≤ (kvs.length : Int) by omega)]
    refine iteT ⟨_, _, rfl, rfl, _, rfl, ?_⟩
    rw [decide_eq_true (show (kvs.length : Int) ≤ 6 by omega)]
    refine iteF ?_
    refine ⟨d, _, hd, trivial, fun od => ?_⟩
    refine ⟨_, rfl, d, od, rfl, .inl ⟨kvs, upd_same, fun D hD => ?_⟩⟩
    have ndD : d ≠ D := fun z => by
      rw [← z, upd_same] at hD
      cases hD
    have fD : H D = none := (upd_ne ndD.symm).symm.trans hD
    refine lc_it walk_keys (fun i H2 => But d H H2 ∧ H2 d = some (.frz od (.dK kvs)) ∧ H2 D = some (.lst ((List.replicate i true).map V.bl))) ?_ ?_ ?_ ?_
    · exact ⟨but_upd But.upd fD, (upd_ne ndD).trans upd_same, upd_same⟩
    · exact fun _ _ _ h => h.2.1
    · rintro i x H2 H3 hi ⟨b2, d2, e2⟩ ⟨rfl, k, v, hk, rfl⟩
      obtain ⟨z, n, rfl, hz, hn, n1, n2⟩ := valV_of hv.is hk
      refine ⟨rfl, ?_⟩
      unfold tYes
      dsimp only
      rw [if_pos rfl]
      refine ⟨_, rfl, z, rfl, hv.nm z hz, fun H4 s4 => ⟨_, rfl, iteT ?_⟩⟩
      have d4 := s4 _ _ d2
      have e4 := s4 _ _ e2
      refine ⟨_, rfl, _, rfl, d, .int n, rfl, .inl ⟨kvs, Sum.inr z, .inr ⟨od, d4⟩, rfl, hn.symm⟩, _, rfl, n, -999, 999, rfl, ?_⟩
      rw [decide_eq_true n1, decide_eq_true n2]
      refine ⟨_, e4, ?_, ?_, ?_, ?_⟩
      · rw [List.length_map, List.length_replicate]
        exact small1000 (by omega)
      · exact but_upd (b2.trans (But.same s4)) fD
      · exact (upd_ne ndD).trans d4
      · rw [upd_same, List.replicate_succ', List.map_append]
        rfl
    · rintro H2 ⟨b2, d2, e2⟩
      refine ⟨d2, D, _, rfl, .of ((upd_ne ndD.symm).trans e2), ?_⟩
      have ha : (List.replicate kvs.length true).all id = true := by
        rw [List.all_eq_true]
        intro x hx
        rw [(List.mem_replicate.mp hx).2]
        rfl
      rw [ha]
      refine q _ fun c o e => ?_
      by_cases hc : c = d
      · rw [hc] at e ⊢
        rw [hd] at e
        rw [← e]
        exact upd_same
      · rw [upd_ne hc]
        exact b2 c o hc e
theorem ok_needvalue {f fI : Addr} {fd fdI : FuncData} (F : Fun K "need_value" "need_value" sNeedValue f fd) (I : Fun K "is_value" "is_value" sIsValue fI fdI) (bI : Binds K fdI ["value"] []) (gI : mg "is_value" = some (.ref fI))
    (GI : FnOk P w K mg base CX0 2 fI fdI ["value"] spIsValue) : FnOk P w K mg base CX0 3 f fd ["value"] spNeedValue := by
  refine F.ok scNeedValue (fun vs H Q E h => ?_) (fun cdv A outer s H vs Q E hr h => ?_)
  · obtain ⟨d, zs, kvs, rfl, _⟩ := h
    rfl
  · obtain ⟨d, zs, kvs, rfl, hd, hv, q⟩ := h
    refine ⟨_, pss_one (ps_if (pt_not (pt_val (pe_call GI hr rfl gI I.kp bI .nil pass0 (pa_cons (pv 0) pa_nil)))) (pss_one ps_never) pss_nil), ?_⟩
    exact ⟨_, rfl, d, zs, kvs, rfl, hd, hv, fun H' s' => ⟨_, rfl, iteF (q H' s')⟩⟩
theorem ok_needrecord {f fN fV : Addr} {fd fdN fdV : FuncData} (F : Fun K "need_record" "need_record" sNeedRecord f fd) (kN : PySem.W.keepIn K (.ref fN) = true) (bN : Binds K fdN ["value"] []) (gN : mg "need_name" = some (.ref fN)) (GN : FnOk P w K mg base CX0 2 fN fdN ["value"] spNeedName)
    (kV : PySem.W.keepIn K (.ref fV) = true) (bV : Binds K fdV ["value"] []) (gV : mg "need_value" = some (.ref fV)) (GV : FnOk P w K mg base CX0 3 fV fdV ["value"] spNeedValue) : FnOk P w K mg base CX0 4 f fd ["key", "value"] spNeedRecord := by
  refine F.ok scNeedRecord (fun vs H Q E h => ?_) (fun cdv A outer s H vs Q E hr h => ?_)
  · obtain ⟨y, d, zs, kvs, rfl, _⟩ := h
    rfl
  · obtain ⟨y, d, zs, kvs, rfl, hy, hd, hv, q⟩ := h
    refine ⟨_, pss_cons (ps_expr (pe_call GN (hr.mono (by decide)) rfl gN kN bN .nil pass0 (pa_cons (pv 0) pa_nil))) (pss_one (ps_expr (pe_call GV hr rfl gV kV bV .nil pass0 (pa_cons (pv 1) pa_nil)))), ?_⟩
    exact ⟨_, rfl, y, rfl, hy, fun H1 s1 => ⟨_, rfl, d, zs, kvs, rfl, s1 _ _ hd, hv, fun H2 s2 => q H2 (s1.trans s2)⟩⟩
end
end G
set_option Elab.async false
set_option linter.all false
set_option maxRecDepth 100000
set_option maxHeartbeats 2000000
/-! W2: fields with signs; what they answer. -/
namespace G
open PySem PySem.Spec PyProof.Rows L2 NdefX
theorem cs_inj {a b : Str} (h : cs a = cs b) : a = b := by
  obtain ⟨x⟩ := a
  obtain ⟨y⟩ := b
  have e : x = y := Array.toList_inj.mp h
  rw [e]
def cutSign (l : List Nat) : List Nat := if l.head? = some 45 then l.drop 1 else l
theorem cs_prefix (z : Str) : cs (Txt.removeprefix z "-") = cutSign (cs z) := by
  have hl := cs_len z
  rw [StrLaws.removeprefix_eq]
  unfold cutSign
  by_cases h : (cs z).head? = some 45
  · rw [if_pos h]
    obtain ⟨q, hq⟩ : ∃ q, cs z = 45 :: q := by
      cases hz : cs z with
      | nil =>
        rw [hz] at h
        cases h
      | cons x q =>
        rw [hz] at h
        exact ⟨q, by rw [Option.some.inj h]⟩
    have hA : StrLaws.At z ⟨#[45]⟩ z.length 0 := (StrLaws.subAt_one z 45 0).mpr (by rw [show z.cps.toList = 45 :: q from hq]; rfl)
    have e1 : (decide (0 + ("-" : Str).length ≤ z.length) && Builtin.Str.subAt z "-" 0) = true := by
      have e2 : Builtin.Str.subAt z "-" 0 = true := hA.2
      rw [e2, decide_eq_true (show 0 + ("-" : Str).length ≤ z.length from hA.1)]
      rfl
    rw [if_pos e1]
    show ((cs z).drop 1).take (z.length - 1) = (cs z).drop 1
    exact List.take_of_length_le (by rw [List.length_drop, hl]; exact Nat.le_refl _)
  · rw [if_neg h]
    rw [if_neg]
    intro e
    rw [Bool.and_eq_true, decide_eq_true_eq] at e
    have hA : StrLaws.At z ⟨#[45]⟩ z.length 0 := ⟨e.1, e.2⟩
    have := (StrLaws.subAt_one z 45 0).mp hA
    apply h
    rw [List.head?_eq_getElem?]
    exact this
/-- a field as it is passed: with a sign or without one, its name, its text -/
structure Fld where
  neg : Bool
  nm : Str
  tx : Str
def Fld.Ok (f : Fld) : Prop := NameZ f.nm ∧ cs f.tx = (if f.neg then [45] else []) ++ cs f.nm
theorem name_cons {y : Str} (h : NameZ y) : ∃ c l, cs y = c :: l ∧ 97 ≤ c ∧ c ≤ 122 := by
  obtain ⟨low, h1, _⟩ := h
  cases e : cs y with
  | nil =>
    have := cs_len y
    rw [e] at this
    simp at this
    omega
  | cons c l =>
    obtain ⟨a, b⟩ := low c (by rw [e]; exact List.mem_cons_self)
    exact ⟨c, l, rfl, a, b⟩
section
variable {f : Fld}
theorem Fld.Ok.len (h : f.Ok) : f.tx.length ≤ 9 := by
  have e := congrArg List.length h.2
  rw [cs_len, List.length_append, cs_len] at e
  have h8 := h.1.2.2
  have : (if f.neg then [45] else [] : List Nat).length ≤ 1 := by
    cases f.neg <;> decide
  omega
theorem Fld.Ok.bare (h : f.Ok) : Txt.removeprefix f.tx "-" = f.nm := by
  apply cs_inj
  rw [cs_prefix, h.2]
  obtain ⟨c, l, e, c1, c2⟩ := name_cons h.1
  rw [e]
  cases f.neg with
  | true => rfl
  | false =>
    show cutSign (c :: l) = c :: l
    unfold cutSign
    rw [if_neg (fun z => by have := Option.some.inj z; omega)]
theorem minus_goes (c : Nat) : ("-" : Str).cps.contains c = decide (c = 45) := by
  have e : ("-" : Str).cps = #[45] := by decide +kernel
  rw [e]
  by_cases h : c = 45
  · subst h
    decide +kernel
  · rw [decide_eq_false h]
    simp [h]
theorem Fld.Ok.strip (h : f.Ok) : Txt.lstripChars f.tx "-" = f.nm := by
  obtain ⟨c, l, e, c1, c2⟩ := name_cons h.1
  have hg : ("-" : Str).cps.contains c = false := by
    rw [minus_goes]
    exact decide_eq_false (by omega)
  have hlo : stripLo ("-" : Str).cps.contains true f.tx = (if f.neg then 1 else 0) := by
    show ((cs f.tx).takeWhile ("-" : Str).cps.contains).length = _
    rw [h.2, e]
    cases f.neg with
    | true =>
      show ((45 :: c :: l).takeWhile _).length = 1
      rw [List.takeWhile_cons_of_pos (by rw [minus_goes]; rfl), List.takeWhile_cons_of_neg (by rw [hg]; decide)]
      rfl
    | false =>
      show ((c :: l).takeWhile _).length = 0
      rw [List.takeWhile_cons_of_neg (by rw [hg]; decide)]
      rfl
  have hl := cs_len f.tx
  apply cs_inj
  unfold Txt.lstripChars Txt.stripBy stripSame
  rw [hlo]
  have e2 := h.2
  cases hn : f.neg with
  | true =>
    rw [hn] at hlo e2
    rw [if_neg (by simp)]
    unfold stripped
    rw [hlo]
    show (Builtin.Str.strSub f.tx 1 f.tx.length).cps.toList = _
    rw [StrLaws.strSub_toList]
    show ((cs f.tx).drop 1).take (f.tx.length - 1) = _
    rw [List.take_of_length_le (by rw [List.length_drop, hl]; exact Nat.le_refl _), e2]
    rfl
  | false =>
    rw [hn] at e2
    rw [if_pos (by show (decide _ && _) = true; simp [stripHi])]
    rw [e2]
    rfl
/-- the first sign -/
theorem Fld.Ok.first (h : f.Ok) : ∃ c, atI f.tx.cps.toList 0 = some c ∧ decide ((V.str ⟨#[c]⟩ : V) = V.str "-") = f.neg := by
  obtain ⟨c, l, e, c1, c2⟩ := name_cons h.1
  have e2 := h.2
  cases hn : f.neg with
  | true =>
    rw [hn] at e2
    exact ⟨45, atI_nat (j := 0) (by show (cs f.tx)[0]? = _; rw [e2]; rfl), by decide +kernel⟩
  | false =>
    rw [hn] at e2
    refine ⟨c, atI_nat (j := 0) (by show (cs f.tx)[0]? = _; rw [e2, e]; rfl), decide_eq_false fun z => ?_⟩
    have z1 := congrArg cs (V.str.inj z)
    have z2 : cs ("-" : Str) = [45] := by decide +kernel
    rw [z2] at z1
    have z3 : [c] = [45] := z1
    simp at z3
    omega
end
/-- the number of a field in a value -/
def numK (kvs : List (Key × V)) (y : Str) : Int := match valV kvs (Sum.inr y) with
  | some (.int n) => n
  | _ => -1000
def Fld.ans (f : Fld) (kvs : List (Key × V)) : Int := if f.neg then -(numK kvs f.nm) else numK kvs f.nm
theorem valN_get {zs : List Str} {kvs : List (Key × V)} (h : ValN zs kvs) (y : Str) : (valV kvs (Sum.inr y)).getD (.int (-1000)) = .int (numK kvs y) ∧ -1000 ≤ numK kvs y ∧ numK kvs y ≤ 999 := by
  unfold numK
  cases e : valV kvs (Sum.inr y) with
  | none => exact ⟨rfl, by decide, by decide⟩
  | some v =>
    have h2 : Option.map (fun p : Key × V => p.2) (kvs.find? fun kv => decide (kv.1 = (Sum.inr y : Key))) = some v := e
    obtain ⟨p, hp, rfl⟩ := Option.map_eq_some_iff.mp h2
    obtain ⟨z, n, ep, _, n1, n2⟩ := h p (List.mem_of_find?_eq_some hp)
    rw [ep]
    exact ⟨rfl, by show -1000 ≤ n; omega, n2⟩
theorem Fld.ans_bound (f : Fld) {zs : List Str} {kvs : List (Key × V)} (h : ValN zs kvs) : -1000 ≤ f.ans kvs ∧ f.ans kvs ≤ 1000 := by
  obtain ⟨_, h1, h2⟩ := valN_get h f.nm
  unfold Fld.ans
  split <;> omega
end G
set_option Elab.async false
set_option linter.all false
set_option maxRecDepth 100000
set_option maxHeartbeats 2000000
/-! W3: an order's defs. -/
namespace G
open PySem PySem.Spec PyProof.Rows L2 NdefX StX
abbrev sSigned : Stmt := topS 32
abbrev sNegative : Stmt := topS 33
abbrev sNumberFor : Stmt := topS 35
abbrev sBy (j : Nat) : Stmt := inClass (topS 30) j
abbrev nByI : List Str := ["self", "fields", "field"]
theorem scSigned : FnScope ["value"] ["value"] (defScope sSigned) := ⟨rfl, rfl, rfl, by decide +kernel, rfl, by decide +kernel, by decide +kernel⟩
theorem scNegative : FnScope ["field"] ["field"] (defScope sNegative) := ⟨rfl, rfl, rfl, by decide +kernel, rfl, by decide +kernel, by decide +kernel⟩
theorem scNumberFor : FnScope ["field", "value", "number"] ["field", "value"] (defScope sNumberFor) := ⟨rfl, rfl, rfl, by decide +kernel, rfl, by decide +kernel, by decide +kernel⟩
theorem scByI : FnScope nByI ([("self" : Str)] ++ [("fields" : Str)]) (defScope (sBy 0)) := ⟨rfl, rfl, rfl, by decide +kernel, rfl, by decide +kernel, by decide +kernel⟩
theorem scByF : FnScope ["self"] ["self"] (defScope (sBy 1)) := ⟨rfl, rfl, rfl, by decide +kernel, rfl, by decide +kernel, by decide +kernel⟩
theorem scByC : FnScope ["self", "key", "value"] ["self", "key", "value"] (defScope (sBy 2)) := ⟨rfl, rfl, rfl, by decide +kernel, rfl, by decide +kernel, by decide +kernel⟩
theorem scByA : FnScope ["self", "value", "field"] ["self", "value"] (defScope (sBy 3)) := ⟨rfl, rfl, rfl, by decide +kernel, rfl, by decide +kernel, by decide +kernel⟩
def spSigned : Sp := fun vs H Q _ => ∃ f : Fld, vs = [.str f.tx] ∧ f.Ok ∧ ∀ H', Same H H' → Q (.bl true) H'
def spNegative : Sp := fun vs H Q _ => ∃ f : Fld, vs = [.str f.tx] ∧ f.Ok ∧ Q (.bl f.neg) H
def spNumberFor : Sp := fun vs H Q _ => ∃ (f : Fld) (d : Addr) (zs : List Str) (kvs : List (Key × V)), vs = [.str f.tx, .ref d] ∧ f.Ok ∧ H d = some (.dK kvs) ∧ ValN zs kvs ∧ Q (.int (f.ans kvs)) H
/-- at a stands By(*fs), whose tuple is at t -/
def ByAt (C : Addr) (H : Hp) (a t : Addr) (fs : List Fld) : Prop := ∃ dx, H a = some (.ins C dx [("signed_fields", .ref t)]) ∧ H t = some (.tup (fs.map fun f => V.str f.tx))
theorem ByAt.same {C a t : Addr} {H H' : Hp} {fs : List Fld} (h : ByAt C H a t fs) (s : Same H H') : ByAt C H' a t fs := let ⟨dx, h1, h2⟩ := h; ⟨dx, s _ _ h1, s _ _ h2⟩
def spByI (C : Addr) : Sp := fun vs H Q _ => ∃ (a dx t : Addr) (fs : List Fld), vs = [.ref a, .ref t] ∧ H a = some (.ins C dx []) ∧ H t = some (.tup (fs.map fun f => V.str f.tx)) ∧ 1 ≤ fs.length ∧ fs.length ≤ 3 ∧ (∀ f ∈ fs, f.Ok) ∧
  ∀ H', Same H H' → Q .non (upd H' a (.ins C dx [("signed_fields", .ref t)]))
def spByF (C : Addr) : Sp := fun vs H Q _ => ∃ (a t : Addr) (fs : List Fld), vs = [.ref a] ∧ ByAt C H a t fs ∧ Q (.ref t) H
def spByA (C : Addr) : Sp := fun vs H Q _ => ∃ (a t d : Addr) (fs : List Fld) (zs : List Str) (kvs : List (Key × V)), vs = [.ref a, .ref d] ∧ ByAt C H a t fs ∧ fs.length ≤ 3 ∧ (∀ f ∈ fs, f.Ok) ∧ H d = some (.dK kvs) ∧ ValN zs kvs ∧
  ∀ (p : Addr) (H' : Hp), Same H H' → H p = none → H' p = some (.tup (fs.map fun f => V.int (f.ans kvs))) → Q (.ref p) H'
def spByC (C : Addr) : Sp := fun vs H Q _ => ∃ (a t d : Addr) (y : Str) (fs : List Fld) (zs : List Str) (kvs : List (Key × V)), vs = [.ref a, .str y, .ref d] ∧ ByAt C H a t fs ∧ fs.length ≤ 3 ∧ (∀ f ∈ fs, f.Ok) ∧ NameZ y ∧ H d = some (.dK kvs) ∧ ValOk zs kvs ∧
  ∀ (p : Addr) (H' : Hp), Same H H' → H p = none → H' p = some (.tup (fs.map fun f => V.int (f.ans kvs))) → Q (.ref p) H'
section
variable {P : Program} {w : World} {K : PySem.W.Frag} {mg : Str → Option Value} {base : Heap}
theorem ok_signed {f fN : Addr} {fd fdN : FuncData} (F : Fun K "is_signed_field" "is_signed_field" sSigned f fd) (N : Fun K "is_name" "is_name" sIsName fN fdN) (bN : Binds K fdN ["value"] []) (gN : mg "is_name" = some (.ref fN))
    (GN : FnOk P w K mg base CX0 1 fN fdN ["value"] spIsName) (mi : mg "isinstance" = none) (ms : mg "str" = none) : FnOk P w K mg base CX0 2 f fd ["value"] spSigned := by
  refine F.ok scSigned (fun vs H Q E h => ?_) (fun cdv A outer s H vs Q E hr h => ?_)
  · obtain ⟨z, rfl, _⟩ := h
    rfl
  · obtain ⟨z, rfl, hz, q⟩ := h
    refine ⟨_, pss_one (ps_ret (pe_and (pt_isi "str" (pv 0) (hm := mi) (mn := ms)) (pe_one (pe_call GN hr rfl gN N.kp bN .nil pass0 (pa_cons (pe_m1 PySem.F.slot_str_removeprefix PySem.F.type_str_removeprefix mt_removeprefix (pv 0) pe_str) pa_nil))))), ?_⟩
    refine ⟨_, rfl, _, _, _, _, _, rfl, .ty _, rp_ty (K := K) (.str z.tx), kit_s (.str z.tx), _, rfl, iteT ?_⟩
    have h9 := hz.len
    refine ⟨_, rfl, ⟨_, rfl⟩, z.tx, _, rfl, rfl, small_size (by omega), ?_⟩
    rw [hz.bare]
    exact ⟨z.nm, rfl, hz.1, q⟩
theorem ok_negative {f : Addr} {fd : FuncData} (F : Fun K "is_negative" "is_negative" sNegative f fd) : FnOk P w K mg base CX0 1 f fd ["field"] spNegative := by
  refine F.ok scNegative (fun vs H Q E h => ?_) (fun cdv A outer s H vs Q E hr h => ?_)
  · obtain ⟨z, rfl, _⟩ := h
    rfl
  · obtain ⟨z, rfl, hz, q⟩ := h
    refine ⟨_, pss_one (ps_ret (pe_cmpR op_eq (pe_ix ix_str (pv 0) pe_int (fun _ _ => rfl)) pe_str (nomark _))), ?_⟩
    have h9 := hz.len
    obtain ⟨c, e1, e2⟩ := hz.first
    refine ⟨_, rfl, z.tx, _, c, rfl, rfl, small_size (by omega), e1, rfl, ?_⟩
    rw [e2]
    exact q
theorem ok_numfor {f fN : Addr} {fd fdN : FuncData} {t1 : Tok} (F : Fun K "number_for" "number_for" sNumberFor f fd) (N : Fun K "is_negative" "is_negative" sNegative fN fdN) (bN : Binds K fdN ["field"] []) (gN : mg "is_negative" = some (.ref fN))
    (gM : mg "MISSING" = some (.int (-1000) t1)) : FnOk P w K mg base CX0 2 f fd ["field", "value"] spNumberFor := by
  have GN : FnOk P w K mg base CX0 1 fN fdN ["field"] spNegative := ok_negative N
  refine F.ok scNumberFor (fun vs H Q E h => ?_) (fun cdv A outer s H vs Q E hr h => ?_)
  · obtain ⟨z, d, zs, kvs, rfl, _⟩ := h
    rfl
  · obtain ⟨z, d, zs, kvs, rfl, hz, hd, hv, q⟩ := h
    have hu := hu_of hr
    refine ⟨_, pss_cons (ps_set (i := 2) scNumberFor.nd rfl (.inl rfl) (pe_dget2 hu (pv 1) (pe_m1 PySem.F.slot_str_removeprefix PySem.F.type_str_removeprefix mt_removeprefix (pv 0) pe_str) (pe_glob (v := .int (-1000)) rfl gM ⟨_, rfl⟩) ⟨rfl, rfl, rfl, rfl⟩))
      (pss_one (ps_ret (pe_ifExp (pt_val (pe_call GN hr rfl gN N.kp bN .nil pass0 (pa_cons (pv 0) pa_nil))) (pe_un un_neg (pv 2)) (pv 2)))), ?_⟩
    have h9 := hz.len
    refine ⟨_, rfl, d, rfl, .inl ⟨_, .inl hd⟩, _, rfl, ⟨_, rfl⟩, z.tx, _, rfl, rfl, small_size (by omega), ?_⟩
    rw [hz.bare]
    obtain ⟨n1, n2, n3⟩ := valN_get hv z.nm
    refine ⟨_, DGet.k (k := Sum.inr z.nm) hd, ?_⟩
    rw [n1]
    refine ⟨_, rfl, z, rfl, hz, _, rfl, ?_⟩
    unfold Fld.ans at q
    cases e : z.neg with
    | true =>
      rw [e] at q
      exact iteT ⟨_, rfl, _, rfl, q⟩
    | false =>
      rw [e] at q
      exact iteF ⟨_, rfl, q⟩
end
end G
set_option Elab.async false
set_option linter.all false
set_option maxRecDepth 100000
set_option maxHeartbeats 2000000
/-! W4: an order made and asked. -/
namespace G
open PySem PySem.Spec PyProof.Rows L2 NdefX StX
theorem Fld.Ok.lay {f : Fld} (h : f.Ok) : G.lay (.str f.tx) := by
  refine ⟨rfl, ?_, Nat.zero_le _⟩
  show f.tx.cps.all (· < 0x110000) = true
  rw [Array.all_eq_true]
  intro i hi
  have hm : f.tx.cps[i] ∈ cs f.tx := by simp [cs]
  rw [h.2] at hm
  rcases List.mem_append.mp hm with hm | hm
  · have : f.tx.cps[i] = 45 := by
      cases e : f.neg with
      | true =>
        rw [e] at hm
        exact List.mem_singleton.mp hm
      | false =>
        rw [e] at hm
        cases hm
    exact decide_eq_true (by omega)
  · have := h.1.1 _ hm
    exact decide_eq_true (by omega)
theorem dp_flds {K : PySem.W.Frag} {H : Hp} : ∀ fs : List Fld, DpAll K H (fs.map fun f => V.str f.tx) (fs.map fun f => PyData.str f.tx)
  | [] => .nil
  | f :: fs => .cons (.str f.tx) (dp_flds fs)
theorem sh_flds {fs : List Fld} (h : ∀ f ∈ fs, f.Ok) : SeqAt.shaped (.tuple (fs.map fun f => PyData.str f.tx)) = true := lay_list (ds := fs.map fun f : Fld => PyData.str f.tx) fun d hd => by
  obtain ⟨u, hu, rfl⟩ := List.mem_map.mp hd
  exact (h u hu).lay
section
variable {P : Program} {w : World} {K : PySem.W.Frag} {mg : Str → Option Value} {base : Heap}
abbrev spByR (C : Addr) : Sp := fun vs H Q E => ∃ ws rest, vs = ws ++ rest ∧ ws.length = ["self"].length ∧ rest.length ≤ sizeLine ∧ ∀ p, H p = Option.none → spByI C (ws ++ [V.ref p]) (upd H p (.tup rest)) Q E
theorem ok_byinit {f C fS : Addr} {fd fdS : FuncData} {t1 : Tok} (F : Fun K "__init__" "By.__init__" (sBy 0) f fd) (c : Cls K C) (n1 : NoAttr K C "signed_fields")
    (GS : FnOk P w K mg base CX0 2 fS fdS ["value"] spSigned) (gS : mg "is_signed_field" = some (.ref fS)) (kS : PySem.W.keepIn K (.ref fS) = true) (bS : Binds K fdS ["value"] []) (gM : mg "MOST_IN_ORDER" = some (.int 3 t1)) (ml : mg "len" = none) :
    FnR P w K mg base CX0 3 f (spByR C) := by
  obtain ⟨oc, od, kV, doc, pm, an, cdv, ct, osl, rfl, lk, hcd⟩ := F.ex
  refine fn_star (ps := ["self"]) (pv := "fields") (k := 2) lk hcd scByI cxUp_none (fun us rest hl => match us, rest, hl with | [_], [], _ => rfl | [_], _ :: _, _ => rfl) (fun A outer s H vs Q E hr h => ?_)
  suffices hh : ∃ t, PSs (cxOf CX0 P w K mg base nByI "By.__init__" (defScope (sBy 0)) f cdv A outer s H E).nox (defBody (sBy 0)) t ∧ t { nx := fun _ H' => Q .non H', rt := Q } (start nByI vs) H by
    obtain ⟨t, h1, h2⟩ := hh
    exact ⟨t, h1.nox, h2⟩
  obtain ⟨a, dx, t, fs, rfl, ha, ht, l1, l3, hz, q⟩ := h
  refine ⟨_, pss_cons (ps_if (pt_cmpR (op_eqD hr.units) (pv 1) (pe_tup pa_nil) (nomark _)) (pss_one ps_never) pss_nil)
    (pss_cons (ps_if (pt_cmpR op_gt (pe_callB call_len_seq (by rfl) ml PySem.boot_len (pa_cons (pv 1) pa_nil)) (pe_glob (v := .int 3) rfl gM ⟨_, rfl⟩) (nomark _)) (pss_one ps_never) pss_nil)
    (pss_cons (ps_for PassesOwn.never rfl (pi_tup (pv 1)) (pg_name (i := 2) scByI.nd rfl (.inl rfl)) (pss_one (ps_if (pt_not (pt_val (pe_call GS hr rfl gS kS bS .nil pass0 (pa_cons (pv 2) pa_nil)))) (pss_one ps_never) pss_nil)))
      (pss_one (ps_fld (pv 0) (pv 1) rfl)))), ?_⟩
  refine ⟨_, rfl, (by show 0 ≤ sizeLine; exact Nat.zero_le _), fun p hp => ?_⟩
  have s1 : Same H (upd H p (.tup [])) := Same.new hp
  refine ⟨.tuple (fs.map fun f => PyData.str f.tx), .tuple [], .tup (.of (s1 _ _ ht)) (dp_flds fs), .tup (.of upd_same) .nil, sh_flds hz, rfl, _, rfl, ?_⟩
  have en : PyData.eqv (.tuple (fs.map fun f => PyData.str f.tx)) (.tuple []) = false := by
    cases fs with
    | nil => cases l1
    | cons f r => simp [PyData.eqv, PyData.eqvAll]
  rw [en]
  refine iteF ?_
  generalize upd H p (.tup []) = H1 at s1 ⊢
  have ht1 := s1 _ _ ht
  refine ⟨_, rfl, t, _, rfl, .inr (.of ht1), _, _, rfl, rfl, _, rfl, ?_⟩
  rw [List.length_map, decide_eq_false (show ¬ ((fs.length : Int) > 3) by omega)]
  refine iteF ⟨_, rfl, t, rfl, ⟨_, .of ht1⟩, ?_⟩
  refine for_tup (xs := fs.map fun f => V.str f.tx) (fun i σ H2 => ∃ x2 : Option V, σ = [some (.ref a), some (.ref t), x2] ∧ Same H H2) ?_ ?_ ?_ ?_
  · exact ⟨none, rfl, s1⟩
  · rintro i σ H2 _ ⟨x2, rfl, s2⟩
    exact .of (s2 _ _ ht)
  · rintro i x σ H2 hx ⟨x2, rfl, s2⟩
    rw [List.getElem?_map] at hx
    obtain ⟨y, hy, rfl⟩ := Option.map_eq_some_iff.mp hx
    exact ⟨_, rfl, y, rfl, hz y (List.mem_of_getElem? hy), fun H3 s3 => ⟨_, rfl, iteF ⟨_, rfl, s2.trans s3⟩⟩⟩
  · rintro σ H2 ⟨x2, rfl, s2⟩
    exact ⟨_, rfl, _, rfl, a, C, dx, _, rfl, s2 _ _ ha, c, n1, (by show 0 < 1000; decide), q H2 s2⟩
theorem ok_byfields {f C : Addr} {fd : FuncData} (F : Fun K "fields" "By.fields" (sBy 1) f fd) (c : Cls K C) (n : NoAttr K C "signed_fields") : FnOk P w K mg base CX0 1 f fd ["self"] (spByF C) := by
  refine F.ok scByF (fun vs H Q E h => ?_) (fun cdv A outer s H vs Q E hr h => ?_)
  · obtain ⟨a, t, zs, rfl, _⟩ := h
    rfl
  · obtain ⟨a, t, zs, rfl, ⟨dx, ha, _⟩, q⟩ := h
    exact ⟨_, pss_one (ps_ret (pe_fld (pv 0) rfl)), _, rfl, a, C, dx, _, _, rfl, ha, c, n, rfl, q⟩
theorem ok_byans {f C fN : Addr} {fd fdN : FuncData} (F : Fun K "answer_for" "By.answer_for" (sBy 3) f fd) (c : Cls K C) (n : NoAttr K C "signed_fields")
    (GN : FnOk P w K mg base CX0 2 fN fdN ["field", "value"] spNumberFor) (gN : mg "number_for" = some (.ref fN)) (kN : PySem.W.keepIn K (.ref fN) = true) (bN : Binds K fdN ["field", "value"] []) (mT : mg "tuple" = none) :
    FnOk P w K mg base CX0 3 f fd ["self", "value"] (spByA C) := by
  refine F.ok scByA (fun vs H Q E h => ?_) (fun cdv A outer s H vs Q E hr h => ?_)
  · obtain ⟨a, t, d, fs, zs, kvs, rfl, _⟩ := h
    rfl
  · obtain ⟨a, t, d, fs, zs, kvs, rfl, ⟨dx, ha, ht⟩, l3, hz, hd, hv, q⟩ := h
    refine ⟨_, pss_one (ps_ret (pe_callTy call_tuple_of (by rfl) mT (by decide +kernel) (pa_cons (pe_lc (own := [("field", 2)]) (g := gName 2) (tt := tYes) (by rfl) scByA.nd (pi_tup (pe_fld (pv 0) rfl))
      (blkOk_by (own := [("field", 2)]) (N := ["self", "value", "field"]) (sc := defScope (sBy 3)) (by decide +kernel)) (fun _ _ _ _ _ => pg_name (i := 2) scByA.nd rfl (.inl rfl)) (fun _ _ _ _ _ => pts_nil)
      (fun _ _ _ _ _ => pe_call GN hr rfl gN kN bN .nil pass0 (pa_cons (pv 2) (pa_cons (pv 1) pa_nil)))) pa_nil))), ?_⟩
    refine ⟨_, rfl, a, C, dx, _, _, rfl, ha, c, n, rfl, t, rfl, ⟨_, .of ht⟩, fun D hD => ?_⟩
    refine lc_tup (xs := fs.map fun f => V.str f.tx) (fun i H2 => Same H H2 ∧ H2 D = some (.lst (((fs.take i).map fun f => f.ans kvs).map V.int))) ?_ ?_ ?_ ?_
    · exact ⟨Same.new hD, upd_same⟩
    · rintro i H2 _ ⟨s2, _⟩
      exact .of (s2 _ _ ht)
    · rintro i x H2 hx ⟨s2, eD⟩
      rw [List.getElem?_map] at hx
      obtain ⟨y, hy, rfl⟩ := Option.map_eq_some_iff.mp hx
      refine ⟨rfl, ?_⟩
      unfold tYes
      dsimp only
      rw [if_pos rfl]
      refine ⟨_, rfl, _, rfl, y, d, zs, kvs, rfl, hz y (List.mem_of_getElem? hy), s2 _ _ hd, hv, _, eD, ?_, ?_, ?_⟩
      · rw [List.length_map, List.length_map, List.length_take]
        exact small1000 (by omega)
      · exact fun c o e => (upd_ne (ne_of_none e hD)).trans (s2 _ _ e)
      · rw [upd_same, List.take_add_one, hy]
        simp
    · rintro H2 ⟨s2, eD⟩
      rw [List.length_map, List.take_length] at eD
      refine ⟨D, _, rfl, .inl ⟨.of eD, fun p hp => ?_⟩⟩
      have npD : p ≠ D := fun z => by
        rw [z, eD] at hp
        cases hp
      refine q p _ (s2.trans (Same.new hp)) (s2.free hp) ?_
      rw [upd_same, List.map_map]
      rfl
theorem ok_bycall {f C fR fA : Addr} {fd fdR fdA : FuncData} (F : Fun K "__call__" "By.__call__" (sBy 2) f fd) (c : Cls K C) (kR : PySem.W.keepIn K (.ref fR) = true) (bR : Binds K fdR ["key", "value"] []) (gR : mg "need_record" = some (.ref fR))
    (GR : FnOk P w K mg base CX0 4 fR fdR ["key", "value"] spNeedRecord) (hm : Meth K C "answer_for" fA) (bA : Binds K fdA ["self", "value"] []) (GA : FnOk P w K mg base CX0 3 fA fdA ["self", "value"] (spByA C)) :
    FnOk P w K mg base CX0 5 f fd ["self", "key", "value"] (spByC C) := by
  refine F.ok scByC (fun vs H Q E h => ?_) (fun cdv A outer s H vs Q E hr h => ?_)
  · obtain ⟨a, t, d, y, fs, zs, kvs, rfl, _⟩ := h
    rfl
  · obtain ⟨a, t, d, y, fs, zs, kvs, rfl, hb, l3, hz, hy, hd, hv, q⟩ := h
    refine ⟨_, pss_cons (ps_expr (pe_call GR hr rfl gR kR bR .nil pass0 (pa_cons (pv 1) (pa_cons (pv 2) pa_nil))))
      (pss_one (ps_ret (pe_meth (pv 0) c hm GA (hr.mono (by decide)) bA .nil pass0 (pa_cons (pv 2) pa_nil)))), ?_⟩
    refine ⟨_, rfl, _, rfl, y, d, zs, kvs, rfl, hy, hd, hv, fun H1 s1 => ?_⟩
    obtain ⟨dx, ha, ht⟩ := hb.same s1
    exact ⟨_, rfl, a, dx, _, rfl, ha, rfl, _, rfl, a, t, d, fs, zs, kvs, rfl, ⟨dx, ha, ht⟩, l3, hz, s1 _ _ hd, hv.is, fun p H2 s2 np e2 => q p H2 (s1.trans s2) (s1.free np) e2⟩
end
end G
set_option Elab.async false
set_option linter.all false
set_option maxRecDepth 100000
set_option maxHeartbeats 2000000
/-! W5: the law's fields, answers and orders. -/
namespace G
open PySem PySem.Spec PyProof.Rows L2 NdefX StX
theorem ifN {c : Bool} {A B : Prop} (e : c = false) (h : B) : if c = true then A else B := by
  rw [e]
  exact iteF h
theorem ifY {c : Bool} {A B : Prop} (e : c = true) (h : A) : if c = true then A else B := by
  rw [e]
  exact iteT h
abbrev sFields : Stmt := topS 46
abbrev sOrder : Stmt := topS 47
abbrev nFields : List Str := ["_law_box_here", "_law_names_here", "_law_most", "_law_found", "_law_k"]
theorem scFields : FnScope nFields ["_law_box_here", "_law_names_here", "_law_most"] (defScope sFields) := ⟨rfl, rfl, rfl, by decide +kernel, rfl, by decide +kernel, by decide +kernel⟩
theorem scOrder : FnScope ["_law_fields_here"] ["_law_fields_here"] (defScope sOrder) := ⟨rfl, rfl, rfl, by decide +kernel, rfl, by decide +kernel, by decide +kernel⟩
abbrev txs (fs : List Fld) : List V := fs.map fun f => V.str f.tx
def spFields : Sp := fun vs H Q _ => ∃ (b nl : Addr) (m n : Nat) (ns : List Str), vs = [.ref b, .ref nl, .int (m : Int)] ∧ 1 ≤ m ∧ m ≤ 3 ∧ BoxAt H b n ∧ n ≤ 80000 ∧ H nl = some (.lst (ns.map V.str)) ∧ 1 ≤ ns.length ∧ ns.length ≤ 100 ∧ (∀ y ∈ ns, NameZ y) ∧ nl ≠ b ∧
  ∀ (p : Addr) (H' : Hp) (fs : List Fld), H p = none → H' p = some (.tup (txs fs)) → 1 ≤ fs.length → fs.length ≤ m → (∀ f ∈ fs, f.Ok) → BoxAt H' b (n + 7) → But b H H' → Q (.ref p) H'
def spOrder (C : Addr) : Sp := fun vs H Q _ => ∃ (t : Addr) (fs : List Fld), vs = [.ref t] ∧ H t = some (.tup (txs fs)) ∧ 1 ≤ fs.length ∧ fs.length ≤ 3 ∧ (∀ f ∈ fs, f.Ok) ∧
  ∀ (a t2 : Addr) (H' : Hp), H a = none → H t2 = none → ByAt C H' a t2 fs → Same H H' → Q (.ref a) H'
theorem sign_of {j : Nat} {y : Str} (hy : NameZ y) (hj : j < 2) : ∃ f : Fld, f.Ok ∧ ∃ z : Str, ([V.str "", V.str "-"] : List V)[j]? = some (V.str z) ∧ z ++ y = f.tx ∧ z.length ≤ 1 := by
  match j, hj with
  | 0, _ => exact ⟨⟨false, y, ("" : Str) ++ y⟩, ⟨hy, by rw [cs_app]; rfl⟩, "", rfl, rfl, by decide⟩
  | 1, _ => exact ⟨⟨true, y, ("-" : Str) ++ y⟩, ⟨hy, by
      show cs (("-" : Str) ++ y) = _
      rw [cs_app]
      have e : cs ("-" : Str) = [45] := by decide +kernel
      rw [e]
      rfl⟩, "-", rfl, rfl, by decide⟩
section
variable {P : Program} {w : World} {K : PySem.W.Frag} {mg : Str → Option Value} {base : Heap}
theorem ok_fields {f fT : Addr} {fd fdT : FuncData} (F : Fun K "_law_fields" "_law_fields" sFields f fd) (T : Fun K "_law_take" "_law_take" sTake fT fdT) (bT : Binds K fdT ["_law_box_here", "_law_many"] []) (gT : mg "_law_take" = some (.ref fT))
    (mr : mg "range" = none) (ml : mg "len" = none) (mT : mg "tuple" = none) : FnOk P w K mg base CX0 2 f fd ["_law_box_here", "_law_names_here", "_law_most"] spFields := by
  have GT : FnOk P w K mg base CX0 1 fT fdT ["_law_box_here", "_law_many"] spTake := ok_take T
  refine F.ok scFields (fun vs H Q E h => ?_) (fun cdv A outer s H vs Q E hr h => ?_)
  · obtain ⟨b, nl, m, n, ns, rfl, _⟩ := h
    rfl
  · obtain ⟨b, nl, m, n, ns, rfl, m1, m3, B, hn, hnl, l1, l100, hz, nnb, q⟩ := h
    refine ⟨_, pss_cons (ps_set (i := 3) scFields.nd rfl (.inl rfl) (pe_lst pa_nil))
      (pss_cons (ps_for PassesOwn.never rfl (pi_range1 rfl mr (pa_cons (pe_op op_add pe_int (pe_call GT hr rfl gT T.kp bT .nil pass0 (pa_cons (pv 0) (pa_cons (pv 2) pa_nil)))) pa_nil)) (pg_name (i := 4) scFields.nd rfl (.inl rfl))
        (pss_one (ps_expr (pe_bm PySem.F.plainAttrs_list PySem.F.slot_list_append PySem.F.type_list_append mt_append (pv 3) (pa_cons
          (pe_op op_add_str (pe_ix ix_list (pe_lst (pa_cons pe_str (pa_cons pe_str pa_nil))) (pe_call GT hr rfl gT T.kp bT .nil pass0 (pa_cons (pv 0) (pa_cons pe_int pa_nil))) (fun _ _ => rfl))
            (pe_ix ix_list (pv 1) (pe_call GT hr rfl gT T.kp bT .nil pass0 (pa_cons (pv 0) (pa_cons (pe_callB call_len_seq (by rfl) ml PySem.boot_len (pa_cons (pv 1) pa_nil)) pa_nil))) (fun _ _ => rfl))) pa_nil)))))
      (pss_one (ps_ret (pe_callTy call_tuple_of (by rfl) mT (by decide +kernel) (pa_cons (pv 3) pa_nil))))), ?_⟩
    refine ⟨(by show 0 ≤ sizeLine; exact Nat.zero_le _), fun l hl => ?_⟩
    have nlb := box_ne B hl
    have nnl : nl ≠ l := ne_of_none hnl hl
    refine ⟨_, rfl, _, rfl, b, m, n, rfl, box_new B hl, by omega, by omega, (Int.lt_of_le_of_lt (show (m : Int) ≤ 3 by omega) (by decide)), fun r H1 r0 r1 B1 k1 => ?_⟩
    obtain ⟨j, rfl, hj⟩ := draw_at (n := m) r0 r1 rfl
    have el := k1 _ _ nlb upd_same
    have en := k1 _ _ nnb ((upd_ne nnl).trans hnl)
    refine ⟨_, _, rfl, rfl, 1 + (j : Int), rfl, by omega, by omega, ?_⟩
    have e1 : (1 + (j : Int) : Int).toNat = 1 + j := by omega
    rw [e1]
    refine for_range (lo := 0) (n := 1 + j) (fun i σ H2 => ∃ (fs : List Fld) (x4 : Option V), σ = [some (.ref b), some (.ref nl), some (.int (m : Int)), some (.ref l), x4] ∧ H2 l = some (.lst (txs fs)) ∧ fs.length = i ∧ (∀ f ∈ fs, f.Ok) ∧ H2 nl = some (.lst (ns.map V.str)) ∧ BoxAt H2 b (n + 1 + 2 * i) ∧ But b H H2) ?_ ?_ ?_
    · exact ⟨[], none, rfl, el, rfl, (fun f h => nomatch h), en, B1, (But.new hl).trans k1⟩
    · rintro i σ H2 hi ⟨fs, x4, rfl, el2, len2, ok2, en2, B2, k2⟩
      refine ⟨_, rfl, .inl ⟨rfl, _, .of el2⟩, (by show 2 ≤ sizeLine; exact small_size (by decide)), fun p hp => ?_⟩
      have npb := box_ne B2 hp
      have npl : l ≠ p := ne_of_none el2 hp
      have npn : nl ≠ p := ne_of_none en2 hp
      refine ⟨_, rfl, b, 2, n + 1 + 2 * i, rfl, box_new B2 hp, by omega, by decide, by decide, fun r2 H3 c0 c1 B3 k3 => ?_⟩
      obtain ⟨g, rfl, hg⟩ := draw_at (n := 2) c0 c1 rfl
      have ep3 := k3 _ _ npb upd_same
      have el3 := k3 _ _ nlb ((upd_ne npl).trans el2)
      have en3 := k3 _ _ nnb ((upd_ne npn).trans en2)
      have kk3 : But b H H3 := (k2.trans (But.new hp)).trans k3
      obtain ⟨z, ez⟩ : ∃ z : Str, ([V.str "", V.str "-"] : List V)[g]? = some (V.str z) := by
        match g, hg with
        | 0, _ => exact ⟨_, rfl⟩
        | 1, _ => exact ⟨_, rfl⟩
      refine ⟨p, _, _, .str z, rfl, rfl, .of ep3, atI_nat ez, _, rfl, _, rfl, _, rfl, nl, _, rfl, .inl (.of en3), b, _, n + 1 + 2 * i + 1, rfl, B3, by omega, ?_, ?_, fun r3 H4 d0 d1 B4 k4 => ?_⟩
      · rw [List.length_map]
        omega
      · rw [List.length_map]
        omega
      obtain ⟨h, rfl, hh⟩ := draw_at (n := ns.length) d0 d1 (by rw [List.length_map])
      have en4 := k4 _ _ nnb en3
      have el4 := k4 _ _ nlb el3
      obtain ⟨fl, okf, z2, ez2, etx, hz1⟩ := sign_of (hz _ (List.getElem_mem hh)) hg
      obtain rfl : z = z2 := by
        rw [ez] at ez2
        exact V.str.inj (Option.some.inj ez2)
      have h8 := (hz _ (List.getElem_mem hh)).2.2
      refine ⟨nl, _, _, .str ns[h], rfl, rfl, .of en4, atI_nat (by rw [List.getElem?_map, List.getElem?_eq_getElem hh] <;> rfl), _, _, rfl, rfl, small_size (by omega), ?_⟩
      rw [etx]
      refine ⟨l, _, _, rfl, rfl, el4, ?_, fs ++ [fl], _, rfl, ?_, ?_, ?_, (upd_ne nnl).trans en4, ?_, but_upd (kk3.trans k4) hl⟩
      · rw [List.length_map]
        exact small1000 (by omega)
      · rw [upd_same]
        show _ = some (HO.lst (List.map (fun f : Fld => V.str f.tx) (fs ++ [fl])))
        rw [List.map_append]
        rfl
      · rw [List.length_append, len2]
        rfl
      · intro f2 hf2
        rcases List.mem_append.mp hf2 with hf2 | hf2
        · exact ok2 f2 hf2
        · rw [List.mem_singleton.mp hf2]
          exact okf
      · exact (box_upd B4 nlb).mono (by omega)
    · rintro σ H2 ⟨fs, x4, rfl, el2, len2, ok2, en2, B2, k2⟩
      refine ⟨_, rfl, l, _, rfl, .inl ⟨.of el2, fun p hp => ?_⟩⟩
      have npb := box_ne B2 hp
      have fp := free_of k2 npb hp
      exact q p _ fs fp upd_same (by omega) (by omega) ok2 ((box_new B2 hp).mono (by omega)) (but_upd k2 fp)
/-- an order is made -/
theorem by_made {C : Addr} {H1 : Hp} {Q : VK} {E : XK} {fs : List Fld} (l1 : 1 ≤ fs.length) (l3 : fs.length ≤ 3) (hz : ∀ f ∈ fs, f.Ok) (q : ∀ (a t : Addr) (H' : Hp), H1 a = none → H1 t = none → ByAt C H' a t fs → Same H1 H' → Q (.ref a) H') :
    ∀ x dx, H1 x = Option.none → H1 dx = Option.none → dx ≠ x → spByR C (V.ref x :: txs fs) (upd (upd H1 dx (.own x)) x (.ins C dx [])) (fun v H2 => v = .non ∧ Q (.ref x) H2) E := by
  intro x dx hx hdx hne
  refine ⟨[V.ref x], txs fs, rfl, rfl, by rw [List.length_map]; exact small_size (by omega), fun p hp => ?_⟩
  have npx : p ≠ x := fun z => by
    rw [z, upd_same] at hp
    cases hp
  rw [upd_ne npx] at hp
  have npd : p ≠ dx := fun z => by
    rw [z, upd_same] at hp
    cases hp
  rw [upd_ne npd] at hp
  refine ⟨x, dx, p, fs, rfl, (upd_ne npx.symm).trans upd_same, upd_same, l1, l3, hz, fun H' s' => ⟨rfl, ?_⟩⟩
  refine q x p _ hx hp ⟨dx, upd_same, (upd_ne npx).trans (s' p _ upd_same)⟩ fun c o e => ?_
  have n1 := ne_of_none e hx
  rw [upd_ne n1]
  refine s' c o ?_
  rw [upd_ne (ne_of_none e hp), upd_ne n1, upd_ne (ne_of_none e hdx)]
  exact e
theorem ok_order {f C fI : Addr} {fd : FuncData} (F : Fun K "_law_order" "_law_order" sOrder f fd) (M : Mk K C fI) (G : FnR P w K mg base CX0 3 fI (spByR C)) (gC : mg "By" = some (.ref C)) (ml : mg "len" = none) :
    FnOk P w K mg base CX0 5 f fd ["_law_fields_here"] (spOrder C) := by
  refine F.ok scOrder (fun vs H Q E h => ?_) (fun cdv A outer s H vs Q E hr h => ?_)
  · obtain ⟨t, fs, rfl, _⟩ := h
    rfl
  · obtain ⟨t, fs, rfl, ht, l1, l3, hz, q⟩ := h
    refine ⟨_, pss_cons (ps_if (pt_cmpR op_eq (pe_callB call_len_seq (by rfl) ml PySem.boot_len (pa_cons (pv 0) pa_nil)) pe_int (nomark _)) (pss_one ps_never) pss_nil)
      (pss_cons (ps_if (pt_cmpR op_eq (pe_callB call_len_seq (by rfl) ml PySem.boot_len (pa_cons (pv 0) pa_nil)) pe_int (nomark _)) (pss_one (ps_ret (pe_makeR M G hr rfl gC pass0 (pa_cons (pe_ix ix_tup (pv 0) pe_int (fun _ _ => rfl)) pa_nil)))) pss_nil)
      (pss_cons (ps_if (pt_cmpR op_eq (pe_callB call_len_seq (by rfl) ml PySem.boot_len (pa_cons (pv 0) pa_nil)) pe_int (nomark _)) (pss_one (ps_ret (pe_makeR M G hr rfl gC pass0 (pa_cons (pe_ix ix_tup (pv 0) pe_int (fun _ _ => rfl)) (pa_cons (pe_ix ix_tup (pv 0) pe_int (fun _ _ => rfl)) pa_nil))))) pss_nil)
      (pss_cons (ps_if (pt_cmpR op_eq (pe_callB call_len_seq (by rfl) ml PySem.boot_len (pa_cons (pv 0) pa_nil)) pe_int (nomark _)) (pss_one (ps_ret (pe_makeR M G hr rfl gC pass0 (pa_cons (pe_ix ix_tup (pv 0) pe_int (fun _ _ => rfl)) (pa_cons (pe_ix ix_tup (pv 0) pe_int (fun _ _ => rfl)) (pa_cons (pe_ix ix_tup (pv 0) pe_int (fun _ _ => rfl)) pa_nil)))))) pss_nil)
      (pss_cons ps_never (pss_one ps_never))))), ?_⟩
    have mk := by_made (C := C) (H1 := H) (Q := Q) (E := E0) l1 l3 hz q
    have at_ : ∀ {i : Nat} {v : V}, (txs fs)[i]? = some v → atI (txs fs) (i : Int) = some v := fun e => atI_nat e
    match fs, l1, l3, ht, mk with
    | [f1], _, _, ht, mk =>
      refine ⟨_, rfl, t, _, rfl, .inr (.of ht), rfl, _, rfl, iteF ?_⟩
      refine ⟨_, rfl, t, _, rfl, .inr (.of ht), rfl, _, rfl, iteT ?_⟩
      exact ⟨_, rfl, t, _, ((0 : Nat) : Int), _, rfl, rfl, .of ht, atI_nat (j := 0) rfl, mk⟩
    | [f1, f2], _, _, ht, mk =>
      refine ⟨_, rfl, t, _, rfl, .inr (.of ht), rfl, _, rfl, iteF ?_⟩
      refine ⟨_, rfl, t, _, rfl, .inr (.of ht), rfl, _, rfl, iteF ?_⟩
      refine ⟨_, rfl, t, _, rfl, .inr (.of ht), rfl, _, rfl, iteT ?_⟩
      exact ⟨_, rfl, t, _, ((0 : Nat) : Int), _, rfl, rfl, .of ht, atI_nat (j := 0) rfl, _, rfl, t, _, ((1 : Nat) : Int), _, rfl, rfl, .of ht, atI_nat (j := 1) rfl, mk⟩
    | [f1, f2, f3], _, _, ht, mk =>
      refine ⟨_, rfl, t, _, rfl, .inr (.of ht), rfl, _, rfl, iteF ?_⟩
      refine ⟨_, rfl, t, _, rfl, .inr (.of ht), rfl, _, rfl, iteF ?_⟩
      refine ⟨_, rfl, t, _, rfl, .inr (.of ht), rfl, _, rfl, iteF ?_⟩
      refine ⟨_, rfl, t, _, rfl, .inr (.of ht), rfl, _, rfl, iteT ?_⟩
      exact ⟨_, rfl, t, _, ((0 : Nat) : Int), _, rfl, rfl, .of ht, atI_nat (j := 0) rfl, _, rfl, t, _, ((1 : Nat) : Int), _, rfl, rfl, .of ht, atI_nat (j := 1) rfl, _, rfl, t, _, ((2 : Nat) : Int), _, rfl, rfl, .of ht, atI_nat (j := 2) rfl, mk⟩
end
end G
set_option Elab.async false
set_option linter.all false
set_option maxRecDepth 100000
set_option maxHeartbeats 4000000
/-! RX: static methods; own classes whose __init__ raises; own exceptions, context none. -/
namespace G
open PySem PySem.Spec PyProof.Rows L2 StX
/-- m of the class at C is a staticmethod (its record at p, its def at g) -/
structure SMet (K : PySem.W.Frag) (C : Addr) (m : Str) (p g : Addr) : Prop where
  cr : ClX.CRead K C (.type "type")
  here : PySem.W.findCls K (.ref C) (.type "type") m = some (.get (.builtin "staticmethod.__get__") (.ref p) .none (.ref C))
  inner : ∃ more, PySem.W.recIn K p "staticmethod" = some (.ref g :: more)
  kp : PySem.W.keepIn K (.ref g) = true
def tSMeth (C : Addr) (sp : Sp) (E : L2.St → XK) (ta : TE) (t : TA) : TE := fun σ H Q => ta σ H fun x H1 => x = .ref C ∧ t σ H1 fun vs H2 => sp vs H2 Q (E σ)
section
variable {X : Cx} {CX : CXT} {k : Nat} {f C p g : Addr} {fd : FuncData} {ps : List Str} {sp : Sp} {x m : Str} {o e : Expr} {es : List Expr} {pos apos q : Pos} {te ta : TE} {t : TA}
theorem pe_smeth {E : L2.St → XK} {pl : Sem Bool} (he : PE X o ta) (c : SMet X.K C m p g) (F : FnOk X.prog X.w X.K X.mg X.base CX k g fd ps sp) (hr : Room k X.A) (hb : Binds X.K fd ps []) (hx : ∀ σ, PassesAt CX X σ (E σ)) (ha : PA X (e :: es) t)
    (s1 : starEach (e :: es) X.env = (false, eval e X.env) :: starEach es X.env := by rfl) (s2 : (backTo pos (starEach es X.env)).any (·.1) = false := by rfl)
    (s3 : eval (.Call (.Attribute o m apos) (e :: es) [] pos) X.env = (do
      let thing ← eval o X.env
      standAt apos.atName
      let (fn, ahead) ← holding [thing] (getMethod thing m pl)
      callWith pos fn ahead (backTo pos (starEach (e :: es) X.env)) (backToKw pos (keywordEach [] X.env))) := by rfl) :
    PE X (.Call (.Attribute o m apos) (e :: es) [] pos) (tSMeth C sp E ta t) := by
  constructor
  intro pins s σ H Q I h
  obtain ⟨more, hrec⟩ := c.inner
  refine PySem.W.methodCall_KW (pl := pl) (thn (he.run pins s σ H _ I h) ?_) s3
  rintro u s' ⟨y, H1, I1, ry, rfl, h2⟩
  obtain rfl : u = Value.ref C := ry
  refine PySem.W.method_cls I1.kIn c.cr.ga (PySem.W.cls_bind I1.kIn c.cr.rd c.here (wpAny_call (PySem.W.sm_get (s := { s' with toks := s'.toks + 1 }) I1.kIn hrec (PySem.W.handed_on rfl ?_))))
  refine PySem.W.callWith_K (first := []) (h₀ := X.base) I.ok.mod.kin c.kp (thn (ha.run pos pins _ σ H1 _ (I1.tok _) h2) ?_) s1 s2
  rintro us s'' ⟨vs, H2, I2, r, h3⟩
  exact ⟨I2.kIn, run_fnS F hr hb (hx σ) I2 r h3⟩
/-! ### an instance made, its __init__ may raise -/
def outOf (C : Addr) (H : Hp) (vs : List V) (sp : Sp) (Q : VK) (E : XK) : Prop := ∀ a d, H a = none → H d = none → d ≠ a → sp (V.ref a :: vs) (upd (upd H d (.own a)) a (.ins C d [])) (fun v H2 => v = .non ∧ Q (.ref a) H2) E
theorem made_at {E : XK} {pins : List (Addr × Obj)} {σ : L2.St} {H : Hp} {s : Shared} {Q : VK} {us : List Value} {vs : List V} (M : Mk X.K C f) (F : FnR X.prog X.w X.K X.mg X.base CX k f sp) (hr : Room (k + 1) X.A) (hx : PassesAt CX X σ E)
    (I : Inv X pins σ H s) (r : Vals vs us) (h : outOf C H vs sp Q E) : wpAny (model X.prog X.w) X.A (call (.ref C) us) (EP X pins σ Q) X.xe s := by
  let a : Addr := s.heap.objs.size + 1
  have J := Inv.made (C := C) I
  have now := h a s.heap.objs.size (I.hok.fresh (Nat.le_succ _)) (I.hok.fresh (Nat.le_refl _)) (Nat.ne_of_lt (Nat.lt_succ_self _))
  have vv : Vals (V.ref a :: vs) (Value.ref a :: us) := .cons rfl r
  have ran := F _ X.stack _ _ (Value.ref a :: us) _ _ E (hr.make C us []) (J.env0.make C us []) vv now
  refine wpAny_call (make_map (f := f) I.kIn M.makes M.init (beq_iff_eq.mp M.fn) (codeAny_mono ran ?_))
  intro r s' hq
  match r, hq with
  | .error e, hq => exact hx pins _ _ e s' J hq
  | .ok (.ret u), hq =>
    obtain ⟨v, H', J3, rv, ev, done⟩ := J.after hq
    subst ev
    exact ⟨rv, V.ref a, H', J3, rfl, done⟩
  | .ok .next, hq => exact hq.elim
  | .ok .brk, hq => exact hq.elim
  | .ok .cont, hq => exact hq.elim
/-- C(e, ..) -/
theorem pe_makeX {E : L2.St → XK} (M : Mk X.K C f) (F : FnR X.prog X.w X.K X.mg X.base CX k f sp) (hr : Room (k + 1) X.A) (hg : Gl X x) (hm : X.mg x = some (.ref C)) (hx : ∀ σ, PassesAt CX X σ (E σ)) (ha : PA X (e :: es) t)
    (nd : (x == ("__debug__" : Str)) = false := by decide) (s1 : starEach (e :: es) X.env = (false, eval e X.env) :: starEach es X.env := by rfl) (s2 : (backTo pos (starEach es X.env)).any (·.1) = false := by rfl) :
    PE X (.Call (.Name x q) (e :: es) [] pos) (fun σ H Q => t σ H fun vs H1 => outOf C H1 vs sp Q (E σ)) := by
  constructor
  intro pins s σ H Q I h
  refine wpAny_Call_Name_kw (ld_glob I hg hm ?_ nd)
  refine PySem.W.callWith_K (h₀ := X.base) I.ok.mod.kin M.kp (thn (ha.run pos pins s σ H _ I h) ?_) s1 s2
  rintro us s' ⟨vs, H1, I1, r, h2⟩
  exact ⟨I1.kIn, made_at M F hr (hx σ) I1 r h2⟩
/-- C(*y) -/
theorem pe_makeSX {E : L2.St → XK} {sp_ : Pos} (M : Mk X.K C f) (F : FnR X.prog X.w X.K X.mg X.base CX k f sp) (hr : Room (k + 1) X.A) (hg : Gl X x) (hm : X.mg x = some (.ref C)) (hx : ∀ σ, PassesAt CX X σ (E σ)) (he : PE X e te)
    (nd : (x == ("__debug__" : Str)) = false := by decide) (s1 : starEach [.Starred e sp_] X.env = [(true, eval e X.env)] := by rfl) :
    PE X (.Call (.Name x q) [.Starred e sp_] [] pos) (fun σ H Q => te σ H fun y H1 => ∃ a xs, y = V.ref a ∧ (SqT X.K H1 a xs ∨ SqL X.K H1 a xs) ∧ outOf C H1 xs sp Q (E σ)) := by
  constructor
  intro pins s σ H Q I h
  refine wpAny_Call_Name_kw (ld_glob I hg hm ?_ nd)
  refine PySem.W.callWith_S (h₀ := X.base) I.ok.mod.kin M.kp (thn (he.run pins s σ H _ I h) ?_) s1
  rintro v s' ⟨y, H1, I1, ry, a, xs, rfl, hxs, h2⟩
  obtain rfl : v = Value.ref a := ry
  exact star_any I1 hxs fun us s2 I2 rv => ⟨I2.kIn, made_at M F hr (hx σ) I2 rv h2⟩
/-- a def of so many parameters, by position -/
theorem fnR_ok (F : FnOk X.prog X.w X.K X.mg X.base CX k f fd ps sp) (hb : Binds X.K fd ps []) : FnR X.prog X.w X.K X.mg X.base CX k f sp := by
  intro A outer s H us vs Q E hr e0 r h
  have hl : (us ++ []).length = ps.length := by
    rw [List.append_nil, ← r.length]
    exact F.len _ _ _ _ h
  have b := hb s us (e0.mod.kin.keeps fun b o e => (e0.bs b o e).1) hl
  rw [List.append_nil] at b
  exact F.run A outer s H ⟨us, []⟩ us vs Q E hr e0 b r h
/-- an own exception made where nothing is handled: its context is none -/
theorem pmkN_oex (T : OexC X.K C) (iC : PySem.W.findIn X.K (.ref C) "__init__" = some (some (.ref f))) (tI : PySem.W.typeIn X.K (.ref f) = some (.type "function"))
    (F : FnOk X.prog X.w X.K X.mg X.base CX k f fd ps sp) (hr : Room (k + 1) X.A) (hb : Binds X.K fd ps []) (hx : Passes CX X (fun _ _ _ => False)) (hg : Gl X x) (hm : X.mg x = some (.ref C)) (ha : PA X (e :: es) t)
    (nd : (x == ("__debug__" : Str)) = false := by decide) (s1 : starEach (e :: es) X.env = (false, eval e X.env) :: starEach es X.env := by rfl) (s2 : (backTo pos (starEach es X.env)).any (·.1) = false := by rfl) :
    L2N.PMk X (.Call (.Name x q) (e :: es) [] pos) (tMkO C sp [] t) := by
  intro pins s σ H Q I h
  obtain ⟨nm, qq, N, bs, bm, sn, sub, ab, col, dd, k0, k1, k2, k3, k5, hC, hbm⟩ := T.cls
  refine wpAny_Call_Name_kw (ld_glob I hg hm ?_ nd)
  refine PySem.W.callWith_K (h₀ := X.base) I.ok.mod.kin T.kC (thn (ha.run pos pins s σ H _ I h) ?_) s1 s2
  rintro us sA ⟨vs, H1, I1, r1, hz, q1⟩
  refine ⟨I1.kIn, ?_⟩
  show wpAny _ _ (call (.ref C) us) _ _ _
  obtain ⟨hp, gg, dr, tk, os⟩ := sA
  let a : Addr := hp.objs.size + 1
  let hq : Heap := (hp.push (PySem.W.kdv_tup us)).push (PySem.HandSPX.excO C hp.objs.size)
  have up1 : hp.objs.size ≤ a := Nat.le_succ _
  have hn : H1 a = none := I1.hok.fresh up1
  have now := q1 a hn
  rw [List.append_nil] at now
  have kk : ∀ b o, hp.get? b = some o → hq.get? b = some o := fun b o e => Heap.get?_push_of_some _ (Heap.get?_push_of_some _ e)
  have got : hq.get? a = some (PySem.HandSPX.excO C hp.objs.size) := by
    show ((hp.push (PySem.W.kdv_tup us)).push (PySem.HandSPX.excO C hp.objs.size)).get? (hp.objs.size + 1) = _
    heap_get
  have J : Inv X pins σ (upd H1 a (exo a C none)) ⟨hq, gg, dr, tk, os⟩ := I1.laid (t' := tk) (a := a) (o := exo a C none) (h' := hq) kk up1 (exo_ok got)
  have vv : Vals (V.ref a :: vs) (Value.ref a :: us) := .cons rfl r1
  have len : (Value.ref a :: us ++ []).length = ps.length := by
    rw [List.append_nil, ← vv.length]
    exact F.len _ _ _ _ now
  have few : us.length ≤ sizeLine := by
    rw [sizeLine_eq, ← Paired.length r1]
    omega
  have bb := hb _ (Value.ref a :: us) J.kIn len
  rw [List.append_nil] at bb
  have ran := F.run _ X.stack _ _ ⟨Value.ref a :: us, []⟩ (Value.ref a :: us) _ _ (fun _ _ _ => False) (hr.make C us []) (J.env0.make C us []) bb vv now
  refine wpAny_call (PySem.HandSPX.call_own PySem.F.excBase_ValueError (fun Y => PySem.HandSPX.refsVE_contains Y bm hbm) (I1.kIn _ _ hC) (PySem.W.looks_findIn I1.kIn iC) (fun self => PySem.W.bind_fn I1.kIn self tI) few (codeAny_mono ran ?_))
  intro r s' hq'
  match r, hq' with
  | .error er, hq' => exact hx pins σ _ _ er s' J hq'
  | .ok (.ret u), hq' =>
    obtain ⟨v, H2, os2, bare2, un2, hok2, rv, ev, d, fs, ea, ed, hd1, q2⟩ := hq'
    subst ev
    obtain ⟨h2, g2, d2, t2, os'⟩ := s'
    obtain ⟨t0, B, J2, kB, ge, hoe, na⟩ := mk_end0 (d2 := d2) (t2 := t2) I1 up1 kk un2 hok2 os2 bare2 ea ed hd1
    refine ⟨rv, a, _, _, ⟨B, g2, d2, t2, os'⟩, _, .ref C, some d, rfl, J2, kB, ge, hoe, ⟨rfl, rfl, ?_⟩, rfl, rfl, na, rfl, bare2, raises_own T.exC T.tyC, q2⟩
    intro ws hw
    cases hw
    rfl
  | .ok .next, hq' => exact hq'.elim
  | .ok .brk, hq' => exact hq'.elim
  | .ok .cont, hq' => exact hq'.elim
end
end G
set_option Elab.async false
set_option linter.all false
set_option maxRecDepth 100000
set_option maxHeartbeats 4000000
/-! NW: texts as lists of codes: numbers and words; parse_integer, split_words. -/
namespace G.N3
open PySem PySem.Spec PyProof.Rows L2 PySem.NumText
/-- signs below 128 -/
def Asc (z : Str) : Prop := ∀ c ∈ cs z, c < 128
theorem Asc.app {a b : Str} (h1 : Asc a) (h2 : Asc b) : Asc (a ++ b) := fun c hc => by
  rw [cs_app] at hc
  rcases List.mem_append.mp hc with h | h
  · exact h1 c h
  · exact h2 c h
theorem Asc.cut {a : Str} (h : Asc a) (lo hi : Option Int) : Asc (cutS a lo hi) := fun c hc => by
  have hc' : c ∈ ((cs a).drop _).take _ := hc
  exact h c (List.mem_of_mem_drop (List.mem_of_mem_take hc'))
/-! ### numbers -/
/-- without the sign -/
def body (l : List Nat) : List Nat := if l.head? = some 45 then l.drop 1 else l
def digs (l : List Nat) : Bool := l.all fun c => decide (48 ≤ c) && decide (c ≤ 57)
def okD (l : List Nat) : Bool := (decide (1 ≤ l.length) && decide (l.length ≤ 30)) && (!(decide (l.head? = some 48) && decide (1 < l.length)) && digs l)
def okN (l : List Nat) : Bool := !decide (l = [45, 48]) && okD (body l)
def okL (l : List Nat) : Bool := ((decide (1 ≤ (body l).length) && decide ((body l).length ≤ 30)) && digs (body l)) && !(decide ((body l).head? = some 48) && !decide (l = [48]))
theorem okL_okN (l : List Nat) : okL l = okN l := by
  unfold okL okN okD
  cases hd : digs (body l) with
  | false => simp
  | true =>
    by_cases h0 : (body l).head? = some 48
    · obtain ⟨r, hr⟩ : ∃ r, body l = 48 :: r := by
        cases hb : body l with
        | nil =>
          rw [hb] at h0
          cases h0
        | cons x r =>
          rw [hb] at h0
          exact ⟨r, by rw [Option.some.inj h0]⟩
      rw [hr]
      by_cases hm : l.head? = some 45
      · have e : body l = l.drop 1 := if_pos hm
        obtain ⟨q, rfl⟩ : ∃ q, l = 45 :: q := by
          cases l with
          | nil => cases hm
          | cons x q => exact ⟨q, by rw [Option.some.inj hm]⟩
        have e2 : q = 48 :: r := by
          rw [hr] at e
          exact e.symm
        subst e2
        cases r with
        | nil => simp
        | cons y r => simp
      · have e : body l = l := if_neg hm
        rw [hr] at e
        subst e
        cases r with
        | nil => simp
        | cons y r => simp
    · have h1 : decide ((body l).head? = some 48) = false := decide_eq_false h0
      rw [h1]
      have h2 : decide (l = [45, 48]) = false := decide_eq_false fun z => h0 (by rw [z]; rfl)
      rw [h2]
      simp
def valN (z : Str) : Int := (PySem.intText? z).getD 0
theorem digs_all {l : List Nat} (h : digs l = true) : AllDigits l := fun c hc => by
  have := List.all_eq_true.mp h c hc
  rw [Bool.and_eq_true, decide_eq_true_eq, decide_eq_true_eq] at this
  exact this
theorem okN_val {z : Str} (h : okN (cs z) = true) : PySem.intText? z = some (valN z) ∧ z.length ≤ 31 := by
  unfold okN okD at h
  simp only [Bool.and_eq_true, decide_eq_true_eq] at h
  obtain ⟨_, ⟨h1, h2⟩, _, h3⟩ := h
  have ad := digs_all h3
  have hl := cs_len z
  have key : ∃ n, PySem.intText? z = some n ∧ z.length ≤ 31 := by
    by_cases hm : (cs z).head? = some 45
    · have e : body (cs z) = (cs z).drop 1 := if_pos hm
      obtain ⟨q, hq⟩ : ∃ q, cs z = 45 :: q := by
        cases hz : cs z with
        | nil =>
          rw [hz] at hm
          cases hm
        | cons x q =>
          rw [hz] at hm
          exact ⟨q, by rw [Option.some.inj hm]⟩
      have e2 : body (cs z) = q := by
        rw [e, hq]
        rfl
      rw [e2] at h1 h2 ad
      rw [hq, List.length_cons] at hl
      exact ⟨_, intText_neg hq ad (fun z => by rw [z] at h1; exact absurd h1 (by decide)) (by omega), by omega⟩
    · have e : body (cs z) = cs z := if_neg hm
      rw [e] at h1 h2 ad
      exact ⟨_, intText_digits ad (fun y => by rw [show cs z = [] from y] at h1; exact absurd h1 (by decide)) (by omega), by omega⟩
  obtain ⟨n, hn, hz⟩ := key
  refine ⟨?_, hz⟩
  unfold valN
  rw [hn]
  rfl
/-- what is read off a thing -/
def numD (d : PyData) (lo hi : Int) : PyData := match d with
  | .str z => if okN (cs z) = true ∧ lo ≤ valN z ∧ valN z ≤ hi then .int (valN z) else .none
  | _ => .none
def numV (d : PyData) (lo hi : Int) : V := match numD d lo hi with
  | .int i => .int i
  | _ => .non
/-! ### words -/
theorem joinL_snoc {S : List Nat} : ∀ {ps : List (List Nat)} {q : List Nat}, ps ≠ [] → TL.joinL S (ps ++ [q]) = TL.joinL S ps ++ (S ++ q)
  | [], _, h => absurd rfl h
  | [p], q, _ => rfl
  | p :: p' :: r, q, _ => by
    show p ++ (S ++ TL.joinL S ((p' :: r) ++ [q])) = (p ++ (S ++ TL.joinL S (p' :: r))) ++ (S ++ q)
    rw [joinL_snoc (by simp)]
    simp only [List.append_assoc]
theorem joinL_last {S : List Nat} : ∀ {ps : List (List Nat)} {w q : List Nat}, TL.joinL S (ps ++ [w ++ q]) = TL.joinL S (ps ++ [w]) ++ q
  | [], _, _ => rfl
  | [p], w, q => by
    show p ++ (S ++ (w ++ q)) = (p ++ (S ++ w)) ++ q
    simp only [List.append_assoc]
  | p :: p' :: r, w, q => by
    show p ++ (S ++ TL.joinL S ((p' :: r) ++ [w ++ q])) = (p ++ (S ++ TL.joinL S ((p' :: r) ++ [w]))) ++ q
    rw [joinL_last]
    simp only [List.append_assoc]
theorem split_is {z : Str} {ws : List Str} (hne : ws ≠ []) (hf : ∀ w ∈ ws, 32 ∉ cs w) (hj : TL.joinL [32] (ws.map cs) = cs z) : Txt.split z " " = ws := by
  have e1 : Txt.join " " ws = z := by
    refine cs_inj ?_
    rw [TL.join_eq]
    exact (TL.tl_join " " ws).trans hj
  have e2 := TL.split_join (y := " ") (s := 32) (S := []) rfl (by decide +kernel) hne hf
  rw [e1] at e2
  exact e2
/-- no empty word -/
def emptyIn (ws : List Str) : Bool := inV (.str "") (ws.map V.str)
/-- the words of a thing -/
def wordsD (d : PyData) : Option (List Str) := match d with
  | .str z => if 10 ∈ cs z then none else if emptyIn (Txt.split z " ") = true then none else some (Txt.split z " ")
  | _ => none
abbrev sParse : Stmt := topS 19
abbrev sDec : Stmt := topS 20
abbrev sSplit : Stmt := topS 21
theorem scParse : FnScope ["text", "low", "high", "number"] ["text", "low", "high"] (defScope sParse) := ⟨rfl, rfl, rfl, by decide +kernel, rfl, by decide +kernel, by decide +kernel⟩
theorem scDec : FnScope ["text", "digit"] ["text"] (defScope sDec) := ⟨rfl, rfl, rfl, by decide +kernel, rfl, by decide +kernel, by decide +kernel⟩
theorem scSplit : FnScope ["text", "words"] ["text"] (defScope sSplit) := ⟨rfl, rfl, rfl, by decide +kernel, rfl, by decide +kernel, by decide +kernel⟩
theorem take_bools {α : Type} {f : α → Bool} {ds : List α} {i : Nat} {d : α} (h : ds[i]? = some d) : ((ds.take (i + 1)).map f).map V.bl = ((ds.take i).map f).map V.bl ++ [V.bl (f d)] := by
  rw [List.take_add_one, h, List.map_append, List.map_append]
  rfl
theorem dig_mem (c : Nat) : decide (c ∈ cs ("0123456789" : Str)) = (decide (48 ≤ c) && decide (c ≤ 57)) := by
  have e : cs ("0123456789" : Str) = [48, 49, 50, 51, 52, 53, 54, 55, 56, 57] := by decide +kernel
  rw [e]
  by_cases h : 48 ≤ c ∧ c ≤ 57
  · rw [decide_eq_true h.1, decide_eq_true h.2, decide_eq_true (by simp only [List.mem_cons, List.not_mem_nil, or_false]; omega)]
    rfl
  · rw [decide_eq_false (by simp only [List.mem_cons, List.not_mem_nil, or_false]; omega)]
    symm
    rw [← Bool.decide_and]
    exact decide_eq_false h
theorem digs_eq (l : List Nat) : (l.map fun c => decide (c ∈ cs ("0123456789" : Str))).all id = digs l := by
  unfold digs
  rw [List.all_map]
  congr 1
  funext c
  exact dig_mem c
theorem cs_prefix (z : Str) : cs (Txt.removeprefix z "-") = body (cs z) := by
  have hl := cs_len z
  rw [StrLaws.removeprefix_eq]
  unfold body
  by_cases h : (cs z).head? = some 45
  · rw [if_pos h]
    obtain ⟨q, hq⟩ : ∃ q, cs z = 45 :: q := by
      cases hz : cs z with
      | nil =>
        rw [hz] at h
        cases h
      | cons x q =>
        rw [hz] at h
        exact ⟨q, by rw [Option.some.inj h]⟩
    have hA : StrLaws.At z ⟨#[45]⟩ z.length 0 := (StrLaws.subAt_one z 45 0).mpr (by rw [show z.cps.toList = 45 :: q from hq]; rfl)
    have e1 : (decide (0 + ("-" : Str).length ≤ z.length) && Builtin.Str.subAt z "-" 0) = true := by
      have e2 : Builtin.Str.subAt z "-" 0 = true := hA.2
      rw [e2, decide_eq_true (show 0 + ("-" : Str).length ≤ z.length from hA.1)]
      rfl
    rw [if_pos e1]
    show ((cs z).drop 1).take (z.length - 1) = (cs z).drop 1
    exact List.take_of_length_le (by rw [List.length_drop, hl]; exact Nat.le_refl _)
  · rw [if_neg h]
    rw [if_neg]
    intro e
    rw [Bool.and_eq_true, decide_eq_true_eq] at e
    have hA : StrLaws.At z ⟨#[45]⟩ z.length 0 := ⟨e.1, e.2⟩
    have := (StrLaws.subAt_one z 45 0).mp hA
    apply h
    rw [List.head?_eq_getElem?]
    exact this
/-- a text of moderate length, of plain signs; or no text -/
def TxtOk (d : PyData) : Prop := ∀ z, d = .str z → Asc z ∧ z.length ≤ 7000
def spDec : Sp := fun vs H Q _ => ∃ z : Str, vs = [.str z] ∧ z.length ≤ 7000 ∧ ∀ H', Same H H' → Q (.bl (okD (cs z))) H'
def spParse (K : PySem.W.Frag) : Sp := fun vs H Q _ => ∃ (v : V) (d : PyData) (lo hi : Int), vs = [v, .int lo, .int hi] ∧ Rp K H v d ∧ TxtOk d ∧ ∀ H', Same H H' → Q (numV d lo hi) H'
def spWords (K : PySem.W.Frag) : Sp := fun vs H Q _ => ∃ (v : V) (d : PyData), vs = [v] ∧ Rp K H v d ∧ TxtOk d ∧ (wordsD d = none → ∀ H', Same H H' → Q .non H') ∧
  ∀ ws, wordsD d = some ws → ∀ (p : Addr) (H' : Hp), Same H H' → H p = none → H' p = some (.lst (ws.map V.str)) → Q (.ref p) H'
section
variable {P : Program} {w : World} {K : PySem.W.Frag} {mg : Str → Option Value} {base : Heap}
theorem ok_dec {f : Addr} {fd : FuncData} {t1 t2 : Tok} (F : Fun K "is_decimal" "is_decimal" sDec f fd) (gM : mg "MOST_DIGITS" = some (.int 30 t1)) (gD : mg "DIGITS" = some (.str "0123456789" t2)) (ml : mg "len" = none) (ma : mg "all" = none) :
    FnOk P w K mg base CX0 1 f fd ["text"] spDec := by
  refine F.ok scDec (fun vs H Q E h => ?_) (fun cdv A outer s H vs Q E hr h => ?_)
  · obtain ⟨z, rfl, _⟩ := h
    rfl
  · obtain ⟨z, rfl, hz, q⟩ := h
    -- all([digit in DIGITS for digit in text])
    obtain ⟨tl, pl, ql⟩ : ∃ t, PSs (cxOf CX0 P w K mg base ["text", "digit"] "is_decimal" (defScope sDec) f cdv A outer s H E).nox ((defBody sDec).drop 2) t ∧
        (okD (cs z) = digs (cs z) → t { nx := fun _ H' => Q .non H', rt := Q } [some (.str z), none] H) := by
      refine ⟨_, pss_one (ps_ret (pe_callB (cr_all rfl) (by rfl) ma (by decide +kernel) (pa_cons (pe_lc (own := [("digit", 1)]) (g := gName 1) (tt := tYes) (by rfl) scDec.nd (pi_str (pv 0))
        (blkOk_by (own := [("digit", 1)]) (N := ["text", "digit"]) (sc := defScope sDec) (by decide +kernel)) (fun _ _ _ _ _ => pg_name (i := 1) scDec.nd rfl (.inl rfl)) (fun _ _ _ _ _ => pts_nil)
        (fun _ _ _ _ _ => pe_cmpR op_in_sign (pv 1) (pe_glob (v := .str "0123456789") rfl gD ⟨_, rfl⟩) (by rfl))) pa_nil))), ?_⟩
      intro e
      refine ⟨_, rfl, z, rfl, fun D hD => ?_⟩
      refine lc_it walk_str (fun i H2 => Same H H2 ∧ H2 D = some (.lst ((((cs z).take i).map fun c => decide (c ∈ cs ("0123456789" : Str))).map V.bl))) ?_ ?_ ?_ ?_
      · exact ⟨Same.new hD, upd_same⟩
      · exact fun _ _ _ _ => trivial
      · rintro i x H2 H3 hi ⟨s2, e2⟩ ⟨rfl, c, hc, rfl⟩
        have hc2 : (cs z)[i]? = some c := by
          rw [← hc, ← Array.getElem?_toList]
        have hzs : z.cps.size = z.length := rfl
        refine ⟨rfl, ?_⟩
        unfold tYes
        dsimp only
        rw [if_pos rfl]
        refine ⟨_, rfl, c, _, rfl, rfl, _, e2, ?_, fun a o e => ?_, ?_⟩
        · rw [List.length_map, List.length_map, List.length_take]
          exact Nat.lt_of_le_of_lt (Nat.min_le_left _ _) (Nat.lt_of_lt_of_le hi (small_size (by omega)))
        · rw [upd_ne (ne_of_none e hD)]
          exact s2 _ _ e
        · rw [upd_same, take_bools hc2]
      · rintro H2 ⟨s2, e2⟩
        have hs : z.cps.size = (cs z).length := by simp [cs]
        rw [hs, List.take_length] at e2
        refine ⟨D, _, rfl, .of e2, ?_⟩
        rw [digs_eq, ← e]
        exact q H2 s2
    refine ⟨_, pss_cons (ps_if (pt_not (pt_chain op_le op_le pe_int (pe_callB call_len_str (by rfl) ml PySem.boot_len (pa_cons (pv 0) pa_nil)) (pe_glob (v := .int 30) rfl gM ⟨_, rfl⟩))) (pss_one (ps_ret pe_bl)) pss_nil)
      (pss_cons (ps_if (PW.pt (pw_and (pt_cmpR op_eq (pe_item_str (pv 0) pe_int (fun _ _ => rfl)) pe_str (nomark _)) (pw_and1 (pt_cmpR op_gt (pe_callB call_len_str (by rfl) ml PySem.boot_len (pa_cons (pv 0) pa_nil)) pe_int (nomark _)))))
        (pss_one (ps_ret pe_bl)) pss_nil) pl), ?_⟩
    have hl := cs_len z
    have done : ∀ b, okD (cs z) = b → ∀ H', Same H H' → Q (.bl b) H' := fun b e H' s => by
      have := q H' s
      rw [e] at this
      exact this
    refine ⟨_, rfl, z, rfl, small_size hz, _, _, rfl, rfl, _, rfl, ?_⟩
    refine ite2 (fun z1 => ?_) (fun z1 => ?_)
    · have l1 : 1 ≤ z.length := by
        have := of_decide_eq_true z1
        omega
      refine ⟨_, _, rfl, rfl, _, rfl, ?_⟩
      cases z2 : decide ((z.length : Int) ≤ 30) with
      | false =>
        refine iteT ?_
        refine done false ?_ H (Same.refl H)
        have : ¬ ((z.length : Int) ≤ 30) := of_decide_eq_false z2
        unfold okD
        rw [decide_eq_false (show ¬ (cs z).length ≤ 30 by omega), Bool.and_false, Bool.false_and]
      | true =>
        refine iteF ?_
        have l30 : z.length ≤ 30 := by
          have := of_decide_eq_true z2
          omega
        obtain ⟨c, r, hc⟩ : ∃ c r, cs z = c :: r := by
          cases h : cs z with
          | nil =>
            rw [h] at hl
            simp at hl
            omega
          | cons c r => exact ⟨c, r, rfl⟩
        have hc0 : z.cps[0]? = some c := by
          rw [← Array.getElem?_toList, show z.cps.toList = c :: r from hc]
          rfl
        have rest : okD (cs z) = (!(decide ((cs z).head? = some 48) && decide (1 < (cs z).length)) && digs (cs z)) := by
          unfold okD
          rw [decide_eq_true (show 1 ≤ (cs z).length by omega), decide_eq_true (show (cs z).length ≤ 30 by omega)]
          rfl
        have eq0 : decide (V.str ⟨#[c]⟩ = V.str "0") = decide ((cs z).head? = some 48) := by
          rw [hc]
          by_cases h : c = 48
          · subst h
            rw [decide_eq_true (show (48 :: r).head? = some 48 from rfl)]
            exact decide_eq_true rfl
          · rw [decide_eq_false (show ¬ (c :: r).head? = some 48 from fun y => h (Option.some.inj y))]
            refine decide_eq_false fun y => h ?_
            have y2 : (⟨#[c]⟩ : Str) = "0" := V.str.inj y
            have y3 : [c] = [48] := congrArg cs y2
            exact List.head_eq_of_cons_eq y3
        refine ⟨_, rfl, z, 0, c, rfl, rfl, by decide, by decide, by omega, hc0, rfl, _, rfl, ?_⟩
        rw [eq0]
        refine ite2 (fun h0 => ?_) (fun h0 => ?_)
        · refine ⟨_, rfl, z, rfl, small_size hz, _, _, rfl, rfl, _, rfl, ?_⟩
          refine ite2 (fun h1 => ?_) (fun h1 => ?_)
          · refine done false ?_ H (Same.refl H)
            have : (1 : Int) < z.length := of_decide_eq_true h1
            rw [rest, h0, decide_eq_true (show 1 < (cs z).length by omega)]
            rfl
          · refine ql ?_
            have : ¬ (1 : Int) < z.length := fun y => h1 (decide_eq_true y)
            rw [rest, h0, decide_eq_false (show ¬ 1 < (cs z).length by omega)]
            rfl
        · refine ql ?_
          rw [rest, Bool.eq_false_iff.mpr h0]
          rfl
    · refine ⟨false, rfl, ?_⟩
      refine iteT ?_
      refine done false ?_ H (Same.refl H)
      have : ¬ ((1 : Int) ≤ z.length) := fun y => z1 (decide_eq_true y)
      unfold okD
      rw [decide_eq_false (show ¬ 1 ≤ (cs z).length by omega), Bool.false_and, Bool.false_and]
end
theorem numV_none {d : PyData} {lo hi : Int} (h : ∀ z, d = .str z → okN (cs z) = true → ¬ (lo ≤ valN z ∧ valN z ≤ hi)) : numV d lo hi = .non := by
  unfold numV numD
  cases d with
  | str z =>
    dsimp only
    rw [if_neg]
    rintro ⟨h1, h2⟩
    exact h z rfl h1 h2
  | none => rfl
  | bool _ => rfl
  | int _ => rfl
  | list _ => rfl
  | tuple _ => rfl
  | dict _ => rfl
theorem numV_some {z : Str} {lo hi : Int} (h1 : okN (cs z) = true) (h2 : lo ≤ valN z ∧ valN z ≤ hi) : numV (.str z) lo hi = .int (valN z) := by
  unfold numV numD
  dsimp only
  rw [if_pos ⟨h1, h2⟩]
theorem isS_str {d : PyData} (h : isS d = true) : ∃ z, d = .str z := by
  cases d with
  | str z => exact ⟨z, rfl⟩
  | none => cases h
  | bool _ => cases h
  | int _ => cases h
  | list _ => cases h
  | tuple _ => cases h
  | dict _ => cases h
theorem isS_no {d : PyData} (h : isS d = false) : ∀ z, d ≠ .str z := fun z e => by
  subst e
  cases h
theorem wordsD_no {d : PyData} (h : isS d = false) : wordsD d = none := by
  cases d with
  | str z => cases h
  | none => rfl
  | bool _ => rfl
  | int _ => rfl
  | list _ => rfl
  | tuple _ => rfl
  | dict _ => rfl
section
variable {P : Program} {w : World} {K : PySem.W.Frag} {mg : Str → Option Value} {base : Heap}
theorem ok_parse {f fD : Addr} {fd fdD : FuncData} (F : FunD K "parse_integer" "parse_integer" (defArgs sParse) (defBody sParse) (defScope sParse) [] [("low", .int (-999)), ("high", .int 999)] f fd)
    (GD : FnOk P w K mg base CX0 1 fD fdD ["text"] spDec) (gD : mg "is_decimal" = some (.ref fD)) (kD : PySem.W.keepIn K (.ref fD) = true) (bD : Binds K fdD ["text"] [])
    (mi : mg "isinstance" = none) (ms : mg "str" = none) (mt : mg "int" = none) : FnOk P w K mg base CX0 2 f fd ["text", "low", "high"] (spParse K) := by
  refine F.ok scParse (fun vs H Q E h => ?_) (fun cdv A outer s H vs Q E hr h => ?_)
  · obtain ⟨v, d, lo, hi, rfl, _⟩ := h
    rfl
  · obtain ⟨v, d, lo, hi, rfl, hR, hT, q⟩ := h
    suffices hh : ∃ t, PSs (cxOf CX0 P w K mg base ["text", "low", "high", "number"] "parse_integer" (defScope sParse) f cdv A outer s H E).nox (defBody sParse) t ∧ t { nx := fun _ H' => Q .non H', rt := Q } (start ["text", "low", "high", "number"] [v, .int lo, .int hi]) H by
      obtain ⟨t, h1, h2⟩ := hh
      exact ⟨t, h1.nox, h2⟩
    refine ⟨_, pss_cons (ps_if (PW.pt (pw_or (pt_not (pt_val (pt_isi "str" (pv 0) (hm := mi) (mn := ms)))) (pw_or (pt_cmpR op_eq (pv 0) pe_str (nomark _))
        (pw_or1 (pt_not (pt_val (pe_call GD hr rfl gD kD bD .nil pass0 (pa_cons (pe_m1 PySem.F.slot_str_removeprefix PySem.F.type_str_removeprefix mt_removeprefix (pv 0) pe_str) pa_nil))))))))
        (pss_one (ps_ret pe_non)) pss_nil)
      (pss_cons (ps_set (i := 3) scParse.nd rfl (.inl rfl) (pe_callTy call_int_str (by rfl) mt (by decide +kernel) (pa_cons (pv 0) pa_nil)))
      (pss_one (ps_ret (pe_ifExp (pt_chain op_le op_le (pv 1) (pv 3) (pv 2)) (pv 3) pe_non)))), ?_⟩
    refine ⟨_, rfl, _, _, _, _, _, rfl, .ty _, rp_ty hR, kit_s d, _, rfl, ?_⟩
    have no : (∀ z, d = .str z → okN (cs z) = true → ¬ (lo ≤ valN z ∧ valN z ≤ hi)) → ∀ H', Same H H' → Q .non H' := fun h H' s => by
      have := q H' s
      rw [numV_none h] at this
      exact this
    cases e1 : isS d with
    | false =>
      refine iteT (iteT ?_)
      exact no (fun z e => absurd e (isS_no e1 z)) H (Same.refl H)
    | true =>
      refine iteF ?_
      obtain ⟨z, rfl⟩ := isS_str e1
      cases hR
      obtain ⟨_, hz⟩ := hT z rfl
      refine ⟨_, rfl, rfl, _, rfl, ?_⟩
      refine ite2 (fun e => ?_) (fun e => ?_)
      · refine iteT ?_
        refine no (fun y ey hy => ?_) H (Same.refl H)
        have e2 : z = "-0" := V.str.inj (of_decide_eq_true e)
        cases ey
        subst e2
        exact absurd hy (by decide +kernel)
      · have ne : cs z ≠ [45, 48] := fun y => e (decide_eq_true (congrArg V.str (cs_inj (y.trans (by decide +kernel : [45, 48] = cs ("-0" : Str))))))
        refine ⟨_, rfl, ⟨_, rfl⟩, z, _, rfl, rfl, small_size hz, _, rfl, ?_, fun H1 s1 => ⟨_, rfl, ?_⟩⟩
        · have h1 := cs_len (Txt.removeprefix z "-")
          rw [cs_prefix] at h1
          have h2 := cs_len z
          have h3 : (body (cs z)).length ≤ (cs z).length := by
            unfold body
            split
            · rw [List.length_drop]
              omega
            · exact Nat.le_refl _
          omega
        · rw [cs_prefix]
          have en : okN (cs z) = okD (body (cs z)) := by
            unfold okN
            rw [decide_eq_false ne]
            rfl
          cases e3 : okD (body (cs z)) with
          | false =>
            refine iteT ?_
            refine no (fun y ey hy => ?_) H1 s1
            cases ey
            rw [en, e3] at hy
            cases hy
          | true =>
            refine iteF ?_
            have okn : okN (cs z) = true := en.trans e3
            obtain ⟨hv, hl⟩ := okN_val okn
            refine ⟨_, rfl, z, valN z, rfl, hv, by omega, ?_⟩
            refine ⟨_, rfl, _, rfl, _, _, rfl, rfl, _, rfl, ?_⟩
            refine ite2 (fun h1 => ?_) (fun h1 => ?_)
            · refine ⟨_, rfl, _, _, rfl, rfl, _, rfl, ?_⟩
              refine ite2 (fun h2 => ?_) (fun h2 => ?_)
              · refine ⟨_, rfl, ?_⟩
                have := q H1 s1
                rw [numV_some okn ⟨of_decide_eq_true h1, of_decide_eq_true h2⟩] at this
                exact this
              · refine no (fun y ey hy hb => ?_) H1 s1
                cases ey
                exact h2 (decide_eq_true hb.2)
            · refine ⟨false, rfl, ?_⟩
              refine iteF ?_
              refine no (fun y ey hy hb => ?_) H1 s1
              cases ey
              exact h1 (decide_eq_true hb.1)
theorem ok_split {f : Addr} {fd : FuncData} (F : Fun K "split_words" "split_words" sSplit f fd) (mi : mg "isinstance" = none) (ms : mg "str" = none) : FnOk P w K mg base CX0 1 f fd ["text"] (spWords K) := by
  refine F.ok scSplit (fun vs H Q E h => ?_) (fun cdv A outer s H vs Q E hr h => ?_)
  · obtain ⟨v, d, rfl, _⟩ := h
    rfl
  · obtain ⟨v, d, rfl, hR, hT, q1, q2⟩ := h
    refine ⟨_, pss_cons (ps_if (PW.pt (pw_or (pt_not (pt_val (pt_isi "str" (pv 0) (hm := mi) (mn := ms)))) (pw_or1 (pt_cmpR op_in_sign pe_str (pv 0) (by rfl))))) (pss_one (ps_ret pe_non)) pss_nil)
      (pss_cons (ps_set (i := 1) scSplit.nd rfl (.inl rfl) (pe_split (pv 0) pe_str))
      (pss_one (ps_ret (pe_ifExp (pt_cmpR op_in_seq pe_str (pv 1) (by rfl)) pe_non (pv 1))))), ?_⟩
    refine ⟨_, rfl, _, _, _, _, _, rfl, .ty _, rp_ty hR, kit_s d, _, rfl, ?_⟩
    cases e1 : isS d with
    | false =>
      refine iteT (iteT ?_)
      exact q1 (wordsD_no e1) H (Same.refl H)
    | true =>
      refine iteF ?_
      obtain ⟨z, rfl⟩ := isS_str e1
      cases hR
      obtain ⟨_, hz⟩ := hT z rfl
      refine ⟨_, rfl, 10, z, rfl, rfl, _, rfl, ?_⟩
      refine ite2 (fun e => ?_) (fun e => ?_)
      · refine q1 ?_ H (Same.refl H)
        show (if 10 ∈ cs z then none else _) = none
        rw [if_pos (of_decide_eq_true e)]
      · have ne : 10 ∉ cs z := fun y => e (decide_eq_true y)
        refine ⟨_, rfl, ⟨_, rfl⟩, z, _, rfl, rfl, rfl, (by rw [sizeLine_eq]; omega), fun p hp => ?_⟩
        have s1 := Same.new (o := .lst ((Txt.split z " ").map V.str)) hp
        refine ⟨_, rfl, p, _, rfl, .inl (.of upd_same), rfl, ?_, _, rfl, ?_⟩
        · rw [List.all_map]
          exact List.all_eq_true.mpr fun _ _ => rfl
        · have ew : wordsD (.str z) = if emptyIn (Txt.split z " ") = true then none else some (Txt.split z " ") := by
            show (if 10 ∈ cs z then none else _) = _
            rw [if_neg ne]
          show if (emptyIn (Txt.split z " ")) = true then _ else _
          cases e2 : emptyIn (Txt.split z " ") with
          | true =>
            refine iteT ?_
            rw [e2] at ew
            exact q1 (ew.trans (if_pos rfl)) _ s1
          | false =>
            refine iteF ?_
            rw [e2] at ew
            exact ⟨_, rfl, q2 _ (ew.trans (if_neg Bool.false_ne_true)) p _ s1 hp upd_same⟩
end
end G.N3
set_option Elab.async false
set_option linter.all false
set_option maxRecDepth 100000
set_option maxHeartbeats 2000000
/-! Q1: == and != by an own __eq__ with both answers, the right side of any kind. -/
namespace G
open PySem PySem.Spec PyProof.Rows L2
open Builtin in
theorem entry_ne {prog : Program} {w : World} {A : Around} {E : Value → Shared → Prop} {s : Shared} {K : PySem.W.Frag} {x C f : Addr} {ox : Obj} {od : Option Obj} {b : Value} {Q : Fin → Shared → Prop}
    (X : K.In s.heap) (I : PySem.W.InstAt s.heap x ox C od) (hu : A.units < cLine) (hs : PySem.W.findIn K (.ref C) "__eq__" = some (some (.ref f))) (hf : PySem.W.isFn K (.ref f) = true)
    (hcall : wpAny (model prog w) A (call (.ref f) [.ref x, b]) (fun v s' => ∃ k, v = .bool k ∧ Q (.done (.ret (.bool (!k)))) s') E s) :
    wpAny (model prog w) A (Builtin.«object.__ne__» ⟨[.ref x, b], []⟩) Q E s := by
  unfold Builtin.«object.__ne__»
  repeat (first
    | with_reducible refine wpAny_cRoomFor hu ?_
    | (refine wpAny_bind (m := callSpecialIfBound? (.ref x) (Str.ofString "__eq__") [b])
        (PySem.W.ifBound_K X I hs hf (wpAny_mono hcall (fun r s' hr => by
          obtain ⟨k, rfl, hq⟩ := hr
          repeat (first | exact hq | exact wpAny_pure hq | exact wpAny_truthy_bool hq | (refine wpAny_bind (m := truthy (.bool _)) (wpAny_truthy_bool ?_)) | wp_step)) fun _ _ e => e)))
    | wp_step)
/-- what == and != ask of the class at C -/
structure EqO (K : PySem.W.Frag) (C f : Addr) : Prop where
  eq : PySem.W.findIn K (.ref C) "__eq__" = some (some (.ref f))
  fn : PySem.W.isFn K (.ref f) = true
  ne : PySem.W.findIn K (.ref C) "__ne__" = some (some (.builtin "object.__ne__"))
  ob : PySem.W.mroIn K C (.type "object") = some true
theorem ne_K {prog : Program} {w : World} {A : Around} {E : Value → Shared → Prop} {s : Shared} {K : PySem.W.Frag} {x C L f : Addr} {h₀ : Heap} {m : Str → Option Value} {ox : Obj} {od : Option Obj} {b tb : Value} {Q : Value → Shared → Prop} (hu : A.units + 1 < cLine) (hFr : Fr h₀ L s.heap m) (X₀ : K.In h₀)
    (I : PySem.W.InstAt s.heap x ox C od) (hb : PySem.W.Looks (model prog w) s.heap (typeOf b) tb) (hn : PySem.W.notFirst K C tb = true) (e : EqO K C f)
    (h : wpAny (model prog w) A.in1 (call (.ref f) [.ref x, b]) (fun v s' => ∃ k, v = .bool k ∧ Q (.bool (!k)) s') E s) : wpAny (model prog w) A (richCompare .NotEq (.ref x) b) Q E s := by
  have X := X₀.keeps hFr.keep
  have sp : PySem.W.Looks (model prog w) s.heap (specialOf (.ref x) "__ne__") (some (.builtin "object.__ne__")) := I.type.andThen (PySem.W.looks_findIn X e.ne)
  have iv : PySem.W.Looks (model prog w) s.heap (isInstance (.ref x) (.type "object")) true := I.type.andThen (PySem.W.looks_mroIn X e.ob)
  have one : wpAny (model prog w) A (tryCompare (.ref x) "__ne__" b) (fun r s' => ∃ v, r = some v ∧ Q v s') E s := by
    unfold tryCompare
    refine wpAny_bind (NtL.csib sp (F.cmp_object.ne.bind _) (wpAny_call (codeAny_call_builtin F.cmp_object.ne.plain F.cmpEntry_ne
      (PySem.W.check_slot F.cmpKind_ne F.cmpSplit_ne iv (F.cmpArgs_ne _ _) (entry_ne (A := A.in1) X I hu e.eq e.fn (wpAny_mono h (fun v s' hv => ?_) fun _ _ z => z))))))
    obtain ⟨k, rfl, hq⟩ := hv
    first | exact ⟨k, rfl, wpAny_pure ⟨_, rfl, hq⟩⟩ | exact ⟨k, rfl, _, rfl, hq⟩
  unfold richCompare
  simp only [oneThing_ref]
  refine wpAny_holding (wpAny_bind (wpAny_cRoomFor (Nat.lt_of_succ_lt hu) ?_))
  rw [cmpInfo_NotEq]
  dsimp only
  refine wpAny_bind (I.type.here (wpAny_bind (hb.here ?_)))
  split
  · rename_i q
    have e : PySem.W.subIn K tb (.ref C) = some false := by
      rcases Bool.or_eq_true_iff.mp hn with e | e
      · rw [beq_iff_eq.mp e] at q; simp at q
      · exact beq_iff_eq.mp e
    refine wpAny_bind ((PySem.W.looks_subIn X e).here ?_)
    simp only [Bool.false_eq_true, if_false]
    refine wpAny_bind (wpAny_mono one (fun r s' z => ?_) fun _ _ e => e)
    obtain ⟨v, rfl, hq⟩ := z
    exact wpAny_pure hq
  · refine wpAny_bind (wpAny_pure ?_)
    simp only [Bool.false_eq_true, if_false]
    refine wpAny_bind (wpAny_mono one (fun r s' z => ?_) fun _ _ e => e)
    obtain ⟨v, rfl, hq⟩ := z
    exact wpAny_pure hq
/-- the kinds of things on the right -/
inductive Oth (H : Hp) : V → Value → Prop where
  | non : Oth H .non (.type "NoneType")
  | int (i : Int) : Oth H (.int i) (.type "int")
  | str (z : Str) : Oth H (.str z) (.type "str")
  | lst {a : Addr} {xs : List V} (e : H a = some (.lst xs)) : Oth H (.ref a) (.type "list")
  | tup {a : Addr} {xs : List V} (e : H a = some (.tup xs)) : Oth H (.ref a) (.type "tuple")
  | ins {a C dx : Addr} {fs : List (Str × V)} (e : H a = some (.ins C dx fs)) : Oth H (.ref a) (.ref C)
  | dic {a : Addr} {ks : List (Key × V)} (e : H a = some (.dK ks)) : Oth H (.ref a) (.type "dict")
theorem insX_at {X : Cx} {pins : List (Addr × Obj)} {σ : L2.St} {H : Hp} {s : Shared} {a C dx : Addr} {fs : List (Str × V)} (I : Inv X pins σ H s) (h : H a = some (.ins C dx fs)) : ∃ ox od, PySem.W.InstAt s.heap a ox C od := by
  obtain ⟨mA, O, _⟩ := ins_get I.hok h
  obtain ⟨od, J, _⟩ := O.look
  exact ⟨_, _, J⟩
theorem oth_looks {X : Cx} {pins : List (Addr × Obj)} {σ : L2.St} {H : Hp} {s : Shared} {x : V} {u t : Value} (I : Inv X pins σ H s) (rx : RelV x u) (o : Oth H x t) (M : Model) : PySem.W.Looks M s.heap (typeOf u) t := by
  cases o with
  | non => cases (show u = Value.none from rx); exact .of_pure rfl
  | int i => obtain ⟨t, q⟩ := (show ∃ t, u = Value.int i t from rx); cases q; exact .of_pure rfl
  | str y => obtain ⟨t, q⟩ := (show ∃ t, u = Value.str y t from rx); cases q; exact .of_pure rfl
  | @lst a xs ea =>
    cases (show u = Value.ref a from rx)
    obtain ⟨_, _, n, _, h1⟩ := (show ObjOk X.prog X.w H s.heap a (.lst xs) from I.hok a _ ea)
    exact (PySem.W.Looks.ld h1).andThen .now
  | @tup a xs ea =>
    cases (show u = Value.ref a from rx)
    obtain ⟨_, _, _, o, h1, h2, _⟩ := (show ObjOk X.prog X.w H s.heap a (.tup xs) from I.hok a _ ea)
    rw [← h2]
    exact (PySem.W.Looks.ld h1).andThen .now
  | @ins a C dx fs ea =>
    cases (show u = Value.ref a from rx)
    obtain ⟨ox, od, J⟩ := insX_at I ea
    exact J.type
  | @dic a ks ea =>
    cases (show u = Value.ref a from rx)
    obtain ⟨_, _, _, _, o, _, _, h1, h2, _⟩ := (show ObjOk X.prog X.w H s.heap a (.dK ks) from I.hok a _ ea)
    rw [← h2.1]
    exact (PySem.W.Looks.ld h1).andThen .now
section
variable {X : Cx} {C g : Addr} {fd : FuncData} {ps : List Str} {n : Nat} {sp : Sp} {E : XK}
def rEqB (K : PySem.W.Frag) (C : Addr) (sp : Sp) (E : XK) (pos : Bool) : R2 := fun x y H Q => ∃ a dx fs t, x = .ref a ∧ H a = some (.ins C dx fs) ∧ Oth H y t ∧ PySem.W.notFirst K C t = true ∧ sp [x, y] H (fun v H' => ∃ k : Bool, v = .bl k ∧ Q (.bl (cond pos k (!k))) H') E
theorem op_eqB (e : EqO X.K C g) (hb : Binds X.K fd ps []) (F : FnOk X.prog X.w X.K X.mg X.base CX0 n g fd ps sp) (hr : Room n X.A) (hx : Passes CX0 X E) : OpR X (compareOp .Eq) (rEqB X.K C sp E true) := by
  intro pins s σ H x y v u Q I rx ry h
  obtain ⟨a, dx, fs, t, rfl, ha, ho, hn, q⟩ := h
  cases (show v = Value.ref a from rx)
  obtain ⟨ox, od, J⟩ := insX_at I ha
  obtain ⟨m, hF⟩ := I.fr
  refine PySem.W.cmp_K (op := .Eq) hr.units0 hF I.ok.mod.kin J (oth_looks I ry ho _) hn e.eq e.fn ?_
  refine wpAny_mono (run_fn (us := [.ref a, u]) (vs := [.ref a, y]) F hr hb .nil hx I (.cons rfl (.cons ry .nil)) q) (fun w s' z => ?_) fun _ _ x => x
  obtain ⟨z', H', I', rz, k, rfl, qz⟩ := z
  exact SlX.cmpback rz ⟨.bl k, H', I', rz, qz⟩
theorem op_neB (e : EqO X.K C g) (hb : Binds X.K fd ps []) (F : FnOk X.prog X.w X.K X.mg X.base CX0 n g fd ps sp) (hr : Room (n + 1) X.A) : OpR X (compareOp .NotEq) (rEqB X.K C sp E false) := by
  intro pins s σ H x y v u Q I rx ry h
  obtain ⟨a, dx, fs, t, rfl, ha, ho, hn, q⟩ := h
  cases (show v = Value.ref a from rx)
  obtain ⟨ox, od, J⟩ := insX_at I ha
  obtain ⟨m, hF⟩ := I.fr
  refine ne_K (by have := hr.units; omega) hF I.ok.mod.kin J (oth_looks I ry ho _) hn e ?_
  have hl : ([Value.ref a, u] ++ []).length = ps.length := by
    have := F.len _ _ _ _ q
    exact this
  refine wpAny_call (codeAny_mono (F.run X.A.in1 X.stack s H ⟨[.ref a, u], []⟩ ([.ref a, u] ++ []) [.ref a, y] _ E hr.in1 I.env0.in1 (hb s [.ref a, u] I.kIn hl) (.cons rfl (.cons ry .nil)) q) fun r s' hq => ?_)
  cases r with
  | error e => exact False.elim hq
  | ok fl =>
    cases fl with
    | ret u =>
      obtain ⟨v, H', I2, rv, k, rfl, q⟩ := I.after hq
      obtain rfl : u = Value.bool k := rv
      exact ⟨k, rfl, .bl (!k), H', I2, rfl, q⟩
    | next => exact False.elim hq
    | brk => exact False.elim hq
    | cont => exact False.elim hq
end
end G
set_option Elab.async false
set_option linter.all false
set_option maxRecDepth 100000
set_option maxHeartbeats 2000000
/-! R1: methods, calls and operators of an instance whose class is not known ahead; super().__init__(*xs). -/
namespace G
open PySem PySem.Spec PyProof.Rows L2 NdefX StX

/-- the class at C keeps the promise sp for its method m -/
structure PolyM (P : Program) (w : World) (K : PySem.W.Frag) (mg : Str → Option Value) (base : Heap) (k : Nat) (C : Addr) (m : Str) (sp : Sp) : Prop where
  cl : Cls K C
  ex : ∃ (f : Addr) (fd : FuncData) (ps : List Str), Meth K C m f ∧ Binds K fd ps [] ∧ FnOk P w K mg base CX0 k f fd ps sp
/-- .. for the calls of its instances -/
structure PolyC (P : Program) (w : World) (K : PySem.W.Frag) (mg : Str → Option Value) (base : Heap) (k : Nat) (C : Addr) (sp : Sp) : Prop where
  ex : ∃ (f : Addr) (fd : FuncData) (ps : List Str), CallO K C f ∧ Binds K fd ps [] ∧ FnOk P w K mg base CX0 k f fd ps sp

/-- o.m(e, ..), o an instance of some class that keeps sp -/
def tMethV (X : Cx) (k : Nat) (m : Str) (E : XK) (ta : TE) (t : TA) : TE := fun σ H Q => ta σ H fun x H1 => ∃ (a C dx : Addr) (fs : List (Str × V)) (sp : Sp), x = .ref a ∧ H1 a = some (.ins C dx fs) ∧ PolyM X.prog X.w X.K X.mg X.base k C m sp ∧ fs.lookup m = none ∧ t σ H1 fun vs H2 => sp (.ref a :: vs) H2 Q E
/-- o(e, ..) -/
def tCallV (X : Cx) (k : Nat) (E : XK) (ta : TE) (t : TA) : TE := fun σ H Q => ta σ H fun x H1 => ∃ (a C : Addr) (sp : Sp), x = .ref a ∧ PolyC X.prog X.w X.K X.mg X.base k C sp ∧ t σ H1 fun vs H2 => InsC X H2 a C ∧ sp (.ref a :: vs) H2 Q E
section
variable {X : Cx} {k : Nat} {E : XK} {m : Str} {pos apos : Pos} {e o fe : Expr} {es : List Expr} {ta : TE} {t : TA}
theorem pe_methV {pl : Sem Bool} (he : PE X o ta) (hr : Room k X.A) (hx : Passes CX0 X E) (ha : PA X (e :: es) t)
    (hst : starEach (e :: es) X.env = (false, eval e X.env) :: starEach es X.env := by rfl) (hpl : (backTo pos (starEach es X.env)).any (·.1) = false := by rfl)
    (ht : eval (.Call (.Attribute o m apos) (e :: es) [] pos) X.env = (eval o X.env >>= fun ov => standAt apos.atName >>= fun _ => holding [ov] (getMethod ov m pl) >>= fun q => callWith pos q.1 q.2 (backTo pos (starEach (e :: es) X.env)) (backToKw pos (keywordEach [] X.env))) := by rfl) :
    PE X (.Call (.Attribute o m apos) (e :: es) [] pos) (tMethV X k m E ta t) := by
  refine ⟨fun pins s σ H Q I h => ?_⟩
  refine PySem.W.methodCall_KW (pl := pl) (thn (he.run pins s σ H _ I h) fun u s1 ⟨x, H1, I1, rx, a, C, dx, fs, sp, ex, ea, pm, l, q⟩ => ?_) ht
  subst ex
  obtain rfl : u = Value.ref a := rx
  obtain ⟨f, fd, ps, hm, hb, F⟩ := pm.ex
  refine getmeth_ok I1 ea pm.cl hm l ?_
  refine PySem.W.callWith_K (h₀ := X.base) (first := [.ref a]) I.ok.mod.kin hm.kp (thn (ha.run pos pins s1 σ H1 _ I1 q) fun us s2 ⟨vs, H2, I2, r, q2⟩ => ⟨I2.kIn, ?_⟩) hst hpl
  exact run_fn (us := .ref a :: us) (vs := .ref a :: vs) F hr hb .nil hx I2 (.cons rfl r) (by rw [List.append_nil]; exact q2)
theorem pe_methV0 {pl : Sem Bool} (he : PE X o ta) (hr : Room k X.A) (hx : Passes CX0 X E)
    (ht : eval (.Call (.Attribute o m apos) [] [] pos) X.env = (eval o X.env >>= fun ov => standAt apos.atName >>= fun _ => holding [ov] (getMethod ov m pl) >>= fun q => callWith pos q.1 q.2 (backTo pos (starEach [] X.env)) (backToKw pos (keywordEach [] X.env))) := by rfl) :
    PE X (.Call (.Attribute o m apos) [] [] pos) (tMethV X k m E ta tNil) := by
  refine ⟨fun pins s σ H Q I h => ?_⟩
  refine PySem.W.methodCall_KW (pl := pl) (thn (he.run pins s σ H _ I h) fun u s1 ⟨x, H1, I1, rx, a, C, dx, fs, sp, ex, ea, pm, l, q⟩ => ?_) ht
  subst ex
  obtain rfl : u = Value.ref a := rx
  obtain ⟨f, fd, ps, hm, hb, F⟩ := pm.ex
  refine getmeth_ok I1 ea pm.cl hm l ?_
  exact PySem.W.callWith_K0 (first := [.ref a]) I1.kIn hm.kp (run_fn (us := [.ref a]) (vs := [.ref a]) F hr hb .nil hx I1 (.cons rfl .nil) q)
theorem pe_callV (hf : PE X fe ta) (hr : Room k X.A) (hx : Passes CX0 X E) (ha : PA X (e :: es) t)
    (ht : eval (.Call fe (e :: es) [] pos) X.env = (eval fe X.env >>= fun g => callWith pos g [] (backTo pos (starEach (e :: es) X.env)) (backToKw pos (keywordEach [] X.env))) := by rfl)
    (he : starEach (e :: es) X.env = (false, eval e X.env) :: starEach es X.env := by rfl) (hpl : (backTo pos (starEach es X.env)).any (·.1) = false := by rfl) : PE X (.Call fe (e :: es) [] pos) (tCallV X k E ta t) := by
  refine ⟨fun pins s σ H Q I h => ?_⟩
  refine Call_ (thn (hf.run pins s σ H _ I h) fun u s1 ⟨y, H1, I1, ry, a, C, sp, ey, pc, q⟩ => ?_) ht
  subst ey
  obtain rfl : u = Value.ref a := ry
  obtain ⟨f, fd, ps, c, hb, F⟩ := pc.ex
  refine callO_with (thn (ha.run pos pins s1 σ H1 _ I1 q) fun us s2 ⟨vs, H2, I2, r, hi, q2⟩ => ?_) he hpl
  obtain ⟨ox, od, J, hd⟩ := insC_at I2 hi
  exact ⟨⟨C, ox, od, J, hd⟩, run_callO c (F.raw hb .nil) hr hx I2 hi r (by simpa using q2)⟩
end

/-! ### a sign between two instances of own classes -/
/-- the class at C has the sign's method (and no reflected one) -/
structure OpO (K : PySem.W.Frag) (C : Addr) (op : Operator) (f : Addr) : Prop where
  first : PySem.W.selfFirst K C = true
  at_ : PySem.W.findIn K (.ref C) (PySem.dunder op.info.2) = some (some (.ref f))
  fn : PySem.W.isFn K (.ref f) = true
  ref_ : PySem.W.findIn K (.ref C) (dunderR op.info.2) = some none
theorem bin_own {prog : Program} {w : World} {A : Around} {E : Value → Shared → Prop} {s : Shared} {K : PySem.W.Frag} {x y C C2 f g : Addr} {ox oy : Obj} {od od2 : Option Obj} {op : Operator} {Q : Value → Shared → Prop} (X : K.In s.heap)
    (I : PySem.W.InstAt s.heap x ox C od) (J : PySem.W.InstAt s.heap y oy C2 od2) (o1 : OpO K C op f) (o2 : OpO K C2 op g) (hs : C = C2 ∨ PySem.W.subIn K (.ref C2) (.ref C) = some false)
    (h : wpAny (model prog w) A (call (.ref f) [.ref x, .ref y]) (PySem.W.CmpBack Q) E s) : wpAny (model prog w) A (binaryOp op (.ref x) (.ref y)) Q E s := by
  obtain ⟨cd1, rest1, hc1, hm1⟩ := PySem.W.ksp_first o1.first
  obtain ⟨cd2, rest2, hc2, hm2⟩ := PySem.W.ksp_first o2.first
  have a1 := o1.at_
  have a2 := o2.at_
  have r1 := o1.ref_
  have r2 := o2.ref_
  rcases hi : op.info with ⟨sym, nm⟩
  rw [hi] at a1 a2 r1 r2
  dsimp only at a1 a2 r1 r2
  have one := PySem.W.ksp_try X I a1 o1.fn h
  obtain ⟨hh, gs, d, tt, os⟩ := s
  have L1 : PySem.W.Looks (model prog w) hh (typeOf (.ref x)) (.ref C) := I.type
  have L2 : PySem.W.Looks (model prog w) hh (typeOf (.ref y)) (.ref C2) := J.type
  have L3 : PySem.W.Looks (model prog w) hh (fillsNumberSlot (.ref C) nm) true := PySem.W.fills_K X hc1 hm1 a1
  have L4 : PySem.W.Looks (model prog w) hh (fillsNumberSlot (.ref C2) nm) true := PySem.W.fills_K X hc2 hm2 a2
  have L6 : PySem.W.Looks (model prog w) hh (numberSlotInPython (.ref C) nm) true := PySem.W.ksp_inPy X a1 r1 (.inl rfl)
  have L7 : PySem.W.Looks (model prog w) hh (numberSlotInPython (.ref C2) nm) true := PySem.W.ksp_inPy X a2 r2 (.inl rfl)
  simp only [binaryOp, hi]
  refine wpAny_holding (wpAny_bind ?_)
  unfold binaryOp1
  refine wpAny_bind (L1.at (wpAny_bind (L2.at (wpAny_bind (L3.at ?_)))))
  by_cases e : C = C2
  · have hne : (Value.ref C == Value.ref C2) = true := by
      rw [e]
      exact beq_self_eq_true _
    simp only [hne, if_true]
    ksp_lk
    refine wpAny_mono one (fun r s' hr' => ?_) fun _ _ z => z
    obtain ⟨v, rfl, hq⟩ := hr'
    ksp_lk
    exact hq
  · have hne : (Value.ref C == Value.ref C2) = false := Bool.eq_false_iff.mpr fun q => e (by
      have := beq_iff_eq.mp q
      injection this)
    have hs2 : PySem.W.subIn K (.ref C2) (.ref C) = some false := hs.resolve_left e
    have L5 : PySem.W.Looks (model prog w) hh (isSubtype (.ref C2) (.ref C)) false := PySem.W.looks_subIn X hs2
    simp only [hne, Bool.false_eq_true, if_false]
    ksp_lk
    refine wpAny_mono one (fun r s' hr' => ?_) fun _ _ z => z
    obtain ⟨v, rfl, hq⟩ := hr'
    ksp_lk
    exact hq
theorem insO_at {X : Cx} {pins : List (Addr × Obj)} {σ : L2.St} {H : Hp} {s : Shared} {a C dx : Addr} {fs : List (Str × V)} (I : Inv X pins σ H s) (h : H a = some (.ins C dx fs)) : ∃ ox od, PySem.W.InstAt s.heap a ox C od ∧ ox.data = .plain :=
  insC_at I (.inr ⟨dx, fs, h⟩)
/-- two classes under one sign: what the class at C does with one of the class at C2 -/
structure PolyO (P : Program) (w : World) (K : PySem.W.Frag) (mg : Str → Option Value) (base : Heap) (k : Nat) (C C2 : Addr) (op : Operator) (sp : Sp) : Prop where
  ex : ∃ (f g : Addr) (fd : FuncData) (ps : List Str), OpO K C op f ∧ OpO K C2 op g ∧ (C = C2 ∨ PySem.W.subIn K (.ref C2) (.ref C) = some false) ∧ Binds K fd ps [] ∧ FnOk P w K mg base CX0 k f fd ps sp
def rOwn (X : Cx) (k : Nat) (op : Operator) (sp : Sp) (E : XK) : R2 := fun x y H Q => ∃ a b C C2 dx dy fs gs, x = .ref a ∧ y = .ref b ∧ H a = some (.ins C dx fs) ∧ H b = some (.ins C2 dy gs) ∧ PolyO X.prog X.w X.K X.mg X.base k C C2 op sp ∧
  sp [.ref a, .ref b] H (fun v H' => (∃ r, v = .ref r) ∧ Q v H') E
theorem op_own {X : Cx} {k : Nat} {sp : Sp} {E : XK} (op : Operator) (hr : Room k X.A) (hx : Passes CX0 X E) : OpR X (binaryOp op) (rOwn X k op sp E) := by
  intro pins s σ H x y v u Q I rx ry h
  obtain ⟨a, b, C, C2, dx, dy, fs, gs, rfl, rfl, ha, hb, po, q⟩ := h
  obtain rfl : v = Value.ref a := rx
  obtain rfl : u = Value.ref b := ry
  obtain ⟨f, g, fd, ps, o1, o2, hs, hbd, F⟩ := po.ex
  obtain ⟨ox, od, J1, _⟩ := insO_at I ha
  obtain ⟨oy, od2, J2, _⟩ := insO_at I hb
  refine bin_own I.kIn J1 J2 o1 o2 hs (thn (run_fn (us := [.ref a, .ref b]) (vs := [.ref a, .ref b]) F hr hbd .nil hx I (.cons rfl (.cons rfl .nil)) q) fun r s' z => ?_)
  obtain ⟨v, H', I', rv, ⟨p, rfl⟩, q'⟩ := z
  obtain rfl : r = Value.ref p := rv
  exact ⟨V.ref p, H', I', rfl, q'⟩
/-! ### ~x -/
structure PolyU (P : Program) (w : World) (K : PySem.W.Frag) (mg : Str → Option Value) (base : Heap) (k : Nat) (C : Addr) (sp : Sp) : Prop where
  ex : ∃ (f : Addr) (fd : FuncData) (ps : List Str), PySem.W.findIn K (.ref C) "__invert__" = some (some (.ref f)) ∧ PySem.W.isFn K (.ref f) = true ∧ Binds K fd ps [] ∧ FnOk P w K mg base CX0 k f fd ps sp
def rInv (X : Cx) (k : Nat) (sp : Sp) (E : XK) : V → Hp → VK → Prop := fun x H Q => ∃ a C dx fs, x = .ref a ∧ H a = some (.ins C dx fs) ∧ PolyU X.prog X.w X.K X.mg X.base k C sp ∧ sp [.ref a] H Q E
theorem inv_own {M : Model} {A : Around} {E : Value → Shared → Prop} {s : Shared} {K : PySem.W.Frag} {x C f : Addr} {ox : Obj} {od : Option Obj} {Q : Value → Shared → Prop} (X : K.In s.heap) (I : PySem.W.InstAt s.heap x ox C od)
    (hs : PySem.W.findIn K (.ref C) "__invert__" = some (some (.ref f))) (hf : PySem.W.isFn K (.ref f) = true) (h : wpAny M A (call (.ref f) [.ref x]) Q E s) : wpAny M A (unaryOp .Invert (.ref x)) Q E s := by
  unfold unaryOp
  refine wpAny_holding (wpAny_bind (PySem.W.special_fn X I hs (beq_iff_eq.mp hf) (thn h fun _ _ z => ?_)))
  exact wpAny_pure z
theorem un_own {X : Cx} {k : Nat} {sp : Sp} {E : XK} (hr : Room k X.A) (hx : Passes CX0 X E) : UnR X (unaryOp .Invert) (rInv X k sp E) := by
  intro pins s σ H x v Q I rx h
  obtain ⟨a, C, dx, fs, rfl, ha, pu, q⟩ := h
  obtain rfl : v = Value.ref a := rx
  obtain ⟨f, fd, ps, h1, h2, hb, F⟩ := pu.ex
  obtain ⟨ox, od, J, _⟩ := insO_at I ha
  exact inv_own I.kIn J h1 h2 (run_fn (us := [.ref a]) (vs := [.ref a]) F hr hb .nil hx I (.cons rfl .nil) q)
end G
set_option Elab.async false
set_option linter.all false
set_option maxRecDepth 100000
set_option maxHeartbeats 2000000
/-! O1: x in o, o[i], for x in o, len(o) by a class's own methods. -/
namespace G
open PySem PySem.Spec PyProof.Rows L2
/-- the class at C has its own m, the def at f -/
structure OwnM (K : PySem.W.Frag) (C : Addr) (m : Str) (f : Addr) : Prop where
  at_ : PySem.W.findIn K (.ref C) m = some (some (.ref f))
  fn : PySem.W.isFn K (.ref f) = true
section
variable {prog : Program} {w : World} {A : Around} {E : Value → Shared → Prop} {s : Shared} {K : PySem.W.Frag} {x C f : Addr} {ox : Obj} {od : Option Obj} {y : Value}
theorem in_own {Q : Bool → Shared → Prop} (X : K.In s.heap) (I : PySem.W.InstAt s.heap x ox C od) (e : OwnM K C "__contains__" f) (h : wpAny (model prog w) A (call (.ref f) [.ref x, y]) (fun v s' => ∃ b, v = .bool b ∧ Q b s') E s) :
    wpAny (model prog w) A (contains (.ref x) y) Q E s := by
  have sp : PySem.W.Looks (model prog w) s.heap (specialOf (.ref x) "__contains__") (some (.ref f)) := I.type.andThen (PySem.W.looks_findIn X e.at_)
  have hf := beq_iff_eq.mp e.fn
  unfold contains
  refine wpAny_holding ?_
  show wpAny _ _ (specialOf (.ref x) "__contains__" >>= _) _ _ _
  refine wpAny_bind (sp.here ?_)
  rw [if_neg (show ¬ ((some (Value.ref f) == some Value.none) = true) from Bool.false_ne_true)]
  unfold callSpecialUnlessNone?
  refine wpAny_bind (wpAny_bind (sp.here (wpAny_holding (wpAny_bind ((PySem.W.bind_fn X _ hf).here ?_)))))
  dsimp only
  rw [if_neg (show ¬ ((Value.ref f == Value.none) = true) from Bool.false_ne_true)]
  refine wpAny_bind (wpAny_mono h (fun v s' z => ?_) fun _ _ z => z)
  obtain ⟨b, rfl, q⟩ := z
  exact wpAny_pure (wpAny_truthy_bool q)
end
end G
set_option Elab.async false
set_option linter.all false
set_option maxRecDepth 100000
set_option maxHeartbeats 2000000
/-! O2: rules of x in o, o[i], for x in o. -/
namespace G
open PySem PySem.Spec PyProof.Rows L2 ItX
section
variable {X : Cx} {C g : Addr} {fd : FuncData} {ps : List Str} {n : Nat} {sp : Sp} {E : XK}
/-- x in o -/
def rInO (C : Addr) (sp : Sp) (E : XK) (neg : Bool) : R2 := fun x y H Q => ∃ a dx fs, y = .ref a ∧ H a = some (.ins C dx fs) ∧ sp [y, x] H (fun v H' => ∃ k : Bool, v = .bl k ∧ Q (.bl (cond neg (!k) k)) H') E
theorem in_run (e : OwnM X.K C "__contains__" g) (hb : Binds X.K fd ps []) (F : FnOk X.prog X.w X.K X.mg X.base CX0 n g fd ps sp) (hr : Room n X.A) (hx : Passes CX0 X E) {pins : List (Addr × Obj)} {σ : L2.St} {H : Hp} {s : Shared} {a dx : Addr} {fs : List (Str × V)} {x : V} {v : Value} {R : Bool → V → Hp → Prop}
    (I : Inv X pins σ H s) (rx : RelV x v) (ha : H a = some (.ins C dx fs)) {Q : Bool → Shared → Prop} (q : sp [.ref a, x] H (fun v H' => ∃ k : Bool, v = .bl k ∧ R k v H') E)
    (hq : ∀ k s' H', Inv X pins σ H' s' → R k (.bl k) H' → Q k s') : wpAny (model X.prog X.w) X.A (contains (.ref a) v) Q X.xe s := by
  obtain ⟨ox, od, J⟩ := insX_at I ha
  refine in_own I.kIn J e ?_
  refine wpAny_mono (run_fn (us := [.ref a, v]) (vs := [.ref a, x]) F hr hb .nil hx I (.cons rfl (.cons rx .nil)) q) (fun w s' z => ?_) fun _ _ x => x
  obtain ⟨z', H', I', rz, k, rfl, qz⟩ := z
  obtain rfl : w = Value.bool k := rz
  exact ⟨k, rfl, hq k s' H' I' qz⟩
theorem op_inO (e : OwnM X.K C "__contains__" g) (hb : Binds X.K fd ps []) (F : FnOk X.prog X.w X.K X.mg X.base CX0 n g fd ps sp) (hr : Room n X.A) (hx : Passes CX0 X E) : OpR X (compareOp .In) (rInO C sp E false) := by
  intro pins s σ H x y v u Q I rx ry h
  obtain ⟨a, dx, fs, rfl, ha, q⟩ := h
  cases (show u = Value.ref a from ry)
  refine wpAny_bind (in_run (R := fun k v H' => Q (.bl k) H') e hb F hr hx I rx ha q fun k s' H' I' z => ?_)
  exact wpAny_pure ⟨.bl k, H', I', rfl, z⟩
theorem op_ninO (e : OwnM X.K C "__contains__" g) (hb : Binds X.K fd ps []) (F : FnOk X.prog X.w X.K X.mg X.base CX0 n g fd ps sp) (hr : Room n X.A) (hx : Passes CX0 X E) : OpR X (compareOp .NotIn) (rInO C sp E true) := by
  intro pins s σ H x y v u Q I rx ry h
  obtain ⟨a, dx, fs, rfl, ha, q⟩ := h
  cases (show u = Value.ref a from ry)
  refine wpAny_bind (in_run (R := fun k v H' => Q (.bl (!k)) H') e hb F hr hx I rx ha q fun k s' H' I' z => ?_)
  exact wpAny_pure ⟨.bl (!k), H', I', rfl, z⟩
/-- o[i] -/
def tGetO (C : Addr) (sp : Sp) (E : XK) (ta ti : TE) : TE := fun σ H Q => ta σ H fun x H1 => ti σ H1 fun y H2 => ∃ a dx fs, x = .ref a ∧ H2 a = some (.ins C dx fs) ∧ sp [x, y] H2 Q E
theorem pe_getO {e i : Expr} {pos : Pos} {ta ti : TE} (m : OwnM X.K C "__getitem__" g) (hf : PySem.W.fnIn X.K g = true) (hb : Binds X.K fd ps []) (F : FnOk X.prog X.w X.K X.mg X.base CX0 n g fd ps sp) (hr : Room (n + 1) X.A) (he : PE X e ta) (hi : PE X i ti)
    (hsl : ∀ (a : Addr) (v : Value), subscripted i true (.ref a) v = runValue (.builtin "lifetime.subscript" ⟨[.ref a, v], []⟩) := by intro _ _; with_unfolding_all rfl) : PE X (.Subscript e i pos) (tGetO C sp E0 ta ti) := by
  refine ⟨fun pins s σ H Q I h => ?_⟩
  refine Subscript_ (thn (he.run pins s σ H _ I h) fun v s1 ⟨x, H1, I1, r1, q1⟩ => thn (hi.run pins s1 σ H1 _ I1 q1) fun u s2 ⟨y, H2, I2, r2, a, dx, fs, ex, ha, q⟩ => ?_)
  subst ex
  obtain rfl : v = Value.ref a := r1
  obtain ⟨ox, od, J⟩ := insX_at I2 ha
  obtain ⟨mm, hF⟩ := I2.fr
  refine PySem.W.sub_K hF I2.ok.mod.kin J m.at_ hf m.fn ?_ (hsl a u)
  have hl : ([Value.ref a, u] ++ []).length = ps.length := by
    have := F.len _ _ _ _ q
    exact this
  refine wpAny_call (codeAny_mono (F.run X.A.in1 X.stack s2 H2 ⟨[.ref a, u], []⟩ ([.ref a, u] ++ []) [.ref a, y] _ E0 hr.in1 I2.env0.in1 (hb s2 [.ref a, u] I2.kIn hl) (.cons rfl (.cons r2 .nil)) q) fun r s' hq => ?_)
  cases r with
  | error e => exact False.elim hq
  | ok fl =>
    cases fl with
    | ret u => exact I2.after hq
    | next => exact False.elim hq
    | brk => exact False.elim hq
    | cont => exact False.elim hq
end
/-! ### for x in o -/
/-- as FnOk, its promise knows how many objects there were -/
structure FnS (P : Program) (w : World) (K : PySem.W.Frag) (mg : Str → Option Value) (base : Heap) (k : Nat) (f : Addr) (fd : FuncData) (ps : List Str) (sp : Nat → Sp) : Prop where
  go : ∀ (A : Around) (outer : List Env) (s : Shared) (H : Hp) (args : Args) (us : List Value) (vs : List V) (Q : VK) (E : XK),
    Room k A → Env0 P w K mg base A outer s H → BindsTo s fd args (ps.zip us) → Vals vs us → sp s.heap.objs.size vs H Q E → codeAny (model P w) A (.call (.ref f) args) (CR CX0 outer P w H s Q E) s
section
variable {P : Program} {w : World} {K : PySem.W.Frag} {mg : Str → Option Value} {base : Heap}
theorem FnS.of_body {x qual : Str} {st : Stmt} {f : Addr} {fd : FuncData} {N ps : List Str} {k : Nat} {sp : Nat → Sp} (F : Fun K x qual st f fd) (S : FnScope N ps (defScope st))
    (size : ∀ n vs H Q E, sp n vs H Q E → vs.length = ps.length)
    (body : ∀ (cdv : Value) (A : Around) (outer : List Env) (s : Shared) (H : Hp) (vs : List V) (Q : VK) (E : XK),
      Room k (A.deeper (envOfC qual (defScope st) s.heap.objs.size f cdv)) → sp s.heap.objs.size vs H Q E →
      ∃ t, PSs (cxOf CX0 P w K mg base N qual (defScope st) f cdv A outer s H E).nox (defBody st) t ∧ t { nx := fun _ H' => Q .non H', rt := Q } (start N vs) H) :
    FnS P w K mg base (k + 1) f fd ps sp := by
  obtain ⟨_, _, _, _, _, _, cdv, _, _, rfl, lk, hcd⟩ := F.ex
  refine ⟨fun A outer s H args us vs Q E hr e0 hb r h => ?_⟩
  have inS : K.In s.heap := e0.mod.kin.keeps fun b o e => (e0.bs b o e).1
  have noL : s.heap.NoLimit := e0.mod.nolimit.keeps fun b o e => (e0.bs b o e).1
  refine codeAny_call_function hr.depth (inS _ _ lk) rfl S.co S.gen rfl
    (PySem.W.codeRec_of inS hcd) (hb _ _ _ _ ?_)
  refine wpAny_newFunctionEnv_cells S.kind
    (fun ⟨n, v⟩ hy => ?_) fun env he s1 x => ?_
  · rcases S.par n (List.of_mem_zip hy).1 with q | q
    · exact Or.inl q
    · exact Or.inr ⟨q, PySem.W.cellsFrom_some _ _ _ (Or.inl q)⟩
  · subst he
    refine ⟨noL.keeps x.toInCall.keep, codeAny_func ?_⟩
    obtain ⟨t, ht, hq⟩ := body cdv A outer s H vs Q E (hr.deeper _) h
    have J := inv_start (CX := CX0) (P := P) (w := w) (K := K) (mg := mg) (base := base) (E := E) S hr.hd e0 (size _ _ _ _ _ h) r x
    refine wpAny_mono (ht.nox.run [] s1 (start N vs) H _ J hq) (fun fl s' z => ?_) fun e s' z => z
    cases fl with
    | ret u =>
      obtain ⟨v, σ', H', J', rv, q⟩ := z
      exact ⟨v, H', J'.os, J'.bare, J'.base, J'.hok, rv, q⟩
    | next =>
      obtain ⟨σ', H', J', q⟩ := z
      exact ⟨.non, H', J'.os, J'.bare, J'.base, J'.hok, rfl, q⟩
    | brk =>
      obtain ⟨_, _, _, q⟩ := z
      exact q.elim
    | cont =>
      obtain ⟨_, _, _, q⟩ := z
      exact q.elim
end
/-- an __iter__ that gives the iterator of the list in the field fld -/
def spIter (K : PySem.W.Frag) (C : Addr) (fld : Str) (n : Nat) : Sp := fun vs H Q _ => ∃ (a dx l : Addr) (fs : List (Str × V)) (xs : List V), vs = [.ref a] ∧ H a = some (.ins C dx fs) ∧ fs.lookup fld = some (.ref l) ∧ SqL K H l xs ∧
  ∀ it, H it = none → n ≤ it → Q (.ref it) (upd H it (ItO l it 0))
def iOwn (K : PySem.W.Frag) (C : Addr) (fld : Str) (te : TE) : TI := fun σ H R => te σ H fun x H1 => ∃ (a dx l : Addr) (fs : List (Str × V)) (xs : List V), x = .ref a ∧ H1 a = some (.ins C dx fs) ∧ fs.lookup fld = some (.ref l) ∧ SqL K H1 l xs ∧ R (Itl K l) H1
theorem pi_own {X : Cx} {C g : Addr} {fd : FuncData} {n : Nat} {fld : Str} {e tg : Expr} {te : TE} (he : PE X e te) (m : OwnM X.K C "__iter__" g) (hb : Binds X.K fd ["self"] []) (F : FnS X.prog X.w X.K X.mg X.base n g fd ["self"] (spIter X.K C fld)) (hr : Room n X.A) : PI X tg e (iOwn X.K C fld te) := by
  refine ⟨fun pins s σ H R I h => ?_⟩
  refine thn (he.run pins s σ H _ I h) fun u s1 ⟨x, H1, I1, rx, a, dx, l, fs, xs, ex, ea, lk, sq, q⟩ => ?_
  subst ex
  obtain rfl : u = Value.ref a := rx
  obtain ⟨ox, od, J⟩ := insX_at I1 ea
  obtain ⟨mm, hF⟩ := I1.fr
  refine PySem.W.owit_iter hF I1.ok.mod.kin J m.at_ m.fn ?_
  refine wpAny_call (codeAny_mono (F.go X.A X.stack s1 H1 ⟨[Value.ref a], []⟩ ([Value.ref a] ++ []) [V.ref a] (fun v H2 => ∃ it, v = .ref it ∧ H1 it = none ∧ X.s_0.heap.objs.size ≤ it ∧ H2 = upd H1 it (ItO l it 0)) E0 hr I1.env0 (hb s1 [Value.ref a] I1.kIn rfl) (show Vals [V.ref a] [Value.ref a] from .cons rfl .nil)
    ⟨a, dx, l, fs, xs, rfl, ea, lk, sq, fun it hn hs => ⟨it, rfl, hn, Nat.le_trans I1.sz hs, rfl⟩⟩) fun r s' hq => ?_)
  cases r with
  | error e => exact False.elim hq
  | ok fl =>
    cases fl with
    | ret u =>
      obtain ⟨v, H', I2, rv, it, rfl, hn, hs, rfl⟩ := I1.after hq
      cases (show u = Value.ref it from rv)
      have hi : (upd H1 it (ItO l it 0)) it = some (ItO l it 0) := upd_same
      have eo := itO_get I2 hi
      have st : s'.heap.IsListIter it l (0 : Nat) := ⟨_, eo, rfl, rfl⟩
      have hT : s'.TypeIs (.ref it) "list_iterator" := ⟨_, eo, rfl⟩
      unfold PySem.W.OwitIt
      refine wpAny_specialOf (name := Str.ofString "__next__") hT slot_listiter_next.lookup ?_
      have hi' := hi
      unfold ItO at hi'
      have ed : dropH (upd H1 it (ItO l it 0)) it = H1 := by
        funext b
        by_cases hb : b = it
        · rw [hb, hn]
          exact dropH_same
        · rw [dropH_ne hb, upd_ne hb]
      refine ⟨it, [it], _, _, dropH (upd H1 it (ItO l it 0)) it, rfl, inv_drop I2 hi', turn_list l it, st, fun b hb => ?_, ?_⟩
      · have e : b = it := by simpa using hb
        rw [e]
        exact inv_fp I2 hi hs
      · rw [ed]
        exact q
    | next => exact False.elim hq
    | brk => exact False.elim hq
    | cont => exact False.elim hq
end G
set_option Elab.async false
set_option linter.all false
set_option maxRecDepth 100000
set_option maxHeartbeats 2000000
/-! O3: xs[::-1], isinstance(x, (list, tuple)), lists of the same things compared. -/
namespace G
open PySem PySem.Spec PyProof.Rows L2 HT
theorem pick_rev (its : List Value) : slicePick its.toArray none none (some (-1)) = its.reverse.toArray := by
  have e : ∀ k, k ≤ its.length → (((List.range k).map fun (m : Nat) => (((its.length : Nat) : Int) - 1 + (-1) * (m : Int)).toNat).filterMap fun j => its.toArray[j]?) = its.reverse.take k := by
    intro k
    induction k with
    | zero =>
      intro _
      simp
    | succ k ih =>
      intro hk
      rw [List.range_succ, List.map_append, List.filterMap_append, ih (by omega), List.take_add_one]
      congr 1
      have e1 : (((its.length : Nat) : Int) - 1 + (-1) * (k : Int)).toNat = its.length - 1 - k := by omega
      have hk2 : its.length - 1 - k < its.length := by omega
      simp only [List.map_cons, List.map_nil, List.filterMap_cons, List.filterMap_nil]
      rw [e1, List.getElem?_toArray, List.getElem?_eq_getElem hk2, List.getElem?_reverse (by omega)]
      simp [hk2]
  have r : sliceRange ((its.length : Int) - 1) (-1) (-1) = (List.range its.length).map fun (m : Nat) => (((its.length : Nat) : Int) - 1 + (-1) * (m : Int)).toNat := by
    unfold sliceRange
    have c : (if (-1 : Int) > 0 then (if (its.length : Int) - 1 < -1 then ((-1) - ((its.length : Int) - 1) + (-1) - 1) / (-1) else 0) else (if (its.length : Int) - 1 > -1 then ((its.length : Int) - 1 - (-1) - (-1) - 1) / (-(-1)) else 0)).toNat = its.length := by
      rw [if_neg (by decide)]
      split
      · rw [show (-(-1) : Int) = 1 by decide, Int.ediv_one]
        omega
      · omega
    show (List.range _).map _ = _
    rw [c]
  have b : sliceBounds none none (some (-1)) its.toArray.size = ((its.length : Int) - 1, -1, -1) := by
    rw [List.size_toArray]
    rfl
  unfold slicePick
  rw [b]
  dsimp only
  rw [r, e _ (Nat.le_refl _), List.take_of_length_le (by rw [List.length_reverse]; exact Nat.le_refl _)]
def tBackL (K : PySem.W.Frag) (te : TE) (tp : TO) : TE := fun σ H Q => te σ H fun x H1 => tp σ H1 fun o H2 => ∃ a xs, x = .ref a ∧ SqL K H2 a xs ∧ o = some (-1) ∧ ∀ p, H2 p = none → Q (.ref p) (upd H2 p (.lst xs.reverse))
theorem pe_backL {X : Cx} {e st : Expr} {te : TE} {tp : TO} {p3 pos : Pos} (he : PE X e te) (hst : PO X (some st) tp)
    (hsub : ∀ a l : Addr, subscripted (.Slice none none (some st) p3) false (.ref a) (.ref l) = operate [.ref a, .ref l] (getItem (.ref a) (.ref l)) := by intro _ _; with_unfolding_all rfl) :
    PE X (.Subscript e (.Slice none none (some st) p3) pos) (tBackL X.K te tp) := by
  refine ⟨fun pins s σ H Q I h => ?_⟩
  refine Subscript_ (thn (he.run pins s σ H _ I h) fun v s1 ⟨x, H1, I1, r1, q1⟩ => ?_)
  refine wpAny_Slice (thn (po_none.run pins s1 σ H1 (fun o H2 => o = none ∧ H2 = H1) I1 ⟨rfl, rfl⟩) fun vl s2 ⟨l, H2, I2, pl, el, e2⟩ => ?_)
  subst el e2
  refine thn (po_none.run pins s2 σ H2 (fun o H3 => o = none ∧ H3 = H2) I2 ⟨rfl, rfl⟩) fun vu s3 ⟨u, H3, I3, pu, eu, e3⟩ => ?_
  subst eu e3
  refine thn (hst.run pins s3 σ H3 _ I3 q1) fun vs s4 ⟨o, H4, I4, ps, a, xs, ex, hx, eo, q⟩ => ?_
  subst ex eo
  cases r1
  have I5 : Inv X pins σ H4 { s4 with heap := s4.heap.push { cls := .type "slice", data := .fields #[vl, vu, vs] } } := I4.kept (t' := s4.toks) fun b ob q => Heap.get?_push_of_some _ q
  obtain ⟨its, r, ht, hz⟩ := I5.list hx
  have hlen : its.length = xs.length := r.length.symm
  show wpAny (model X.prog X.w) X.A (subscriptTail e (.Slice none none (some st) p3) (.ref a) (.ref s4.heap.objs.size)) (EP X pins σ Q) X.xe { s4 with heap := s4.heap.push { cls := .type "slice", data := .fields #[vl, vu, vs] } }
  refine tail_any (ops := [.ref a, .ref s4.heap.objs.size]) ht.isList.typeIs slot_list_getitem.lookup ?_ (hsub _ _)
  refine wpAny_getItem_list_slice ht.isList (Heap.IsSliceOf.new _ _ _ _) pl pu ps (by decide) ?_ (by rw [List.size_toArray]; omega)
  rw [pick_rev]
  refine ⟨.ref _, _, I5.laid (t' := s4.toks) (o := .lst xs.reverse) (fun b ob q => Heap.get?_push_of_some _ q) (Nat.le_refl _) ?_, rfl, q _ (I5.hok.fresh (Nat.le_refl _))⟩
  exact ⟨by rw [List.length_reverse]; exact hz, _, 0, Vals.reverse r, Heap.get?_push_size _ rfl⟩
/-! ### isinstance(x, (list, tuple)) -/
def tIsLT (K : PySem.W.Frag) (te : TE) : TE := fun σ H Q => te σ H fun x H1 => (∃ t xs, x = .ref t ∧ (SqL K H1 t xs ∨ SqT K H1 t xs)) ∧ ∀ T, H1 T = none → Q (.bl true) (upd H1 T (.tup [.ty "list", .ty "tuple"]))
theorem lt_list (t : Addr) : AnswersAll (fun s => s.TypeIs (.ref t) "list") (.ref t) [.type "list", .type "tuple"] [true, false] :=
  ⟨Answers.of_true PySem.F.isi_meta_list sub_list_self, Answers.of_false_list (by decide +kernel) PySem.F.isi_meta_tuple PySem.F.sub_list_tuple, True.intro⟩
theorem lt_tuple (t : Addr) : AnswersAll (fun s => s.TypeIs (.ref t) "tuple") (.ref t) [.type "list", .type "tuple"] [false, true] :=
  ⟨Answers.of_false_tuple (by decide +kernel) PySem.F.isi_meta_list PySem.F.sub_tuple_list, Answers.of_true PySem.F.isi_meta_tuple PySem.F.isi_sub_tuple, True.intro⟩
theorem pe_isiLT {X : Cx} {p pos tpos : Pos} {e : Expr} {es : List Expr} {te : TE} {k : Nat} (he : PE X e te) (hg : Gl X "isinstance") (hm : X.mg "isinstance" = none) (hes : PA X es (tCons (tC (.ty "list")) (tCons (tC (.ty "tuple")) tNil)))
    (n1 : starEach [e, .Tuple es k tpos] X.env = (false, eval e X.env) :: starEach [.Tuple es k tpos] X.env := by rfl) (n2 : starEach [.Tuple es k tpos] X.env = (false, eval (.Tuple es k tpos) X.env) :: starEach [] X.env := by rfl)
    (n3 : (backTo pos (starEach [.Tuple es k tpos] X.env)).any (·.1) = false := by rfl) : PE X (.Call (.Name "isinstance" p) [e, .Tuple es k tpos] [] pos) (tIsLT X.K te) := by
  refine ⟨fun pins s σ H Q I h => ?_⟩
  refine wpAny_Call_Name_kw (ld_blt I hg hm PyProof.Rows.boot_isinstance ?_ (by decide) (by decide))
  refine PyProof.Rows.callWith_builtin1 ?_ n1 n3
  rw [n1]
  show wpAny _ _ (spliced ((false, eval e X.env) :: backTo pos (starEach [.Tuple es k tpos] X.env))) _ _ s
  refine Calls.spliced_cons (thn (he.run pins s σ H _ I h) fun u s1 ⟨x, H1, I1, r1, ⟨t, xs, ex, hT⟩, q1⟩ => ?_)
  subst ex
  obtain rfl : u = Value.ref t := r1
  rw [n2]
  show wpAny _ _ (spliced ((false, eval (.Tuple es k tpos) X.env) :: backTo pos (starEach [] X.env))) _ _ s1
  refine Calls.spliced_cons (wpAny_Tuple_spliced (thn (hes.run tpos pins s1 σ H1 (fun ys H' => ys = [.ty "list", .ty "tuple"] ∧ H' = H1) I1 ⟨rfl, rfl⟩) fun us s2 ⟨ys, H2, I2, r2, ey, eH⟩ => ?_))
  subst ey eH
  have eu := vals_ty2 r2
  subst eu
  have two : 2 ≤ sizeLine := by rw [sizeLine_eq]; omega
  refine ⟨two, ?_⟩
  have fresh := I2.hok.fresh (Nat.le_refl s2.heap.objs.size)
  have I3 := I2.laid (a := s2.heap.objs.size) (o := .tup [.ty "list", .ty "tuple"]) (h' := s2.heap.push { cls := .type "tuple", data := .seq [Value.type "list", Value.type "tuple"].toArray }) (t' := s2.toks) (fun b u e => Heap.get?_push_of_some _ e) (Nat.le_refl _)
    ⟨two, [.type "list", .type "tuple"], r2, ⟨_, Heap.get?_push_size _ rfl, rfl, _, rfl⟩⟩
  refine Calls.spliced_nil ?_
  rcases hT with hT | hT
  · obtain ⟨its, _, pl, _⟩ := I2.list hT
    obtain ⟨o, ho, hc, _⟩ := pl.isList
    exact call_isinstance (isinstance_tuple (x := .ref t) (Tx := "list") (tp := s2.heap.objs.size) (lt_list t)) ⟨⟨o, Heap.get?_push_of_some _ ho, hc⟩, Heap.get?_push_size _ rfl, fun tk => ⟨.bl true, _, I3.tok tk, rfl, q1 _ fresh⟩⟩
  · obtain ⟨its, _, ⟨o, ho, hc, _⟩, _⟩ := I2.tuple hT
    exact call_isinstance (isinstance_tuple (x := .ref t) (Tx := "tuple") (tp := s2.heap.objs.size) (lt_tuple t)) ⟨⟨o, Heap.get?_push_of_some _ ho, hc⟩, Heap.get?_push_size _ rfl, fun tk => ⟨.bl true, _, I3.tok tk, rfl, q1 _ fresh⟩⟩
/-! ### lists of the same things -/
def sameB : V → Bool
  | .ref _ => true
  | v => flatB v
theorem items_same {A : Around} {s : Shared} : ∀ {xs : List V} {us ws : List Value}, (∀ v ∈ xs, sameB v = true) → Vals xs us → Vals xs ws → ∀ j (h1 : j < us.length) (h2 : j < ws.length), SeqAt.EqAt A s us[j] ws[j] true
  | [], _, _, _, .nil, .nil, j, h1, _ => absurd h1 (Nat.not_lt_zero j)
  | x :: xs, _, _, hf, .cons r1 t1, .cons r2 t2, 0, _, _ => by
    have f := hf x List.mem_cons_self
    cases x with
    | ref a =>
      cases r1
      cases r2
      exact SeqAt.EqAt.same _
    | _ => exact eqAt_same r1 r2 f
  | x :: xs, _, _, hf, .cons r1 t1, .cons r2 t2, j + 1, h1, h2 => items_same (fun v hv => hf v (List.mem_cons_of_mem _ hv)) t1 t2 j (Nat.lt_of_succ_lt_succ h1) (Nat.lt_of_succ_lt_succ h2)
section
variable {X : Cx}
def rNeS (K : PySem.W.Frag) : R2 := fun x y H Q => ∃ a b xs, x = .ref a ∧ y = .ref b ∧ SqL K H a xs ∧ SqL K H b xs ∧ (∀ v ∈ xs, sameB v = true) ∧ Q (.bl false) H
theorem op_neS (hu : X.A.units < cLine) : OpR X (compareOp .NotEq) (rNeS X.K) := by
  intro pins s σ H x y v u Q I rx ry h
  obtain ⟨a, b, xs, rfl, rfl, ha, hb, hf, q⟩ := h
  cases (show v = Value.ref a from rx)
  cases (show u = Value.ref b from ry)
  obtain ⟨us, r1, p1, _⟩ := I.list ha
  obtain ⟨ws, r2, p2, _⟩ := I.list hb
  have hsz : us.toArray.size = ws.toArray.size := by rw [List.size_toArray, List.size_toArray, ← r1.length, ← r2.length]
  refine SeqAt.RcNeAt.lists (e := fun _ => true) p1.isList p2.isList hsz hu (fun j h1 h2 => ?_) X.prog X.w _ _ ?_
  · have k := items_same (A := X.A.in1) (s := s) hf r1 r2 j (by simpa using h1) (by simpa using h2)
    simpa using k
  · rw [show ((List.range us.toArray.size).all fun _ => true) = true from List.all_eq_true.mpr fun _ _ => rfl]
    exact ⟨.bl false, H, I, rfl, q⟩
end
end G
set_option Elab.async false
set_option linter.all false
set_option maxRecDepth 100000
set_option maxHeartbeats 2000000
/-! O4: dicts of ints compared; a list compared with an empty one; things in a drawn order. -/
namespace G
open PySem PySem.Spec PyProof.Rows L2
def dEq (ks ls : List (Key × V)) : Bool := ks.length == ls.length && ks.all fun p => decide (valV ls p.1 = some p.2)
def AllInt (ks : List (Key × V)) : Prop := ∀ p ∈ ks, ∃ i, p.2 = V.int i
theorem int_valV {ls : List (Key × V)} (h : AllInt ls) {k : Key} {v : V} (e : valV ls k = some v) : ∃ i, v = V.int i := by
  have h2 : Option.map (fun p : Key × V => p.2) (ls.find? fun kv => decide (kv.1 = k)) = some v := e
  obtain ⟨p, hp, rfl⟩ := Option.map_eq_some_iff.mp h2
  exact h p (List.mem_of_find?_eq_some hp)
theorem hits_int {A : Around} {s : Shared} {ls : List (Key × V)} {vb : List (Key × Value)} (rb : KV ls vb) (hl : AllInt ls) {ks : List (Key × V)} {va : List (Key × Value)} (ra : KV ks va) :
    AllInt ks → PySem.W.KeqHits A s vb va (ks.all fun p => decide (valV ls p.1 = some p.2)) := by
  unfold KV at ra
  induction ra with
  | nil => intro _; exact .nil
  | @cons p q ps qs h t ih =>
    intro hp
    obtain ⟨h1, h2⟩ := h
    obtain ⟨i, ei⟩ := hp p List.mem_cons_self
    have ih' := ih fun p' hm => hp p' (List.mem_cons_of_mem _ hm)
    obtain ⟨k, v⟩ := q
    have h1' : p.1 = k := h1
    subst h1'
    rw [ei] at h2
    obtain ⟨t1, rfl⟩ := (show ∃ t, v = Value.int i t from h2)
    rw [List.all_cons]
    cases e : valV ls p.1 with
    | none =>
      have rr : RelO none (valueAt vb p.1) := by rw [← e]; exact rb.val p.1
      have hn : valueAt vb p.1 = none := by
        cases z : valueAt vb p.1 with
        | none => rfl
        | some y =>
          rw [z] at rr
          exact rr.elim
      rw [decide_eq_false (show ¬ (none = some p.2) from fun z => nomatch z), Bool.false_and]
      exact .miss hn
    | some x =>
      obtain ⟨j, rfl⟩ := int_valV hl e
      have rr : RelO (some (.int j)) (valueAt vb p.1) := by rw [← e]; exact rb.val p.1
      obtain ⟨y, hy, ry⟩ := rr.some_of
      obtain ⟨t2, rfl⟩ := (show ∃ t, y = Value.int j t from ry)
      rw [ei]
      have q := SeqAt.EqAt.int_int (A := A) (s := s) i t1 j t2
      have e2 : decide (some (V.int j) = some (V.int i)) = (i == j) := by
        by_cases z : i = j
        · rw [z, decide_eq_true rfl]
          exact (beq_self_eq_true _).symm
        · rw [decide_eq_false fun h => z (V.int.inj (Option.some.inj h)).symm]
          exact (Bool.eq_false_iff.mpr fun h => z (beq_iff_eq.mp h)).symm
      rw [e2]
      exact .hit hy q ih'
section
variable {X : Cx}
def rNeDI : R2 := fun x y H Q => ∃ a b ks ls, x = .ref a ∧ y = .ref b ∧ H a = some (.dK ks) ∧ H b = some (.dK ls) ∧ AllInt ks ∧ AllInt ls ∧ Q (.bl (!dEq ks ls)) H
theorem op_neDI (hu : X.A.units < cLine) : OpR X (compareOp .NotEq) rNeDI := by
  intro pins s σ H x y v u Q I rx ry h
  obtain ⟨a, b, ks, ls, rfl, rfl, ea, eb, ik, il, q⟩ := h
  obtain rfl : v = Value.ref a := rx
  obtain rfl : u = Value.ref b := ry
  obtain ⟨_, ya, va, ra, da⟩ := (show ObjOk X.prog X.w H s.heap a (.dK ks) from I.hok a _ ea)
  obtain ⟨_, yb, vb, rb, db⟩ := (show ObjOk X.prog X.w H s.heap b (.dK ls) from I.hok b _ eb)
  have e : dEq ks ls = (va.length == vb.length && ks.all fun p => decide (valV ls p.1 = some p.2)) := by
    rw [← ra.length, ← rb.length]
    rfl
  exact PySem.W.keq_ne (knd := mixKind X.prog X.w) ya yb da db hu (fun _ => hits_int rb il ra ik) (fin_bl I q (by rw [e]))
def rNeNil (K : PySem.W.Frag) : R2 := fun x y H Q => ∃ a b xs, x = .ref a ∧ y = .ref b ∧ SqL K H a xs ∧ SqL K H b [] ∧ Q (.bl (!xs.isEmpty)) H
theorem op_neNil (hu : X.A.units < cLine) : OpR X (compareOp .NotEq) (rNeNil X.K) := by
  intro pins s σ H x y v u Q I rx ry h
  obtain ⟨a, b, xs, rfl, rfl, ha, hb, q⟩ := h
  cases (show v = Value.ref a from rx)
  cases (show u = Value.ref b from ry)
  obtain ⟨us, r1, p1, _⟩ := I.list ha
  obtain ⟨ws, r2, p2, _⟩ := I.list hb
  cases r2
  cases xs with
  | nil =>
    cases r1
    refine SeqAt.RcNeAt.lists (e := fun _ => true) p1.isList p2.isList rfl hu (fun j h1 h2 => absurd h1 (Nat.not_lt_zero j)) X.prog X.w _ _ ?_
    exact ⟨.bl false, H, I, rfl, q⟩
  | cons x xs =>
    refine SeqAt.RcNeAt.lists_lengths p1.isList p2.isList ?_ hu X.prog X.w _ _ ?_
    · have := r1.length
      rw [List.length_cons] at this
      rw [List.size_toArray, List.size_toArray, ← this]
      rfl
    · exact ⟨.bl true, H, I, rfl, q⟩
end
/-- things in a drawn order -/
def spMixR (K : PySem.W.Frag) : Sp := fun vs H Q _ => ∃ (b a : Addr) (n : Nat) (xs : List V), vs = [.ref b, .ref a] ∧ BoxAt H b n ∧ n + xs.length ≤ 100000 ∧ SqL K H a xs ∧
  ∀ (p : Addr) (H' : Hp) (ys : List V), ys.Perm xs → H p = none → H' p = some (.lst ys) → BoxAt H' b (n + xs.length) → But b H H' → Q (.ref p) H'
section
variable {P : Program} {w : World} {K : PySem.W.Frag} {mg : Str → Option Value} {base : Heap}
theorem ok_mixR {f fT : Addr} {fd fdT : FuncData} (F : Fun K "_law_mixed" "_law_mixed" sMixed f fd) (T : Fun K "_law_take" "_law_take" sTake fT fdT) (bT : Binds K fdT ["_law_box_here", "_law_many"] []) (gT : mg "_law_take" = some (.ref fT))
    (ml : mg "len" = none) (mL : mg "list" = none) : FnOk P w K mg base CX0 2 f fd ["_law_box_here", "_law_some"] (spMixR K) := by
  refine F.ok scMixed (fun vs H Q E h => ?_) (fun cdv A outer s H vs Q E hr h => ?_)
  · obtain ⟨b, a, n, ps, rfl, _⟩ := h
    rfl
  · obtain ⟨b, a, n, ps, rfl, B, hn, hS, q⟩ := h
    have big : ∀ {k : Nat}, k ≤ 100000 → k < sizeLine := fun {k} h => by
      rw [sizeLine_eq]
      omega
    refine ⟨_, pss_cons (ps_par (i := 2) (j := 3) (by rfl) scMixed.nd rfl rfl (by decide) rfl rfl (pa_cons (pe_callTy call_list_of (by rfl) mL (by decide +kernel) (pa_cons (pv 1) pa_nil)) (pa_cons (pe_lst pa_nil) pa_nil)) (by rfl))
      (pss_cons (ps_while PassesOwn.never (pt_cmpR (op_neNil (Nat.lt_of_succ_lt (hu_of hr))) (pv 2) (pe_lst pa_nil) (nomark _))
        (pss_one (ps_expr (pe_bm PySem.F.plainAttrs_list PySem.F.slot_list_append PySem.F.type_list_append mt_append (pv 3) (pa_cons
          (pe_bm PySem.F.plainAttrs_list PySem.F.slot_list_pop PySem.F.type_list_pop mt_popAt (pv 2)
            (pa_cons (pe_call (ok_take T) hr rfl gT T.kp bT .nil pass0 (pa_cons (pv 0) (pa_cons (pe_callB call_len_seq (by rfl) ml PySem.boot_len (pa_cons (pv 2) pa_nil)) pa_nil))) pa_nil)) pa_nil)))))
      (pss_one (ps_ret (pv 3)))), ?_⟩
    refine ⟨_, rfl, a, _, rfl, .inl hS, fun l hl => ⟨by decide, fun p hp0 => ⟨_, _, rfl, ?_⟩⟩⟩
    have nlp : l ≠ p := fun z => by
      rw [z, upd_same] at hp0
      cases hp0
    have hpn : H p = none := (upd_ne nlp.symm).symm.trans hp0
    have nbl : b ≠ l := by
      obtain ⟨_, _, _, e, _⟩ := B
      exact ne_of_none e hl
    have nbp : b ≠ p := by
      obtain ⟨_, _, _, e, _⟩ := B
      exact ne_of_none e hpn
    refine ⟨fun m σ H1 => ∃ qs rs : List V, m = qs.length ∧ σ = [some (.ref b), some (.ref a), some (.ref l), some (.ref p)] ∧ H1 l = some (.lst qs) ∧ H1 p = some (.lst rs) ∧
        (rs ++ qs).Perm ps ∧ BoxAt H1 b (n + rs.length) ∧ But b H H1, ⟨ps.length, ps, [], rfl, rfl, ?_, upd_same, .refl _, ?_, ?_⟩, ?_⟩
    · rw [upd_ne nlp, upd_same]
    · exact (B.keep fun o e => by rw [upd_ne nbp, upd_ne nbl]; exact e).mono (Nat.le_add_right _ _)
    · exact (But.new hl).trans (But.new hp0)
    · rintro m σ H1 ⟨qs, rs, rfl, rfl, el, ep, pm, B1, s1⟩
      have hlen : rs.length + qs.length = ps.length := by
        rw [← List.length_append]
        exact pm.length_eq
      refine ⟨_, rfl, by decide, fun t ht => ?_⟩
      have nlt : l ≠ t := ne_of_none el ht
      have s2 : But b H (upd H1 t (.lst [])) := s1.trans (But.new ht)
      refine ⟨l, t, qs, rfl, rfl, .of ((upd_ne nlt).trans el), .of upd_same, _, rfl, ?_⟩
      · cases qs with
        | nil =>
          refine iteF ?_
          refine ⟨_, rfl, ?_⟩
          rw [List.append_nil] at pm
          refine q p _ rs pm hpn ?_ ?_ s2
          · rw [upd_ne (ne_of_none ep ht)]
            exact ep
          · have e : rs.length = ps.length := pm.length_eq
            rw [← e]
            exact B1.keep fun o e => by rw [upd_ne (ne_of_none e ht)]; exact e
        | cons y ys =>
          refine iteT ?_
          have hlen' : rs.length + (ys.length + 1) = ps.length := hlen
          refine ⟨fun σ' H' => ∃ m', m' < (y :: ys).length ∧ ∃ qs rs : List V, m' = qs.length ∧ σ' = [some (.ref b), some (.ref a), some (.ref l), some (.ref p)] ∧ H' l = some (.lst qs) ∧ H' p = some (.lst rs) ∧
            (rs ++ qs).Perm ps ∧ BoxAt H' b (n + rs.length) ∧ But b H H', fun _ _ h => h, ?_⟩
          have ep2 : upd H1 t (.lst []) p = some (.lst rs) := by
            rw [upd_ne (ne_of_none ep ht)]
            exact ep
          have el2 : upd H1 t (.lst []) l = some (.lst (y :: ys)) := by
            rw [upd_ne nlt]
            exact el
          have B2 : BoxAt (upd H1 t (.lst [])) b (n + rs.length) := B1.keep fun o e => by rw [upd_ne (ne_of_none e ht)]; exact e
          refine ⟨_, rfl, .inl ⟨rfl, _, .of ep2⟩, _, rfl, .inl ⟨rfl, _, .of el2⟩, _, rfl, _, rfl, l, _, rfl, .inl (.of el2), b, _, n + rs.length, rfl, B2, by omega, ?_, ?_, fun r H3 r0 r1 B3 s3 => ?_⟩
          · show (0 : Int) < ((ys.length + 1 : Nat) : Int)
            omega
          · show ((ys.length + 1 : Nat) : Int) < _
            have : ys.length + 1 ≤ 100000 := by omega
            omega
          · obtain ⟨j, rfl, hj⟩ := draw_at r0 r1 (n := (y :: ys).length) rfl
            have el3 : H3 l = some (.lst (y :: ys)) := s3 _ _ nbl.symm el2
            have ep3 : H3 p = some (.lst rs) := s3 _ _ nbp.symm ep2
            have hj5 : j < 100000 := by
              have e : (y :: ys).length = ys.length + 1 := rfl
              omega
            refine ⟨l, _, (j : Int), j, (y :: ys)[j], rfl, rfl, el3, by omega, by omega, ?_, ?_, ?_⟩
            · have := PySem.seqIndex_of (k := (j : Int)) (n := (y :: ys).length) (by omega) (by omega)
              rw [this]
              rfl
            · exact List.getElem?_eq_getElem hj
            · refine ⟨p, _, _, rfl, rfl, by rw [upd_ne nlp.symm]; exact ep3, ?_, ?_⟩
              · exact big (by omega)
              · refine ⟨((y :: ys).eraseIdx j).length, ?_, (y :: ys).eraseIdx j, rs ++ [(y :: ys)[j]], rfl, rfl, ?_, ?_, ?_, ?_, ?_⟩
                · rw [List.length_eraseIdx, if_pos hj]
                  show (ys.length + 1) - 1 < ys.length + 1
                  omega
                · rw [upd_ne nlp, upd_same]
                · rw [upd_same]
                · rw [List.append_assoc]
                  refine List.Perm.trans (List.Perm.append_left rs ?_) pm
                  exact erase_perm hj
                · rw [List.length_append, List.length_singleton]
                  exact B3.keep fun o e => by rw [upd_ne nbp, upd_ne nbl]; exact e
                · intro c o nc e
                  have e3 := (s2.trans s3) c o nc e
                  rw [upd_ne (ne_of_none e hpn), upd_ne (ne_of_none e hl)]
                  exact e3
end
end G
set_option Elab.async false
set_option linter.all false
set_option maxRecDepth 100000
set_option maxHeartbeats 2000000
/-! Q2: str(x) by an own __str__; keys that differ stay so. -/
namespace G
open PySem PySem.Spec PyProof.Rows L2
section
variable {X : Cx} {C g : Addr} {fd : FuncData} {ps : List Str} {n : Nat} {sp : Sp} {E : XK}
def rStrB (C : Addr) (sp : Sp) (E : XK) : List V → Hp → VK → Prop := fun xs H Q => ∃ a dx fs, xs = [V.ref a] ∧ H a = some (.ins C dx fs) ∧ sp [.ref a] H (fun z H' => ∃ y, z = .str y ∧ Q z H') E
theorem call_strB (hs : PySem.W.findIn X.K (.ref C) "__str__" = some (some (.ref g))) (hf : PySem.W.isFn X.K (.ref g) = true) (hb : Binds X.K fd ps []) (F : FnOk X.prog X.w X.K X.mg X.base CX0 n g fd ps sp) (hr : Room (n + 2) X.A) : CallR X (.type "str") (rStrB C sp E) := by
  intro pins s σ H xs us Q I r h
  obtain ⟨a, dx, fs, rfl, ha, q⟩ := h
  obtain ⟨u, rfl, ru⟩ := r.one
  cases (show u = Value.ref a from ru)
  obtain ⟨ox, od, J⟩ := insX_at I ha
  have hr2 : Room n X.A.in1.in1 := (show Room (n + 1) X.A.in1 from Room.in1 hr).in1
  refine PySem.W.kso_call (by have := hr2.units; omega) I.kIn J hs hf ?_
  have hl : ([Value.ref a] ++ []).length = ps.length := by
    have := F.len _ _ _ _ q
    exact this
  refine wpAny_call (codeAny_mono (F.run X.A.in1.in1 X.stack s H ⟨[Value.ref a], []⟩ ([Value.ref a] ++ []) [V.ref a] _ E hr2 I.env0.in1.in1 (hb s [Value.ref a] I.kIn hl) (show Vals [V.ref a] [Value.ref a] from .cons rfl .nil) q) fun r s' hq => ?_)
  cases r with
  | error e => exact False.elim hq
  | ok fl =>
    cases fl with
    | ret u =>
      obtain ⟨v, H', I2, rv, y, rfl, q⟩ := I.after hq
      obtain ⟨t, rfl⟩ := (show ∃ t, u = Value.str y t from rv)
      exact ⟨.str y, H', I2, ⟨t, rfl⟩, q⟩
    | next => exact False.elim hq
    | brk => exact False.elim hq
    | cont => exact False.elim hq
end
theorem nodup_put {kvs : List (Key × V)} (h : (kvs.map (·.1)).Nodup) (k : Key) (v : V) : ((putK kvs k v).map (·.1)).Nodup := by
  unfold putK
  split
  · rw [List.map_map]
    have e : (kvs.map ((fun p : Key × V => p.1) ∘ fun kv => if kv.1 = k then (kv.1, v) else kv)) = kvs.map (·.1) := List.map_congr_left fun p _ => by
      show (if p.1 = k then (p.1, v) else p).1 = p.1
      split <;> rfl
    rw [e]
    exact h
  · rename_i hn
    rw [List.map_append, List.nodup_append]
    refine ⟨h, by simp, fun x hx y hy => ?_⟩
    rw [List.map_cons, List.map_nil, List.mem_singleton] at hy
    rintro rfl
    obtain ⟨p, hp, e⟩ := List.mem_map.mp hx
    apply hn
    exact List.any_eq_true.mpr ⟨p, hp, decide_eq_true (e.trans hy)⟩
theorem valV_nodup : ∀ {kvs : List (Key × V)}, (kvs.map (·.1)).Nodup → ∀ p ∈ kvs, valV kvs p.1 = some p.2
  | p :: kvs, h, q, hq => by
    rw [List.map_cons, List.nodup_cons] at h
    show Option.map (fun r : Key × V => r.2) (List.find? (fun kv => decide (kv.1 = q.1)) (p :: kvs)) = some q.2
    rcases List.mem_cons.mp hq with rfl | hq'
    · rw [List.find?_cons_of_pos (by simp)]
      rfl
    · have ne : ¬ p.1 = q.1 := fun e => h.1 (by rw [e]; exact List.mem_map.mpr ⟨q, hq', rfl⟩)
      rw [List.find?_cons_of_neg (by simpa using ne)]
      exact valV_nodup h.2 q hq'
end G
set_option Elab.async false
set_option linter.all false
set_option maxRecDepth 100000
set_option maxHeartbeats 2000000
/-! G7: a try whose first clause, with a name, takes whatever the body raises; further clauses stand behind it. -/
namespace G
open PySem PySem.Spec PyProof.Rows L2
/-- the wish of the body: an exception of the class c, and the suite from it on -/
def wFirst (K : PySem.W.Frag) (c : Value) (i : Nat) (ts : Addr → Value → Option Addr → TS) (D : Ends) : WX := fun cls d σ H =>
  PySem.W.exmOne K cls c = some true ∧ ∀ a, H a = none →
    ts a cls d ⟨fun σ' H' => D.nx (σ'.set i none) H', D.rt, fun σ' H' => D.bk (σ'.set i none) H', fun σ' H' => D.ct (σ'.set i none) H'⟩ (σ.set i (some (.ref a))) H
section
variable {X : Cx} {x n : Str} {c : Value} {i : Nat} {body suite : List Stmt} {b₀ : Stmt} {np pos pos' : Pos} {tb : WX → TS} {ts : Addr → Value → Option Addr → TS} {more : List ExceptHandler}
theorem ps_try_first (hs : X.stack = X.env :: X.outer) (hf : X.env.frame = some X.env.locals) (hN : X.N.Nodup) (hi : X.N[i]? = some n) (hln : X.env.kindOf n = some .local) (hc : Names X x c)
    (hb : ∀ (W : WX) (pn : List (Addr × Obj)) (xe : Value → Shared → Prop),
      Takes (X.tr pn xe) W → PassesOwn (model X.prog X.w) X.A X.env xe → PSs (X.tr pn xe) body (tb W))
    (hsu : ∀ (a : Addr) (oe : Obj) (cls : Value) (d : Option Addr) (pn : List (Addr × Obj)),
      Zc cls d oe → (∃ vs, oe.data = .fields vs) → PSs (X.suite a ((a, oe) :: pn)) (b₀ :: suite) (ts a cls d)) :
    PS X (.Try body (.ExceptHandler (some (.Name x np)) (some n) (b₀ :: suite) pos' :: more) [] [] pos) (fun D σ H => tb (wFirst X.K c i ts D) D σ H) := by
  constructor
  intro pins s σ H D I h
  have ok := I.ok
  have frames : X.A.frames = some (X.env :: X.outer) := ok.frames.trans (congrArg some hs)
  refine wpAny_Try_except ?_
  let catching : Value → Shared → Prop := fun e s₁ =>
    wpAny (model X.prog X.w) X.A (noteFrame e X.env)
      (fun _ s₂ => wpAny (model X.prog X.w) X.A (setFlight e none)
        (fun _ s₃ => wpAny (model X.prog X.w) X.A (handleBy e X.env (.ExceptHandler (some (.Name x np)) (some n) (b₀ :: suite) pos' :: more)) (SP X pins D) X.xe s₃) X.xe s₂) X.xe s₁
  have caught : Takes (X.tr (X.pn ++ pins) catching) (wFirst X.K c i ts D) := by
    intro u s' xx
    obtain ⟨a, B, sI, pins', σ', H', cls, d, rfl, J', nb, up, sky, na, os, ag, hit, hyes⟩ := xx
    have J : Inv X pins σ' H' sI := J'.ofTry ok
    have sky2 : Sky B (X.env :: X.outer) a (Zc cls d) X.env.locals s'.heap := hs ▸ sky
    show wpAny (model X.prog X.w) X.A (noteFrame (.ref a) X.env) _ _ _
    refine Sky.land Zc.steady frames hf sky2 fun h3 fl3 up3 => ?_
    have J3 := J.landed (s' := { s' with heap := h3 }) nb fl3.1 (up.trans up3) os ag
    obtain ⟨oe3, vs3, he3, hz3, hd3⟩ := fl3.there
    -- the exception is no frame
    have nfr : a ∉ frs (X.env :: X.outer) := by
      intro hm
      obtain ⟨_, o', e', hnf⟩ := fl3.2.2.1.mem hm
      rw [he3] at e'
      cases e'
      exact hnf _ hd3
    have nL : a ≠ X.env.locals := by
      intro z
      exact nfr (List.mem_filterMap.mpr ⟨X.env, List.mem_cons_self, hf.trans (congrArg some z.symm)⟩)
    have nF : a ∉ X.fs := by
      intro hm
      obtain ⟨e, he, q⟩ := List.mem_filterMap.mp hm
      exact nfr (List.mem_filterMap.mpr ⟨e, List.mem_cons_of_mem _ he, q⟩)
    have S3 := J3.suite he3 hd3 na nL nF
    refine wpAny_handleBy_cons (codeAny_handlers_test ?_) (by intro q; cases q)
    have LT : PySem.W.Looks (model X.prog X.w) h3 (typeOf (.ref a)) cls := by
      intro A Q E s k q
      exact wpAny_typeOf_ref (k _ _ he3) (by rw [hz3.1]; exact q)
    have LM := PySem.W.exm_one (M := model X.prog X.w) (J3.kIn) LT hit
    have test : ∀ {Q : Value → Shared → Prop} {E : Value → Shared → Prop}, Q c { s' with heap := h3 } →
        wpAny (model X.prog X.w) (X.A.mark (some (.ref a))) (eval (.Name x np) X.env) Q E { s' with heap := h3 } := by
      intro Q E q
      rcases hc with ⟨hg, hdbg, hm | ⟨hm, hv, hnn⟩⟩
      · exact ld_glob (X := X.suite a ((a, oe3) :: (X.pn ++ pins))) S3 hg hm q hdbg
      · exact ld_blt (X := X.suite a ((a, oe3) :: (X.pn ++ pins))) S3 hg hm hv q hnn hdbg
    refine test (LM.here ?_)
    refine codeAny_handlers_suite_as ?_
    refine HandSPX.lands_againZ fl3 fun h4 fl4 up4 => ?_
    have J4 := J.landed (s' := { s' with heap := h4 }) nb fl4.1 ((up.trans up3).trans up4) os ag
    obtain ⟨oe4, vs4, he4, hz4, hd4⟩ := fl4.there
    have S4 := J4.suite he4 hd4 na nL nF
    refine store_ok (X := X.suite a ((a, oe4) :: (X.pn ++ pins))) (v := .ref a) S4 hN hi (.inl hln) rfl (fun s5 S5 => ?_) (.inr hln)
    refine wpAny_mono ((hsu a oe4 cls d (X.pn ++ pins) hz4 ⟨_, hd4⟩).run [] s5 _ H' _ S5 (hyes a na)) (fun f s6 z => ?_) fun _ _ z => False.elim z
    have away : ∀ {σ6 : L2.St} {H6 : Hp} {Q : Shared → Prop}, Inv (X.suite a ((a, oe4) :: (X.pn ++ pins))) [] σ6 H6 s6 → (∀ s7, Inv X pins (σ6.set i none) H6 s7 → Q s7) →
        wpAny (model X.prog X.w) X.A (do bindName X.env n .none; unbindBehindTheSuite X.env n pos') (fun _ s7 => Q s7) X.xe s6 := by
      intro σ6 H6 Q S6 hq
      exact gone_ok (S6.unsuite ok) hN hi hln hq
    match f, z with
    | .next, ⟨_, _, S6, q6⟩ => exact away S6 fun s7 J7 => ⟨_, _, J7, q6⟩
    | .brk, ⟨_, _, S6, q6⟩ => exact away S6 fun s7 J7 => ⟨_, _, J7, q6⟩
    | .cont, ⟨_, _, S6, q6⟩ => exact away S6 fun s7 J7 => ⟨_, _, J7, q6⟩
    | .ret u, ⟨_, _, _, S6, r6, q6⟩ => exact away S6 fun s7 J7 => ⟨_, _, _, J7, r6, q6⟩
  refine wpAny_mono ((hb (wFirst X.K c i ts D) (X.pn ++ pins) catching caught PassesOwn.looking).run [] s σ H D (I.toTry _) h) (fun f s1 z => ?_) fun e s1 he => he
  match f, z with
  | .next, ⟨σ', H', J, q⟩ => exact wpAny_execs_nil ⟨σ', H', J.ofTry ok, q⟩
  | .brk, ⟨σ', H', J, q⟩ => exact ⟨σ', H', J.ofTry ok, q⟩
  | .cont, ⟨σ', H', J, q⟩ => exact ⟨σ', H', J.ofTry ok, q⟩
  | .ret u, ⟨v, σ', H', J, r, q⟩ => exact ⟨v, σ', H', J.ofTry ok, r, q⟩
end
end G
set_option Elab.async false
set_option linter.all false
set_option maxRecDepth 100000
set_option maxHeartbeats 4000000
/-! CK: is_name, is_integer, and the law's own is_name, of things of any kind. -/
namespace G
open PySem PySem.Spec PyProof.Rows L2 NdefX
theorem take_snoc {α : Type} {l : List α} {i : Nat} {x : α} (h : l[i]? = some x) : l.take (i + 1) = l.take i ++ [x] := by
  obtain ⟨lt, rfl⟩ := List.getElem?_eq_some_iff.mp h
  rw [List.take_succ, List.getElem?_eq_getElem lt]
  rfl
abbrev sLIsName : Stmt := topS 44
theorem scLIsName : FnScope ["_law_thing", "_law_sign"] ["_law_thing"] (defScope sLIsName) := ⟨rfl, rfl, rfl, by decide +kernel, rfl, by decide +kernel, by decide +kernel⟩
def lowB (c : Nat) : Bool := decide (c ∈ abc.cps.toList)
def nameB (z : Str) : Bool := decide (1 ≤ z.length) && decide (z.length ≤ 8) && (cs z).all lowB
def nameV : V → Bool
  | .str z => nameB z
  | _ => false
def intV (lo hi : Int) : V → Bool
  | .int i => decide (lo ≤ i) && decide (i ≤ hi)
  | _ => false
def spIsNameT (K : PySem.W.Frag) : Sp := fun vs H Q _ => ∃ (v : V) (d : PyData), vs = [v] ∧ Rp K H v d ∧ (∀ z, v = .str z → z.length ≤ 1000) ∧ ∀ H', Same H H' → Q (.bl (nameV v)) H'
def spIsIntT (K : PySem.W.Frag) : Sp := fun vs H Q _ => ∃ (v : V) (d : PyData) (lo hi : Int), vs = [v, .int lo, .int hi] ∧ Rp K H v d ∧ Q (.bl (intV lo hi v)) H
theorem small_1000 {n : Nat} (h : n ≤ 1000) : n ≤ sizeLine := by rw [sizeLine_eq]; omega
section
variable {X : Cx}
def rEqNil (K : PySem.W.Frag) : R2 := fun x y H Q => ∃ a b xs, x = .ref a ∧ y = .ref b ∧ SqL K H a xs ∧ SqL K H b [] ∧ Q (.bl xs.isEmpty) H
theorem op_eqNil (hu : X.A.units < cLine) : OpR X (compareOp .Eq) (rEqNil X.K) := by
  intro pins s σ H x y v u Q I rx ry h
  obtain ⟨a, b, xs, rfl, rfl, ha, hb, q⟩ := h
  cases (show v = Value.ref a from rx)
  cases (show u = Value.ref b from ry)
  obtain ⟨us, r1, p1, _⟩ := I.list ha
  obtain ⟨ws, r2, p2, _⟩ := I.list hb
  cases r2
  cases xs with
  | nil =>
    cases r1
    refine SeqAt.RcAt.lists (e := fun _ => true) p1.isList p2.isList rfl hu (fun j h1 h2 => absurd h1 (Nat.not_lt_zero j)) X.prog X.w _ _ ?_
    exact ⟨.bl true, H, I, rfl, q⟩
  | cons x xs =>
    refine SeqAt.RcAt.lists_lengths p1.isList p2.isList ?_ hu X.prog X.w _ _ ?_
    · have := r1.length
      rw [List.length_cons] at this
      rw [List.size_toArray, List.size_toArray, ← this]
      simp
    · exact ⟨.bl false, H, I, rfl, q⟩
end
theorem low_filter (l : List Nat) : ((l.filter fun c => !lowB c).map fun c => V.str ⟨#[c]⟩).isEmpty = l.all lowB := by
  induction l with
  | nil => rfl
  | cons c l ih =>
    rw [List.filter_cons, List.all_cons]
    cases h : lowB c with
    | true =>
      rw [if_neg (by simp)]
      rw [ih, Bool.true_and]
    | false =>
      rw [if_pos (by simp)]
      rfl
theorem all_id (l : List Bool) : l.all id = l.all fun b => b := rfl
theorem map_all {α : Type} (f : α → Bool) (l : List α) : (l.map f).all id = l.all f := by rw [List.all_map]; rfl
section
variable {P : Program} {w : World} {K : PySem.W.Frag} {mg : Str → Option Value} {base : Heap}
theorem ok_isintT {f : Addr} {fd : FuncData} (F : Fun K "is_integer" "is_integer" sIsInt f fd) (mi : mg "isinstance" = none) (mn : mg "int" = none) (mb : mg "bool" = none) : FnOk P w K mg base CX0 1 f fd ["value", "low", "high"] (spIsIntT K) := by
  refine F.ok scIsInt (fun vs H Q E h => ?_) (fun cdv A outer s H vs Q E hr h => ?_)
  · obtain ⟨v, d, lo, hi, rfl, _⟩ := h
    rfl
  · obtain ⟨v, d, lo, hi, rfl, hR, q⟩ := h
    refine ⟨_, pss_cons (ps_if (PW.pt (pw_or (pt_not (pt_val (pt_isi "int" (pv 0) (hm := mi) (mn := mn)))) (pw_or1 (pt_val (pt_isi "bool" (pv 0) (hm := mi) (mn := mb)))))) (pss_one (ps_ret pe_bl)) pss_nil)
      (pss_one (ps_ret (pe_chain op_le op_le (pv 1) (pv 0) (pv 2)))), ?_⟩
    refine ⟨_, rfl, _, _, _, _, _, rfl, .ty _, rp_ty hR, kit_i d, _, rfl, ?_⟩
    cases hR with
    | non => exact iteT q
    | str z => exact iteT q
    | lst _ _ => exact iteT q
    | tup _ _ => exact iteT q
    | dic _ _ _ => exact iteT q
    | bl b => exact iteF ⟨_, rfl, _, _, _, _, _, rfl, .ty _, rp_ty (.bl b), kit_b (.bool b), _, rfl, iteT q⟩
    | int v =>
      refine iteF ⟨_, rfl, _, _, _, _, _, rfl, .ty _, rp_ty (.int v), kit_b (.int v), _, rfl, iteF ?_⟩
      refine ⟨_, rfl, _, rfl, _, _, rfl, rfl, _, rfl, ?_⟩
      have q : Q (.bl (decide (lo ≤ v) && decide (v ≤ hi))) H := q
      cases e : decide (lo ≤ v) with
      | false =>
        refine iteF ?_
        rw [e] at q
        exact q
      | true =>
        refine iteT ?_
        rw [e] at q
        exact ⟨_, rfl, _, _, rfl, rfl, q⟩
theorem ok_isnameT {f : Addr} {fd : FuncData} {t1 t2 : Tok} (F : Fun K "is_name" "is_name" sIsName f fd) (gM : mg "MOST_LETTERS" = some (.int 8 t1)) (gL : mg "LETTERS" = some (.str abc t2)) (mi : mg "isinstance" = none) (ms : mg "str" = none) (ml : mg "len" = none) (ma : mg "all" = none) :
    FnOk P w K mg base CX0 1 f fd ["value"] (spIsNameT K) := by
  refine F.ok scIsName (fun vs H Q E h => ?_) (fun cdv A outer s H vs Q E hr h => ?_)
  · obtain ⟨v, d, rfl, _⟩ := h
    rfl
  · obtain ⟨v, d, rfl, hR, hl, q⟩ := h
    refine ⟨_, pss_cons (ps_if (PW.pt (pw_or (pt_not (pt_val (pt_isi "str" (pv 0) (hm := mi) (mn := ms)))) (pw_or1 (pt_not (pt_chain op_le op_le pe_int (pe_callB call_len_str (by rfl) ml PySem.boot_len (pa_cons (pv 0) pa_nil)) (pe_glob (v := .int 8) rfl gM ⟨_, rfl⟩))))))
        (pss_one (ps_ret pe_bl)) pss_nil)
      (pss_one (ps_ret (pe_callB (cr_all rfl) (by rfl) ma (by decide +kernel) (pa_cons (pe_lc (own := [("letter", 1)]) (g := gName 1) (tt := tYes) (by rfl) scIsName.nd (pi_str (pv 0))
        (blkOk_by (own := [("letter", 1)]) (N := ["value", "letter"]) (sc := defScope sIsName) (by decide +kernel)) (fun _ _ _ _ _ => pg_name (i := 1) scIsName.nd rfl (.inl rfl)) (fun _ _ _ _ _ => pts_nil)
        (fun _ _ _ _ _ => pe_cmpR op_in_sign (pv 1) (pe_glob (v := .str abc) rfl gL ⟨_, rfl⟩) (by rfl))) pa_nil)))), ?_⟩
    refine ⟨_, rfl, _, _, _, _, _, rfl, .ty _, rp_ty hR, kit_s d, _, rfl, ?_⟩
    cases hR with
    | non => exact iteT (q H (.refl _))
    | int i => exact iteT (q H (.refl _))
    | bl b => exact iteT (q H (.refl _))
    | lst _ _ => exact iteT (q H (.refl _))
    | tup _ _ => exact iteT (q H (.refl _))
    | dic _ _ _ => exact iteT (q H (.refl _))
    | str z =>
      have l1000 := hl z rfl
      replace q : ∀ H', Same H H' → Q (.bl (nameB z)) H' := q
      refine iteF ⟨_, rfl, z, rfl, small_1000 l1000, _, _, rfl, rfl, _, rfl, ?_⟩
      unfold nameB at q
      by_cases h1 : 1 ≤ z.length
      · rw [decide_eq_true (show (1 : Int) ≤ (z.length : Int) by omega)]
        rw [decide_eq_true h1, Bool.true_and] at q
        refine iteT ⟨_, _, rfl, rfl, _, rfl, ?_⟩
        by_cases h8 : z.length ≤ 8
        · rw [decide_eq_true (show (z.length : Int) ≤ 8 by omega)]
          rw [decide_eq_true h8, Bool.true_and] at q
          refine iteF ?_
          refine ⟨_, rfl, z, rfl, fun D hD => ?_⟩
          refine lc_it walk_str (fun i H2 => Same H H2 ∧ H2 D = some (.lst ((((cs z).take i).map lowB).map V.bl))) ?_ ?_ ?_ ?_
          · exact ⟨Same.new hD, upd_same⟩
          · exact fun _ _ _ _ => trivial
          · rintro i x H2 H3 hi ⟨s2, e2⟩ ⟨rfl, c, hc, rfl⟩
            have hc2 : (cs z)[i]? = some c := by
              rw [← hc, ← Array.getElem?_toList]
            have hzs : z.cps.size = z.length := rfl
            refine ⟨rfl, ?_⟩
            unfold tYes
            dsimp only
            rw [if_pos rfl]
            refine ⟨_, rfl, c, _, rfl, rfl, _, e2, ?_, fun a o e => ?_, ?_⟩
            · rw [List.length_map, List.length_map, List.length_take]
              exact small1000 (by omega)
            · rw [upd_ne (ne_of_none e hD)]
              exact s2 _ _ e
            · rw [upd_same, take_snoc hc2, List.map_append, List.map_append]
              rfl
          · rintro H2 ⟨s2, e2⟩
            refine ⟨D, _, rfl, .of e2, ?_⟩
            rw [show (cs z).take z.cps.size = cs z from List.take_of_length_le (Nat.le_of_eq (cs_len z)), map_all]
            exact q H2 s2
        · rw [decide_eq_false (show ¬ (z.length : Int) ≤ 8 by omega)]
          rw [decide_eq_false h8, Bool.false_and] at q
          exact iteT (q H (.refl _))
      · rw [decide_eq_false (show ¬ (1 : Int) ≤ (z.length : Int) by omega)]
        rw [decide_eq_false h1, Bool.false_and, Bool.false_and] at q
        exact iteF ⟨_, rfl, iteT (q H (.refl _))⟩
theorem ok_lisname {f : Addr} {fd : FuncData} (F : Fun K "_law_is_name" "_law_is_name" sLIsName f fd) (mi : mg "isinstance" = none) (ms : mg "str" = none) (ml : mg "len" = none) :
    FnOk P w K mg base CX0 1 f fd ["_law_thing"] (spIsNameT K) := by
  refine F.ok scLIsName (fun vs H Q E h => ?_) (fun cdv A outer s H vs Q E hr h => ?_)
  · obtain ⟨v, d, rfl, _⟩ := h
    rfl
  · obtain ⟨v, d, rfl, hR, hl, q⟩ := h
    have hu0 : (A.deeper (envOfC "_law_is_name" (defScope sLIsName) s.heap.objs.size f cdv)).units < cLine := by have := hr.units; omega
    refine ⟨_, pss_cons (ps_if (PW.pt (pw_or (pt_not (pt_val (pt_isi "str" (pv 0) (hm := mi) (mn := ms)))) (pw_or1 (pt_not (pt_chain op_le op_le pe_int (pe_callB call_len_str (by rfl) ml PySem.boot_len (pa_cons (pv 0) pa_nil)) pe_int)))))
        (pss_one (ps_ret pe_bl)) pss_nil)
      (pss_one (ps_ret (pe_cmpR (op_eqNil hu0) (by exact pe_lc (own := [("_law_sign", 1)]) (g := gName 1) (by rfl) scLIsName.nd (pi_str (pv 0)) (blkOk_by (own := [("_law_sign", 1)]) (N := ["_law_thing", "_law_sign"]) (sc := defScope sLIsName) (by decide +kernel)) (fun _ _ _ _ _ => pg_name (i := 1) scLIsName.nd rfl (.inl rfl)) (fun _ _ _ _ _ => pts_one (pt_cmpR op_notIn_sign (pv 1) pe_str (by rfl))) (fun _ _ _ _ _ => pv 1)) (pe_lst pa_nil) (nomark _)))), ?_⟩
    refine ⟨_, rfl, _, _, _, _, _, rfl, .ty _, rp_ty hR, kit_s d, _, rfl, ?_⟩
    cases hR with
    | non => exact iteT (q H (.refl _))
    | int i => exact iteT (q H (.refl _))
    | bl b => exact iteT (q H (.refl _))
    | lst _ _ => exact iteT (q H (.refl _))
    | tup _ _ => exact iteT (q H (.refl _))
    | dic _ _ _ => exact iteT (q H (.refl _))
    | str z =>
      have l1000 := hl z rfl
      replace q : ∀ H', Same H H' → Q (.bl (nameB z)) H' := q
      refine iteF ⟨_, rfl, z, rfl, small_1000 l1000, _, _, rfl, rfl, _, rfl, ?_⟩
      unfold nameB at q
      by_cases h1 : 1 ≤ z.length
      · rw [decide_eq_true (show (1 : Int) ≤ (z.length : Int) by omega)]
        rw [decide_eq_true h1, Bool.true_and] at q
        refine iteT ⟨_, _, rfl, rfl, _, rfl, ?_⟩
        by_cases h8 : z.length ≤ 8
        · rw [decide_eq_true (show (z.length : Int) ≤ 8 by omega)]
          rw [decide_eq_true h8, Bool.true_and] at q
          refine iteF ?_
          refine ⟨_, rfl, z, rfl, fun D hD => ?_⟩
          refine lc_it walk_str (fun i H2 => Same H H2 ∧ H2 D = some (.lst ((((cs z).take i).filter fun c => !lowB c).map fun c => V.str ⟨#[c]⟩))) ?_ ?_ ?_ ?_
          · exact ⟨Same.new hD, upd_same⟩
          · exact fun _ _ _ _ => trivial
          · rintro i x H2 H3 hi ⟨s2, e2⟩ ⟨rfl, c, hc, rfl⟩
            have hc2 : (cs z)[i]? = some c := by
              rw [← hc, ← Array.getElem?_toList]
            have hzs : z.cps.size = z.length := rfl
            refine ⟨rfl, ?_⟩
            refine ⟨_, rfl, c, abc, rfl, rfl, _, rfl, ?_⟩
            have hx : decide (c ∈ abc.cps.toList) = lowB c := rfl
            rw [hx]
            cases hc3 : lowB c with
            | true =>
              refine iteF ⟨s2, ?_⟩
              rw [take_snoc hc2, List.filter_append, List.filter_cons, hc3, if_neg (by simp), List.filter_nil, List.append_nil]
              exact e2
            | false =>
              refine iteT ⟨_, rfl, _, e2, ?_, fun a o e => ?_, ?_⟩
              · rw [List.length_map]
                have := List.length_filter_le (fun c => !lowB c) ((cs z).take i)
                rw [List.length_take] at this
                exact small1000 (by omega)
              · rw [upd_ne (ne_of_none e hD)]
                exact s2 _ _ e
              · rw [upd_same, take_snoc hc2, List.filter_append, List.filter_cons, hc3, if_pos (by simp), List.filter_nil, List.map_append]
                rfl
          · rintro H2 ⟨s2, e2⟩
            rw [show (cs z).take z.cps.size = cs z from List.take_of_length_le (Nat.le_of_eq (cs_len z))] at e2
            refine ⟨by show 0 ≤ sizeLine; exact Nat.zero_le _, fun m hm => ?_⟩
            refine ⟨D, m, _, rfl, rfl, .of ((upd_ne (ne_of_none e2 hm)).trans e2), .of upd_same, ?_⟩
            rw [low_filter]
            exact q _ (s2.trans (Same.new hm))
        · rw [decide_eq_false (show ¬ (z.length : Int) ≤ 8 by omega)]
          rw [decide_eq_false h8, Bool.false_and] at q
          exact iteT (q H (.refl _))
      · rw [decide_eq_false (show ¬ (1 : Int) ≤ (z.length : Int) by omega)]
        rw [decide_eq_false h1, Bool.false_and, Bool.false_and] at q
        exact iteF ⟨_, rfl, iteT (q H (.refl _))⟩
end
end G
set_option Elab.async false
set_option linter.all false
set_option maxRecDepth 100000
set_option maxHeartbeats 4000000
/-! EX: own exceptions made; need_name, need_integer, By and Plus made, all of which may raise. -/
namespace G
open PySem PySem.Spec PyProof.Rows L2 NdefX StX
abbrev sErr (j : Nat) : Stmt := inClass (topS j) 0
abbrev sNeedInt : Stmt := topS 23
abbrev sPl (j : Nat) : Stmt := inClass (topS 31) j
theorem scEI : FnScope ["self", "value"] ["self", "value"] (defScope (sErr 3)) := ⟨rfl, rfl, rfl, by decide +kernel, rfl, by decide +kernel, by decide +kernel⟩
theorem scEN : FnScope ["self", "value"] ["self", "value"] (defScope (sErr 4)) := ⟨rfl, rfl, rfl, by decide +kernel, rfl, by decide +kernel, by decide +kernel⟩
theorem scEO : FnScope ["self", "value"] ["self", "value"] (defScope (sErr 6)) := ⟨rfl, rfl, rfl, by decide +kernel, rfl, by decide +kernel, by decide +kernel⟩
theorem scET : FnScope ["self", "value"] ["self", "value"] (defScope (sErr 7)) := ⟨rfl, rfl, rfl, by decide +kernel, rfl, by decide +kernel, by decide +kernel⟩
theorem scEM : FnScope ["self", "count"] ["self", "count"] (defScope (sErr 8)) := ⟨rfl, rfl, rfl, by decide +kernel, rfl, by decide +kernel, by decide +kernel⟩
theorem scNeedInt : FnScope ["value", "low", "high"] ["value", "low", "high"] (defScope sNeedInt) := ⟨rfl, rfl, rfl, by decide +kernel, rfl, by decide +kernel, by decide +kernel⟩
theorem scPlI : FnScope ["self", "field", "number"] ["self", "field", "number"] (defScope (sPl 0)) := ⟨rfl, rfl, rfl, by decide +kernel, rfl, by decide +kernel, by decide +kernel⟩
/-! ### what is let out, and what passes -/
theorem passN {X : Cx} {W : WX} (tk : L2N.Takes X W) (σ : L2.St) : PassesAt (L2N.CX X.prog X.w) X σ (WE W σ) := fun pins H s e s' I c => tk e s' (L2N.XE.of_call I (fun _ _ _ h => h) c)
theorem passN0 {X : Cx} (σ : L2.St) : PassesAt (L2N.CX X.prog X.w) X σ E0 := fun _ _ _ _ _ _ h => by
  obtain ⟨_, _, _, _, _, _, _, _, _, _, _, _, z⟩ := h
  exact z.elim
theorem upN {P : Program} {w : World} : CXUp (L2N.CX P w) := by
  intro outer s H s2 H2 E e s' un kp ho h
  obtain ⟨a, B, H', cls, d, ea, fl, hok, ub, na, os, ag, he⟩ := h
  have keep : ∀ b o, s.heap.get? b = some o → H b = none → H2 b = none := fun b o q n => un.free b o q n (by simp)
  refine ⟨a, B, H', cls, d, ea, fl, hok, ?_, na, os.trans ho, ag, he⟩
  constructor
  · exact fun b o q n hb => ub.keep b o (kp b o q) (keep b o q n) hb
  · exact fun b o q hb => ub.slot b o (kp b o q) hb
  · exact fun b o q n => ub.free b o (kp b o q) (keep b o q n)
  · exact fun b o q hb => ub.there b o (kp b o q) hb
  · exact fun b xs q => ub.tups b xs (un.tups b xs q)
  · exact fun b o xs q => ub.frzs b o xs (un.frzs b o xs q)
  · intro b ps q
    obtain ⟨m1, e1⟩ := un.tbls b ps q
    obtain ⟨m2, e2⟩ := ub.tbls b _ e1
    exact ⟨m1 ++ m2, by rw [e2, Array.append_assoc]⟩
/-- a promise that knows of no exception, of one that may raise -/
theorem fnR_down {P : Program} {w : World} {K : PySem.W.Frag} {mg : Str → Option Value} {base : Heap} {k : Nat} {f : Addr} {sp sp' : Sp} (F : FnR P w K mg base (L2N.CX P w) k f sp') (h : ∀ vs H Q E, sp vs H Q E → sp' vs H Q E0) : FnR P w K mg base CX0 k f sp := by
  intro A outer s H us vs Q E hr e0 r hs
  refine codeAny_mono (F A outer s H us vs Q E0 hr e0 r (h _ _ _ _ hs)) fun r s' q => ?_
  match r, q with
  | .error e, q =>
    obtain ⟨_, _, _, _, _, _, _, _, _, _, _, _, z⟩ := q
    exact z.elim
  | .ok (.ret u), q => exact q
  | .ok .next, q => exact q.elim
  | .ok .brk, q => exact q.elim
  | .ok .cont, q => exact q.elim
/-! ### exceptions made -/
def spInitF (C : Addr) (fl : Str) : Sp := fun vs H Q _ => ∃ (a : Addr) (v : V), vs = [.ref a, v] ∧ H a = some (exo a C none) ∧ ∀ dx, H dx = none → dx ≠ a → Q .non (upd (upd H dx (exd dx [(fl, v)])) a (exo a C (some dx)))
theorem mkO_one {C : Addr} {fl : Str} {v : V} {H : Hp} {E : XK} (q : ∀ (dd : Addr) (H' : Hp), Same H H' → H' dd = some (.xd [(fl, v)]) → E (.ref C) (some dd) H') : [v].length ≤ 1000 ∧ ∀ a, H a = none → spInitF C fl (.ref a :: ([v] ++ [])) (upd H a (exo a C none))
    (fun x H2 => x = .non ∧ ∃ (d : Addr) (fs : List (Str × V)), H2 a = some (exo a C (some d)) ∧ H2 d = some (exd d fs) ∧ H d = none ∧ E (.ref C) (some d) (upd (del H2 a) d (.xd fs))) (fun _ _ _ => False) := by
  refine ⟨by show 1 ≤ 1000; decide, fun a ha => ⟨a, v, rfl, upd_same, fun dx h1 h2 => ⟨rfl, dx, [(fl, v)], upd_same, ?_, ?_, ?_⟩⟩⟩
  · rw [upd_ne h2, upd_same]
  · rw [upd_ne h2] at h1
    exact h1
  · rw [upd_ne h2] at h1
    refine q dx _ (fun c o e' => ?_) upd_same
    rw [upd_ne (ne_of_none e' h1), del_ne (ne_of_none e' ha), upd_ne (ne_of_none e' ha), upd_ne (ne_of_none e' h1), upd_ne (ne_of_none e' ha)]
    exact e'
/-- an own exception's class: its __init__ stores one thing -/
structure ErrC (P : Program) (w : World) (K : PySem.W.Frag) (mg : Str → Option Value) (base : Heap) (C f : Addr) (fd : FuncData) (fl : Str) : Prop where
  T : OexC K C
  it : PySem.W.findIn K (.ref C) "__init__" = some (some (.ref f))
  ty : PySem.W.typeIn K (.ref f) = some (.type "function")
  b : Binds K fd ["self", fl] []
  F : FnOk P w K mg base CX0 1 f fd ["self", fl] (spInitF C fl)
section
variable {P : Program} {w : World} {K : PySem.W.Frag} {mg : Str → Option Value} {base : Heap} {f C : Addr} {fd : FuncData}
theorem spInitF_len {fl : Str} : ∀ vs H Q E, spInitF C fl vs H Q E → vs.length = 2 := by
  rintro vs H Q E ⟨a, v, rfl, _⟩
  rfl
theorem ok_eO (F : Fun K "__init__" "InvalidOrder.__init__" (sErr 6) f fd) (T : OexC K C) (nv : PySem.W.findIn K (.ref C) "value" = some none) : FnOk P w K mg base CX0 1 f fd ["self", "value"] (spInitF C "value") := by
  refine F.ok scEO (fun vs H Q E h => spInitF_len vs H Q E h) (fun cdv A outer s H vs Q E hr h => ?_)
  obtain ⟨a, v, rfl, ha, q⟩ := h
  exact ⟨_, pss_one (ps_ost (pv 0) (pv 1)), _, rfl, _, rfl, a, C, rfl, T, nv, .inl ⟨ha, fun dx h1 h2 => q dx h1 h2⟩⟩
theorem ok_eN (F : Fun K "__init__" "InvalidName.__init__" (sErr 4) f fd) (T : OexC K C) (nv : PySem.W.findIn K (.ref C) "value" = some none) : FnOk P w K mg base CX0 1 f fd ["self", "value"] (spInitF C "value") := by
  refine F.ok scEN (fun vs H Q E h => spInitF_len vs H Q E h) (fun cdv A outer s H vs Q E hr h => ?_)
  obtain ⟨a, v, rfl, ha, q⟩ := h
  exact ⟨_, pss_one (ps_ost (pv 0) (pv 1)), _, rfl, _, rfl, a, C, rfl, T, nv, .inl ⟨ha, fun dx h1 h2 => q dx h1 h2⟩⟩
theorem ok_eI (F : Fun K "__init__" "InvalidInteger.__init__" (sErr 3) f fd) (T : OexC K C) (nv : PySem.W.findIn K (.ref C) "value" = some none) : FnOk P w K mg base CX0 1 f fd ["self", "value"] (spInitF C "value") := by
  refine F.ok scEI (fun vs H Q E h => spInitF_len vs H Q E h) (fun cdv A outer s H vs Q E hr h => ?_)
  obtain ⟨a, v, rfl, ha, q⟩ := h
  exact ⟨_, pss_one (ps_ost (pv 0) (pv 1)), _, rfl, _, rfl, a, C, rfl, T, nv, .inl ⟨ha, fun dx h1 h2 => q dx h1 h2⟩⟩
theorem ok_eM (F : Fun K "__init__" "TooMany.__init__" (sErr 8) f fd) (T : OexC K C) (nv : PySem.W.findIn K (.ref C) "count" = some none) : FnOk P w K mg base CX0 1 f fd ["self", "count"] (spInitF C "count") := by
  refine F.ok scEM (fun vs H Q E h => spInitF_len vs H Q E h) (fun cdv A outer s H vs Q E hr h => ?_)
  obtain ⟨a, v, rfl, ha, q⟩ := h
  exact ⟨_, pss_one (ps_ost (pv 0) (pv 1)), _, rfl, _, rfl, a, C, rfl, T, nv, .inl ⟨ha, fun dx h1 h2 => q dx h1 h2⟩⟩
theorem ok_eT (F : Fun K "__init__" "InvalidText.__init__" (sErr 7) f fd) (T : OexC K C) (nv : PySem.W.findIn K (.ref C) "value" = some none) : FnOk P w K mg base CX0 1 f fd ["self", "value"] (spInitF C "value") := by
  refine F.ok scET (fun vs H Q E h => spInitF_len vs H Q E h) (fun cdv A outer s H vs Q E hr h => ?_)
  obtain ⟨a, v, rfl, ha, q⟩ := h
  exact ⟨_, pss_one (ps_ost (pv 0) (pv 1)), _, rfl, _, rfl, a, C, rfl, T, nv, .inl ⟨ha, fun dx h1 h2 => q dx h1 h2⟩⟩
/-- .. while an exception is handled -/
theorem ok_eTH (F : Fun K "__init__" "InvalidText.__init__" (sErr 7) f fd) (T : OexC K C) (nv : PySem.W.findIn K (.ref C) "value" = some none) : L2H.FnH P w K mg base CX0 1 f fd ["self", "value"] (spInitF C "value") := by
  obtain ⟨oc, od, kV, doc, pm, an, cdv, ct, osl, rfl, lk, hcd⟩ := F.ex
  refine L2H.fn_ofH lk hcd scET (fun vs H Q E h => spInitF_len vs H Q E h) (fun A outer s H vs Q E p hot hr h => ?_)
  obtain ⟨a, v, rfl, ha, q⟩ := h
  refine ⟨_, pss_one (ps_ost (pv 0) (pv 1)), ?_⟩
  exact ⟨_, rfl, _, rfl, a, C, rfl, T, nv, .inl ⟨ha, fun dx h1 h2 => q dx h1 h2⟩⟩
end
end G
set_option Elab.async false
set_option linter.all false
set_option maxRecDepth 100000
set_option maxHeartbeats 4000000
/-! SG: checks that may raise; By.__init__ and Plus.__init__. -/
namespace G
open PySem PySem.Spec PyProof.Rows L2 NdefX StX
/-- a word of a text -/
structure Wd (z : Str) : Prop where
  asc : N3.Asc z
  len : z.length ≤ 900
def fldB (z : Str) : Bool := nameB (Txt.removeprefix z "-")
def ordB (ws : List Str) : Bool := decide (ws.length ≤ 3) && ws.all fldB
theorem pre_len (z : Str) : (Txt.removeprefix z "-").length ≤ z.length := by
  have h1 := cs_len (Txt.removeprefix z "-")
  rw [N3.cs_prefix] at h1
  have h2 := cs_len z
  have h3 : (N3.body (cs z)).length ≤ (cs z).length := by
    unfold N3.body
    split
    · rw [List.length_drop]
      omega
    · exact Nat.le_refl _
  omega
theorem Wd.lay {z : Str} (h : Wd z) : G.lay (.str z) := by
  refine ⟨rfl, ?_, Nat.zero_le _⟩
  show z.cps.all (· < 0x110000) = true
  rw [Array.all_eq_true]
  intro i hi
  have := h.asc z.cps[i] (by simp [cs])
  exact decide_eq_true (by omega)
theorem dp_wds {K : PySem.W.Frag} {H : Hp} : ∀ ws : List Str, DpAll K H (ws.map V.str) (ws.map PyData.str)
  | [] => .nil
  | w :: ws => .cons (.str w) (dp_wds ws)
theorem sh_wds {ws : List Str} (h : ∀ w ∈ ws, Wd w) : SeqAt.shaped (.tuple (ws.map PyData.str)) = true := lay_list (ds := ws.map PyData.str) fun d hd => by
  obtain ⟨u, hu, rfl⟩ := List.mem_map.mp hd
  exact (h u hu).lay
def spSignedT : Sp := fun vs H Q _ => ∃ z : Str, vs = [.str z] ∧ z.length ≤ 900 ∧ ∀ H', Same H H' → Q (.bl (fldB z)) H'
def spNameX (CN : Addr) : Sp := fun vs H Q E => ∃ z : Str, vs = [.str z] ∧ z.length ≤ 900 ∧ (nameB z = true → ∀ H', Same H H' → Q .non H') ∧ (nameB z = false → ∀ (dd : Addr) (H' : Hp), Same H H' → E (.ref CN) (some dd) H')
/-- nothing, or an int -/
def IntN : V → Prop
  | .non => True
  | .int _ => True
  | _ => False
theorem rp_intN {K : PySem.W.Frag} {H : Hp} {v : V} (h : IntN v) : ∃ d, Rp K H v d := by
  cases v with
  | non => exact ⟨_, .non⟩
  | int i => exact ⟨_, .int i⟩
  | _ => exact h.elim
def spIntX (CI : Addr) : Sp := fun vs H Q E => ∃ (v : V) (lo hi : Int), vs = [v, .int lo, .int hi] ∧ IntN v ∧ (intV lo hi v = true → ∀ H', Same H H' → Q .non H') ∧ (intV lo hi v = false → ∀ (dd : Addr) (H' : Hp), Same H H' → E (.ref CI) (some dd) H')
def spByIX (C CO CM : Addr) : Sp := fun vs H Q E => ∃ (a dx t : Addr) (ws : List Str), vs = [.ref a, .ref t] ∧ H a = some (.ins C dx []) ∧ H t = some (.tup (ws.map V.str)) ∧ 1 ≤ ws.length ∧ ws.length ≤ 900 ∧ (∀ w ∈ ws, Wd w) ∧
  (ordB ws = true → ∀ H', Same H H' → Q .non (upd H' a (.ins C dx [("signed_fields", .ref t)]))) ∧ (ordB ws = false → ∀ (cls dd : Addr) (H' : Hp), cls = CO ∨ cls = CM → Same H H' → E (.ref cls) (some dd) H')
abbrev spByRX (C CO CM : Addr) : Sp := fun vs H Q E => ∃ us rest, vs = us ++ rest ∧ us.length = ["self"].length ∧ rest.length ≤ sizeLine ∧ ∀ p, H p = Option.none → spByIX C CO CM (us ++ [V.ref p]) (upd H p (.tup rest)) Q E
def spPlIX (C CN CI : Addr) : Sp := fun vs H Q E => ∃ (a dx : Addr) (z : Str) (v : V), vs = [.ref a, .str z, v] ∧ H a = some (.ins C dx []) ∧ z.length ≤ 900 ∧ IntN v ∧
  ((nameB z && intV (-999) 999 v) = true → ∀ H', Same H H' → Q .non (upd H' a (.ins C dx [("field_name", .str z), ("summand", v)]))) ∧ ((nameB z && intV (-999) 999 v) = false → ∀ (cls dd : Addr) (H' : Hp), cls = CN ∨ cls = CI → Same H H' → E (.ref cls) (some dd) H')
section
variable {P : Program} {w : World} {K : PySem.W.Frag} {mg : Str → Option Value} {base : Heap} {f C CN CI CO CM : Addr} {fd : FuncData}
theorem ok_signedT {fN : Addr} {fdN : FuncData} (F : Fun K "is_signed_field" "is_signed_field" sSigned f fd) (kN : PySem.W.keepIn K (.ref fN) = true) (bN : Binds K fdN ["value"] []) (gN : mg "is_name" = some (.ref fN))
    (GN : FnOk P w K mg base CX0 1 fN fdN ["value"] (spIsNameT K)) (mi : mg "isinstance" = none) (ms : mg "str" = none) : FnOk P w K mg base CX0 2 f fd ["value"] spSignedT := by
  refine F.ok scSigned (fun vs H Q E h => ?_) (fun cdv A outer s H vs Q E hr h => ?_)
  · obtain ⟨z, rfl, _⟩ := h
    rfl
  · obtain ⟨z, rfl, hz, q⟩ := h
    refine ⟨_, pss_one (ps_ret (pe_and (pt_isi "str" (pv 0) (hm := mi) (mn := ms)) (pe_one (pe_call GN hr rfl gN kN bN .nil pass0 (pa_cons (pe_m1 PySem.F.slot_str_removeprefix PySem.F.type_str_removeprefix mt_removeprefix (pv 0) pe_str) pa_nil))))), ?_⟩
    refine ⟨_, rfl, _, _, _, _, _, rfl, .ty _, rp_ty (K := K) (.str z), kit_s (.str z), _, rfl, iteT ?_⟩
    refine ⟨_, rfl, ⟨_, rfl⟩, z, _, rfl, rfl, small_size (by omega), ?_⟩
    refine ⟨_, _, rfl, .str _, fun y e => ?_, fun H' s' => q H' s'⟩
    cases e
    have := pre_len z
    omega
theorem ok_nameX {fN fE : Addr} {fdN fdE : FuncData} (F : Fun K "need_name" "need_name" sNeedName f fd) (kN : PySem.W.keepIn K (.ref fN) = true) (bN : Binds K fdN ["value"] []) (gN : mg "is_name" = some (.ref fN))
    (GN : FnOk P w K mg base CX0 1 fN fdN ["value"] (spIsNameT K)) (X : ErrC P w K mg base CN fE fdE "value") (gX : mg "InvalidName" = some (.ref CN)) : FnOk P w K mg base (L2N.CX P w) 3 f fd ["value"] (spNameX CN) := by
  obtain ⟨oc, od, kV, doc, pm, an, cdv, ct, osl, rfl, lk, hcd⟩ := F.ex
  refine fn_of lk hcd scNeedName (fun vs H Q E h => ?_) (fun A outer s H vs Q E hr h => ?_)
  · obtain ⟨z, rfl, _⟩ := h
    rfl
  · obtain ⟨z, rfl, hz, q1, q2⟩ := h
    refine ⟨_, pss_one (ps_if (pt_not (pt_val (pe_call GN (hr.mono (by decide)) rfl gN kN bN .nil pass0 (pa_cons (pv 0) pa_nil))))
      (pss_one (L2N.ps_raise rfl (L2N.takes_of rfl rfl rfl rfl) (pmkN_oex X.T X.it X.ty X.F hr X.b pass0 rfl gX (pa_cons (pv 0) pa_nil)))) pss_nil), ?_⟩
    refine ⟨_, rfl, _, _, rfl, .str z, fun y e => ?_, fun H1 s1 => ⟨_, rfl, ?_⟩⟩
    · cases e
      omega
    show if (!nameB z) = true then _ else _
    cases e : nameB z with
    | true => exact iteF (q1 e H1 s1)
    | false => exact iteT ⟨_, rfl, mkO_one fun dd H' s' _ => q2 e dd H' (s1.trans s')⟩
theorem ok_intX {fN fE : Addr} {fdN fdE : FuncData} (F : Fun K "need_integer" "need_integer" sNeedInt f fd) (kN : PySem.W.keepIn K (.ref fN) = true) (bN : Binds K fdN ["value", "low", "high"] []) (gN : mg "is_integer" = some (.ref fN))
    (GN : FnOk P w K mg base CX0 1 fN fdN ["value", "low", "high"] (spIsIntT K)) (X : ErrC P w K mg base CI fE fdE "value") (gX : mg "InvalidInteger" = some (.ref CI)) : FnOk P w K mg base (L2N.CX P w) 3 f fd ["value", "low", "high"] (spIntX CI) := by
  obtain ⟨oc, od, kV, doc, pm, an, cdv, ct, osl, rfl, lk, hcd⟩ := F.ex
  refine fn_of lk hcd scNeedInt (fun vs H Q E h => ?_) (fun A outer s H vs Q E hr h => ?_)
  · obtain ⟨v, lo, hi, rfl, _⟩ := h
    rfl
  · obtain ⟨v, lo, hi, rfl, hv, q1, q2⟩ := h
    refine ⟨_, pss_one (ps_if (pt_not (pt_val (pe_call GN (hr.mono (by decide)) rfl gN kN bN .nil pass0 (pa_cons (pv 0) (pa_cons (pv 1) (pa_cons (pv 2) pa_nil))))))
      (pss_one (L2N.ps_raise rfl (L2N.takes_of rfl rfl rfl rfl) (pmkN_oex X.T X.it X.ty X.F hr X.b pass0 rfl gX (pa_cons (pv 0) pa_nil)))) pss_nil), ?_⟩
    obtain ⟨d, hd⟩ := rp_intN (K := K) (H := H) hv
    refine ⟨_, rfl, _, rfl, _, rfl, _, _, _, _, rfl, hd, _, rfl, ?_⟩
    show if (!intV lo hi v) = true then _ else _
    cases e : intV lo hi v with
    | true => exact iteF (q1 e H (.refl _))
    | false => exact iteT ⟨_, rfl, mkO_one fun dd H' s' _ => q2 e dd H' s'⟩
theorem ok_byX {fS fO fM : Addr} {fdS fdO fdM : FuncData} {t1 : Tok} (F : Fun K "__init__" "By.__init__" (sBy 0) f fd) (c : Cls K C) (n1 : NoAttr K C "signed_fields")
    (GS : FnOk P w K mg base CX0 2 fS fdS ["value"] spSignedT) (gS : mg "is_signed_field" = some (.ref fS)) (kS : PySem.W.keepIn K (.ref fS) = true) (bS : Binds K fdS ["value"] []) (gM : mg "MOST_IN_ORDER" = some (.int 3 t1)) (ml : mg "len" = none)
    (XO : ErrC P w K mg base CO fO fdO "value") (gO : mg "InvalidOrder" = some (.ref CO)) (XM : ErrC P w K mg base CM fM fdM "count") (gT : mg "TooMany" = some (.ref CM)) :
    FnR P w K mg base (L2N.CX P w) 3 f (spByRX C CO CM) := by
  obtain ⟨oc, od, kV, doc, pm, an, cdv, ct, osl, rfl, lk, hcd⟩ := F.ex
  refine fn_star (ps := ["self"]) (pv := "fields") (k := 2) lk hcd scByI upN (fun us rest hl => match us, rest, hl with | [_], [], _ => rfl | [_], _ :: _, _ => rfl) (fun A outer s H vs Q E hr h => ?_)
  obtain ⟨a, dx, t, ws, rfl, ha, ht, l1, l9, hz, q1, q2⟩ := h
  refine ⟨_, pss_cons (ps_if (pt_cmpR (op_eqD hr.units) (pv 1) (pe_tup pa_nil) (nomark _)) (pss_one (L2N.ps_raise rfl (L2N.takes_of rfl rfl rfl rfl) (pmkN_oex XO.T XO.it XO.ty XO.F (hr.mono (by decide)) XO.b pass0 rfl gO (pa_cons (pv 1) pa_nil)))) pss_nil)
    (pss_cons (ps_if (pt_cmpR op_gt (pe_callB call_len_seq (by rfl) ml PySem.boot_len (pa_cons (pv 1) pa_nil)) (pe_glob (v := .int 3) rfl gM ⟨_, rfl⟩) (nomark _))
      (pss_one (L2N.ps_raise rfl (L2N.takes_of rfl rfl rfl rfl) (pmkN_oex XM.T XM.it XM.ty XM.F (hr.mono (by decide)) XM.b pass0 rfl gT (pa_cons (pe_callB call_len_seq (by rfl) ml PySem.boot_len (pa_cons (pv 1) pa_nil)) pa_nil)))) pss_nil)
    (pss_cons (ps_for PassesOwn.leaving rfl (pi_tup (pv 1)) (pg_name (i := 2) scByI.nd rfl (.inl rfl)) (pss_one (ps_if (pt_not (pt_val (pe_call GS (hr.mono (by decide)) rfl gS kS bS .nil pass0 (pa_cons (pv 2) pa_nil))))
      (pss_one (L2N.ps_raise rfl (L2N.takes_of rfl rfl rfl rfl) (pmkN_oex XO.T XO.it XO.ty XO.F (hr.mono (by decide)) XO.b pass0 rfl gO (pa_cons (pv 2) pa_nil)))) pss_nil)))
      (pss_one (ps_fld (pv 0) (pv 1) rfl)))), ?_⟩
  refine ⟨_, rfl, (by show 0 ≤ sizeLine; exact Nat.zero_le _), fun p hp => ?_⟩
  have s1 : Same H (upd H p (.tup [])) := Same.new hp
  refine ⟨.tuple (ws.map PyData.str), .tuple [], .tup (.of (s1 _ _ ht)) (dp_wds ws), .tup (.of upd_same) .nil, sh_wds hz, rfl, _, rfl, ?_⟩
  have en : PyData.eqv (.tuple (ws.map PyData.str)) (.tuple []) = false := by
    cases ws with
    | nil => cases l1
    | cons f r => simp [PyData.eqv, PyData.eqvAll]
  rw [en]
  refine iteF ?_
  generalize upd H p (.tup []) = H1 at s1 ⊢
  have ht1 := s1 _ _ ht
  refine ⟨_, rfl, t, _, rfl, .inr (.of ht1), _, _, rfl, rfl, _, rfl, ?_⟩
  rw [List.length_map]
  by_cases h3 : ws.length ≤ 3
  · rw [decide_eq_false (show ¬ ((ws.length : Int) > 3) by omega)]
    have ob : ordB ws = ws.all fldB := by
      unfold ordB
      rw [decide_eq_true h3, Bool.true_and]
    refine iteF ⟨_, rfl, t, rfl, ⟨_, .of ht1⟩, ?_⟩
    refine for_tup (xs := ws.map V.str) (fun i σ H2 => ∃ x2 : Option V, σ = [some (.ref a), some (.ref t), x2] ∧ Same H H2 ∧ (ws.take i).all fldB = true) ?_ ?_ ?_ ?_
    · exact ⟨none, rfl, s1, rfl⟩
    · rintro i σ H2 _ ⟨x2, rfl, s2, _⟩
      exact .of (s2 _ _ ht)
    · rintro i x σ H2 hx ⟨x2, rfl, s2, al⟩
      rw [List.getElem?_map] at hx
      obtain ⟨y, hy, rfl⟩ := Option.map_eq_some_iff.mp hx
      have hm := List.mem_of_getElem? hy
      refine ⟨_, rfl, y, rfl, (hz y hm).len, fun H3 s3 => ⟨_, rfl, ?_⟩⟩
      cases e : fldB y with
      | true =>
        refine iteF ⟨_, rfl, s2.trans s3, ?_⟩
        rw [List.take_add_one, hy, List.all_append, al]
        show (true && ([y].all fldB)) = true
        simp [e]
      | false =>
        refine iteT ⟨_, rfl, mkO_one fun dd H' s' _ => q2 ?_ CO dd H' (.inl rfl) ((s2.trans s3).trans s')⟩
        rw [ob]
        exact Bool.eq_false_iff.mpr fun z => by
          have := List.all_eq_true.mp z y hm
          rw [e] at this
          cases this
    · rintro σ H2 ⟨x2, rfl, s2, al⟩
      rw [List.length_map, List.take_length] at al
      exact ⟨_, rfl, _, rfl, a, C, dx, _, rfl, s2 _ _ ha, c, n1, (by show 0 < 1000; decide), q1 (ob.trans al) H2 s2⟩
  · rw [decide_eq_true (show (ws.length : Int) > 3 by omega)]
    refine iteT ?_
    have s2 := s1
    refine ⟨_, rfl, t, _, rfl, .inr (.of ht1), mkO_one fun dd H' s' _ => q2 ?_ CM dd H' (.inr rfl) (s1.trans s')⟩
    unfold ordB
    rw [decide_eq_false h3]
    rfl
/-- a def of so many parameters, by position -/
theorem fnR_of {CX : CXT} {k : Nat} {ps : List Str} {sp : Sp} (F : FnOk P w K mg base CX k f fd ps sp) (hb : Binds K fd ps []) : FnR P w K mg base CX k f sp := by
  intro A outer s H us vs Q E hr e0 r h
  have hl : (us ++ []).length = ps.length := by
    rw [List.append_nil, ← r.length]
    exact F.len _ _ _ _ h
  have b := hb s us (e0.mod.kin.keeps fun b o e => (e0.bs b o e).1) hl
  rw [List.append_nil] at b
  exact F.run A outer s H ⟨us, []⟩ us vs Q E hr e0 b r h
theorem ok_plX {fN fJ : Addr} {fdN fdJ : FuncData} {t1 : Tok} (F : Fun K "__init__" "Plus.__init__" (sPl 0) f fd) (c : Cls K C) (n1 : NoAttr K C "field_name") (n2 : NoAttr K C "summand") (gG : mg "GREATEST" = some (.int 999 t1))
    (GN : FnOk P w K mg base (L2N.CX P w) 3 fN fdN ["value"] (spNameX CN)) (gN : mg "need_name" = some (.ref fN)) (kN : PySem.W.keepIn K (.ref fN) = true) (bN : Binds K fdN ["value"] [])
    (GJ : FnOk P w K mg base (L2N.CX P w) 3 fJ fdJ ["value", "low", "high"] (spIntX CI)) (gJ : mg "need_integer" = some (.ref fJ)) (kJ : PySem.W.keepIn K (.ref fJ) = true) (bJ : Binds K fdJ ["value", "low", "high"] []) :
    FnOk P w K mg base (L2N.CX P w) 4 f fd ["self", "field", "number"] (spPlIX C CN CI) := by
  obtain ⟨oc, od, kV, doc, pm, an, cdv, ct, osl, rfl, lk, hcd⟩ := F.ex
  refine fn_of lk hcd scPlI (fun vs H Q E h => ?_) (fun A outer s H vs Q E hr h => ?_)
  · obtain ⟨a, dx, z, v, rfl, _⟩ := h
    rfl
  · obtain ⟨a, dx, z, v, rfl, ha, hz, hv, q1, q2⟩ := h
    refine ⟨_, pss_cons (ps_expr (pe_callS GN hr rfl gN kN bN (fun σ => passN (L2N.takes_of rfl rfl rfl rfl) σ) (pa_cons (pv 1) pa_nil)))
      (pss_cons (ps_expr (pe_callS GJ hr rfl gJ kJ bJ (fun σ => passN (L2N.takes_of rfl rfl rfl rfl) σ) (pa_cons (pv 2) (pa_cons (pe_un un_neg (pe_glob (v := .int 999) rfl gG ⟨_, rfl⟩)) (pa_cons (pe_glob (v := .int 999) rfl gG ⟨_, rfl⟩) pa_nil)))))
      (pss_cons (ps_fld (pv 0) (pv 1) rfl) (pss_one (ps_fld (pv 0) (pv 2) rfl)))), ?_⟩
    refine ⟨_, rfl, z, rfl, hz, fun e1 H1 s1 => ?_, fun e1 dd H1 s1 => ?_⟩
    · rw [e1, Bool.true_and] at q1 q2
      refine ⟨_, rfl, _, rfl, v, -999, 999, rfl, hv, fun e2 H2 s2 => ?_, fun e2 dd H2 s2 => q2 e2 CI dd H2 (.inr rfl) (s1.trans s2)⟩
      have s := s1.trans s2
      refine ⟨_, rfl, _, rfl, a, C, dx, _, rfl, s _ _ ha, c, n1, (by show 0 < 1000; decide), ?_⟩
      refine ⟨_, rfl, _, rfl, a, C, dx, _, rfl, upd_same, c, n2, (by show 1 < 1000; decide), ?_⟩
      rw [upd_upd]
      exact q1 e2 H2 s
    · rw [e1, Bool.false_and] at q2
      exact q2 rfl CN dd H1 (.inl rfl) s1
end
end G
set_option Elab.async false
set_option linter.all false
set_option maxRecDepth 100000
set_option maxHeartbeats 4000000
/-! MW: what a text's words say: orders, Plus, numbers. -/
namespace G.N3
open PySem PySem.Spec PyProof.Rows L2 PySem.NumText
theorem cut_head (z : Str) : cs (cutS z none (some 1)) = (cs z).take 1 := by
  show ((cs z).drop (HT.sIx z.length 0 none)).take (HT.sIx z.length z.length (some 1) - HT.sIx z.length 0 none) = _
  rw [HT.sIx_none, show HT.sIx z.length z.length (some 1) = min 1 z.length from HT.sIx_nat z.length z.length 1, List.drop_zero, ← cs_len, Nat.sub_zero]
  cases cs z with
  | nil => rfl
  | cons x r =>
    rw [List.length_cons, show min 1 (r.length + 1) = 1 by omega]
theorem cut_tail (z : Str) : cs (cutS z (some 1) none) = (cs z).drop 1 := by
  show ((cs z).drop (HT.sIx z.length 0 (some 1))).take (HT.sIx z.length z.length none - HT.sIx z.length 0 (some 1)) = _
  rw [HT.sIx_none, show HT.sIx z.length 0 (some 1) = min 1 z.length from HT.sIx_nat z.length 0 1, ← cs_len]
  cases cs z with
  | nil => rfl
  | cons x r =>
    rw [List.length_cons, show min 1 (r.length + 1) = 1 by omega]
    show r.take (r.length + 1 - 1) = r
    rw [Nat.add_sub_cancel, List.take_length]
theorem head_minus (z : Str) : decide (V.str (cutS z none (some 1)) = V.str "-") = decide ((cs z).head? = some 45) := by
  have e : cs ("-" : Str) = [45] := rfl
  by_cases h : (cs z).head? = some 45
  · rw [decide_eq_true h]
    refine decide_eq_true (congrArg V.str (cs_inj ?_))
    rw [cut_head, e]
    cases hz : cs z with
    | nil =>
      rw [hz] at h
      cases h
    | cons x r =>
      rw [hz] at h
      rw [Option.some.inj h]
      rfl
  · rw [decide_eq_false h]
    refine decide_eq_false fun y => h ?_
    have y2 := congrArg cs (V.str.inj y)
    rw [cut_head, e] at y2
    cases hz : cs z with
    | nil =>
      rw [hz] at y2
      cases y2
    | cons x r =>
      rw [hz] at y2
      exact congrArg some (List.head_eq_of_cons_eq y2)
theorem one_is (c k : Nat) (y : Str) (hy : cs y = [k]) : decide (V.str ⟨#[c]⟩ = V.str y) = decide (c = k) := by
  by_cases h : c = k
  · subst h
    rw [decide_eq_true (rfl : c = c)]
    exact decide_eq_true (congrArg V.str (cs_inj hy.symm))
  · rw [decide_eq_false h]
    refine decide_eq_false fun e => h ?_
    have e2 := congrArg cs (V.str.inj e)
    rw [hy] at e2
    exact List.head_eq_of_cons_eq e2
/-- the signs that are no digits -/
def bads (l : List Nat) : List Nat := l.filter fun c => !decide (c ∈ cs ("0123456789" : Str))
theorem bads_digs (l : List Nat) : (bads l).isEmpty = digs l := by
  rw [← digs_eq]
  unfold bads
  induction l with
  | nil => rfl
  | cons c l ih =>
    rw [List.map_cons, List.all_cons, ← ih, List.filter_cons]
    show _ = (decide (c ∈ cs ("0123456789" : Str)) && _)
    cases decide (c ∈ cs ("0123456789" : Str)) <;> rfl
theorem joinL_mem {S : List Nat} {c : Nat} : ∀ {ps : List (List Nat)}, c ∈ TL.joinL S ps → c ∈ S ∨ ∃ p ∈ ps, c ∈ p
  | [], h => nomatch h
  | [p], h => .inr ⟨p, List.mem_singleton.mpr rfl, h⟩
  | p :: q :: r, h => by
    have h' : c ∈ p ++ (S ++ TL.joinL S (q :: r)) := h
    rcases List.mem_append.mp h' with h | h
    · exact .inr ⟨p, List.mem_cons_self, h⟩
    · rcases List.mem_append.mp h with h | h
      · exact .inl h
      · rcases joinL_mem h with h | ⟨p', h1, h2⟩
        · exact .inl h
        · exact .inr ⟨p', List.mem_cons_of_mem _ h1, h2⟩
theorem mem_joinL {S : List Nat} {c : Nat} : ∀ {ps : List (List Nat)} {p : List Nat}, p ∈ ps → c ∈ p → c ∈ TL.joinL S ps
  | [], _, h, _ => nomatch h
  | [x], p, h, hc => by
    rw [List.mem_singleton.mp h] at hc
    exact hc
  | x :: y :: r, p, h, hc => by
    show c ∈ x ++ (S ++ TL.joinL S (y :: r))
    rcases List.mem_cons.mp h with rfl | h
    · exact List.mem_append_left _ hc
    · exact List.mem_append_right _ (List.mem_append_right _ (mem_joinL h hc))
theorem split_joinL (z : Str) : TL.joinL [32] ((Txt.split z " ").map cs) = cs z := by
  have h := congrArg cs (StrLaws.join_split z " ")
  exact (show cs (Str.join " " (Txt.split z " ")) = TL.joinL [32] ((Txt.split z " ").map cs) from TL.tl_join " " _).symm.trans h

/-! ### numbers of at most three digits -/
theorem back1 : ∀ a, a < 10 → decide (TL.numL (digitsVal [48 + a]) = [48 + a]) = true ∧ digitsVal [48 + a] ≤ 999 ∧ (digitsVal [48 + a] = 0 → a = 0) := by decide +kernel
theorem back2 : ∀ a, a < 10 → ∀ b, b < 10 → decide (TL.numL (digitsVal [48 + a, 48 + b]) = [48 + a, 48 + b]) = !decide (a = 0) ∧ digitsVal [48 + a, 48 + b] ≤ 999 ∧ (digitsVal [48 + a, 48 + b] = 0 → a = 0) := by decide +kernel
theorem back3 : ∀ a, a < 10 → ∀ b, b < 10 → ∀ c, c < 10 → decide (TL.numL (digitsVal [48 + a, 48 + b, 48 + c]) = [48 + a, 48 + b, 48 + c]) = !decide (a = 0) ∧ digitsVal [48 + a, 48 + b, 48 + c] ≤ 999 ∧ (digitsVal [48 + a, 48 + b, 48 + c] = 0 → a = 0) := by decide +kernel
def lead0 (l : List Nat) : Bool := decide (l.head? = some 48) && decide (1 < l.length)
theorem dig_ex {c : Nat} (h : 48 ≤ c ∧ c ≤ 57) : ∃ a, a < 10 ∧ c = 48 + a := ⟨c - 48, by omega, by omega⟩
theorem head48 {a : Nat} {l : List Nat} : decide (((48 + a) :: l).head? = some 48) = decide (a = 0) := by
  by_cases h : a = 0
  · subst h
    rfl
  · rw [decide_eq_false h]
    exact decide_eq_false fun e => h (by have := Option.some.inj e; omega)
theorem numL_back {l : List Nat} (hd : digs l = true) (h1 : 1 ≤ l.length) (h3 : l.length ≤ 3) : decide (TL.numL (digitsVal l) = l) = !lead0 l ∧ digitsVal l ≤ 999 ∧ (digitsVal l = 0 → l.head? = some 48) := by
  have ad := digs_all hd
  match l, h1, h3, ad with
  | [x], _, _, ad =>
    obtain ⟨a, ha, rfl⟩ := dig_ex (ad x (by simp))
    obtain ⟨e1, e2, e3⟩ := back1 a ha
    refine ⟨?_, e2, fun z => by rw [e3 z]; rfl⟩
    rw [e1]
    unfold lead0
    rw [decide_eq_false (show ¬ 1 < [48 + a].length by simp), Bool.and_false]
    rfl
  | [x, y], _, _, ad =>
    obtain ⟨a, ha, rfl⟩ := dig_ex (ad x (by simp))
    obtain ⟨b, hb, rfl⟩ := dig_ex (ad y (by simp))
    obtain ⟨e1, e2, e3⟩ := back2 a ha b hb
    refine ⟨?_, e2, fun z => by rw [e3 z]; rfl⟩
    rw [e1]
    unfold lead0
    rw [head48, decide_eq_true (show 1 < [48 + a, 48 + b].length by simp), Bool.and_true]
  | [x, y, z], _, _, ad =>
    obtain ⟨a, ha, rfl⟩ := dig_ex (ad x (by simp))
    obtain ⟨b, hb, rfl⟩ := dig_ex (ad y (by simp))
    obtain ⟨c, hc, rfl⟩ := dig_ex (ad z (by simp))
    obtain ⟨e1, e2, e3⟩ := back3 a ha b hb c hc
    refine ⟨?_, e2, fun z => by rw [e3 z]; rfl⟩
    rw [e1]
    unfold lead0
    rw [head48, decide_eq_true (show 1 < [48 + a, 48 + b, 48 + c].length by simp), Bool.and_true]
theorem foldl_big : ∀ (l : List Nat) (acc : Nat), acc * 10 ^ l.length ≤ l.foldl (fun acc c => acc * 10 + (c - 48)) acc
  | [], acc => by simp
  | c :: l, acc => by
    show acc * 10 ^ (l.length + 1) ≤ l.foldl _ (acc * 10 + (c - 48))
    refine Nat.le_trans ?_ (foldl_big l _)
    rw [Nat.pow_succ, Nat.mul_comm (10 ^ l.length) 10, ← Nat.mul_assoc]
    exact Nat.mul_le_mul_right _ (Nat.le_add_right _ _)
theorem short_of {l : List Nat} (hd : okD l = true) (h : digitsVal l ≤ 999) : l.length ≤ 3 := by
  unfold okD at hd
  simp only [Bool.and_eq_true, decide_eq_true_eq, Bool.not_eq_true', Bool.and_eq_false_iff, decide_eq_false_iff_not] at hd
  obtain ⟨⟨h1, _⟩, h2, h3⟩ := hd
  have ad := digs_all h3
  cases l with
  | nil => simp
  | cons c l =>
    by_cases hl : (c :: l).length ≤ 3
    · exact hl
    · exfalso
      have hc := ad c (by simp)
      have c49 : 49 ≤ c := by
        rcases h2 with h2 | h2
        · have : c ≠ 48 := fun z => h2 (by rw [z]; rfl)
          omega
        · exact absurd (by simp at hl ⊢; omega) h2
      have big := foldl_big l (0 * 10 + (c - 48))
      have e : digitsVal (c :: l) = l.foldl (fun acc c => acc * 10 + (c - 48)) (0 * 10 + (c - 48)) := rfl
      have p : 10 ^ 3 ≤ 10 ^ l.length := Nat.pow_le_pow_right (by decide) (by simp at hl; omega)
      have q : 1 * 10 ^ l.length ≤ (0 * 10 + (c - 48)) * 10 ^ l.length := Nat.mul_le_mul_right _ (by omega)
      rw [e] at h
      omega
abbrev shown (i : Int) : Str := Str.ofString (toString i)
theorem cs_shown (n : Nat) : cs (shown (n : Int)) = TL.numL n := TL.tl_num n
theorem cs_shown_neg (m : Nat) : cs (shown (-((m + 1 : Nat) : Int))) = 45 :: TL.numL (m + 1) := by
  have e : (shown (-((m + 1 : Nat) : Int))).cps.toList = (toString (-((m + 1 : Nat) : Int))).toList.map Char.toNat := by
    unfold shown
    rw [PySem.Str.ofString_eq_toList]
  refine e.trans ?_
  show (("-" ++ Nat.repr (m + 1)) : String).toList.map Char.toNat = _
  rw [String.toList_append, List.map_append, Nat.toList_repr]
  rfl
/-- what the law reads off a word -/
def smallB (w : Str) : Bool := (decide (1 ≤ (body (cs w)).length) && decide ((body (cs w)).length ≤ 3)) && digs (body (cs w))
def lawI (w : Str) : Option Int := if smallB w = true then if shown (valN w) = w then some (valN w) else none else none
def numO (w : Str) : Option Int := if okN (cs w) = true ∧ -999 ≤ valN w ∧ valN w ≤ 999 then some (valN w) else none
theorem val_pos {w : Str} (hm : (cs w).head? ≠ some 45) (hd : digs (cs w) = true) (h1 : 1 ≤ (cs w).length) (h2 : (cs w).length ≤ 30) : valN w = ((digitsVal (cs w) : Nat) : Int) := by
  unfold valN
  rw [intText_digits (digs_all hd) (fun y => by rw [show cs w = [] from y] at h1; exact absurd h1 (by decide)) (by have := cs_len w; omega)]
  rfl
theorem val_neg {w : Str} {q : List Nat} (hq : cs w = 45 :: q) (hd : digs q = true) (h1 : 1 ≤ q.length) (h2 : q.length ≤ 30) : valN w = -((digitsVal q : Nat) : Int) := by
  unfold valN
  have hl := cs_len w
  rw [hq, List.length_cons] at hl
  rw [intText_neg hq (digs_all hd) (fun y => by rw [y] at h1; exact absurd h1 (by decide)) (by omega)]
  rfl
theorem okD_small {l : List Nat} (h1 : 1 ≤ l.length) (h3 : l.length ≤ 3) (hd : digs l = true) : okD l = !lead0 l := by
  unfold okD lead0
  rw [decide_eq_true h1, decide_eq_true (show l.length ≤ 30 by omega), hd, Bool.and_true, Bool.and_true, Bool.true_and]
theorem cut_cases (l : List Nat) : (l.head? ≠ some 45 ∧ body l = l) ∨ ∃ q, l = 45 :: q ∧ body l = q := by
  by_cases h : l.head? = some 45
  · cases l with
    | nil => cases h
    | cons x q =>
      have : x = 45 := Option.some.inj h
      subst this
      exact .inr ⟨q, rfl, by unfold body; rw [if_pos h]; rfl⟩
  · exact .inl ⟨h, by unfold body; rw [if_neg h]⟩
/-- the law and the program read the same number off a word, and it is shown as the word -/
theorem small_num {w : Str} (hs : smallB w = true) : (shown (valN w) = w ↔ okN (cs w) = true) ∧ -999 ≤ valN w ∧ valN w ≤ 999 := by
  unfold smallB at hs
  simp only [Bool.and_eq_true, decide_eq_true_eq] at hs
  obtain ⟨⟨h1, h3⟩, hd⟩ := hs
  rcases cut_cases (cs w) with ⟨hm, hb⟩ | ⟨q, hw, hb⟩
  · rw [hb] at h1 h3 hd
    have hv := val_pos hm hd h1 (by omega)
    obtain ⟨e1, e2, _⟩ := numL_back hd h1 h3
    have ok : okN (cs w) = !lead0 (cs w) := by
      unfold okN
      rw [hb, okD_small h1 h3 hd, decide_eq_false (show ¬ cs w = [45, 48] from fun z => hm (by rw [z]; rfl))]
      rfl
    rw [hv, ok, ← e1]
    refine ⟨⟨fun z => ?_, fun z => ?_⟩, by omega, by omega⟩
    · refine decide_eq_true ?_
      rw [← cs_shown, z]
    · refine cs_inj ?_
      rw [cs_shown]
      exact of_decide_eq_true z
  · rw [hb] at h1 h3 hd
    have hv := val_neg hw hd h1 (by omega)
    obtain ⟨e1, e2, e3⟩ := numL_back hd h1 h3
    have ok : okN (cs w) = (!decide (cs w = [45, 48]) && !lead0 q) := by
      unfold okN
      rw [hb, okD_small h1 h3 hd]
    rw [hv]
    refine ⟨?_, by omega, by omega⟩
    cases hn : digitsVal q with
    | zero =>
      have hh := e3 hn
      refine ⟨fun z => ?_, fun z => ?_⟩
      · exfalso
        have z2 := congrArg cs z
        rw [show (-((0 : Nat) : Int)) = ((0 : Nat) : Int) from rfl, cs_shown, hw] at z2
        have z3 : TL.numL 0 = [48] := by decide +kernel
        rw [z3] at z2
        simp at z2
      · exfalso
        rw [ok] at z
        simp only [Bool.and_eq_true, Bool.not_eq_true', decide_eq_false_iff_not] at z
        obtain ⟨z1, z2⟩ := z
        unfold lead0 at z2
        rw [decide_eq_true hh, Bool.true_and, decide_eq_false_iff_not] at z2
        match q, hh, z2, h1 with
        | [x], hh, _, _ => exact z1 (by rw [hw, Option.some.inj hh])
        | x :: y :: r, _, z2, _ => exact z2 (by simp)
    | succ m =>
      rw [hn] at e1
      have nz : ¬ cs w = [45, 48] := fun z => by
        rw [hw] at z
        have z1 : q = [48] := List.tail_eq_of_cons_eq z
        rw [z1] at hn
        have z2 : digitsVal [48] = 0 := by decide +kernel
        rw [z2] at hn
        cases hn
      rw [ok, decide_eq_false nz, Bool.not_false, Bool.true_and, ← e1]
      refine ⟨fun z => ?_, fun z => ?_⟩
      · have z2 := congrArg cs z
        rw [cs_shown_neg, hw] at z2
        exact decide_eq_true (List.tail_eq_of_cons_eq z2)
      · refine cs_inj ?_
        rw [cs_shown_neg, hw, of_decide_eq_true z]
theorem ok_small {w : Str} (h : okN (cs w) = true) (h1 : -999 ≤ valN w) (h2 : valN w ≤ 999) : smallB w = true := by
  have h' := h
  unfold okN at h'
  rw [Bool.and_eq_true] at h'
  have hD := h'.2
  have hD2 := hD
  unfold okD at hD2
  simp only [Bool.and_eq_true, decide_eq_true_eq] at hD2
  obtain ⟨⟨l1, l30⟩, _, hd⟩ := hD2
  have l3 : (body (cs w)).length ≤ 3 := by
    rcases cut_cases (cs w) with ⟨hm, hb⟩ | ⟨q, hw, hb⟩
    · rw [hb] at hD hd l1 l30 ⊢
      have hv := val_pos hm hd l1 l30
      exact short_of hD (by omega)
    · rw [hb] at hD hd l1 l30 ⊢
      have hv := val_neg hw hd l1 l30
      exact short_of hD (by omega)
  unfold smallB
  rw [decide_eq_true l1, decide_eq_true l3, hd]
  rfl
theorem lawI_eq (w : Str) : lawI w = numO w := by
  unfold lawI numO
  cases hs : smallB w with
  | true =>
    obtain ⟨e, h1, h2⟩ := small_num hs
    rw [if_pos rfl]
    by_cases z : okN (cs w) = true
    · rw [if_pos (e.mpr z), if_pos ⟨z, h1, h2⟩]
    · rw [if_neg (fun y => z (e.mp y)), if_neg (fun y => z y.1)]
  | false =>
    rw [if_neg (by simp), if_neg]
    rintro ⟨z, h1, h2⟩
    rw [ok_small z h1 h2] at hs
    cases hs
theorem numO_shown {w : Str} {i : Int} (h : numO w = some i) : shown i = w ∧ -999 ≤ i ∧ i ≤ 999 := by
  unfold numO at h
  split at h
  · rename_i z
    cases h
    exact ⟨(small_num (ok_small z.1 z.2.1 z.2.2)).1.mpr z.1, z.2.1, z.2.2⟩
  · cases h
theorem numV_of (w : Str) : numV (.str w) (-999) 999 = (match numO w with | some i => V.int i | none => V.non) := by
  by_cases h : okN (cs w) = true ∧ -999 ≤ valN w ∧ valN w ≤ 999
  · unfold numV numD numO
    dsimp only
    rw [if_pos h, if_pos h]
  · unfold numV numD numO
    dsimp only
    rw [if_neg h, if_neg h]
end G.N3
set_option Elab.async false
set_option linter.all false
set_option maxRecDepth 100000
set_option maxHeartbeats 4000000
/-! MX: which texts are orders, which are Plus. -/
namespace G
open PySem PySem.Spec PyProof.Rows L2 NdefX StX
theorem str_beq (a b : Str) : (a == b) = decide (a = b) := by
  by_cases h : a = b
  · rw [decide_eq_true h, h]
    exact beq_self_eq_true _
  · rw [decide_eq_false h]
    exact Bool.eq_false_iff.mpr fun e => h (beq_iff_eq.mp e)
theorem inV_str (y : Str) : ∀ zs : List Str, inV (.str y) (zs.map V.str) = decide (y ∈ zs)
  | [] => rfl
  | z :: zs => by
    show ((z == y) || inV (.str y) (zs.map V.str)) = decide (y ∈ z :: zs)
    rw [inV_str y zs, str_beq]
    by_cases h : z = y
    · subst h
      rw [decide_eq_true rfl, decide_eq_true List.mem_cons_self]
      rfl
    · rw [decide_eq_false h, Bool.false_or]
      by_cases h2 : y ∈ zs
      · rw [decide_eq_true h2, decide_eq_true (List.mem_cons_of_mem _ h2)]
      · rw [decide_eq_false h2, decide_eq_false fun e => (List.mem_cons.mp e).elim (fun e => h e.symm) h2]
theorem flat_strs (zs : List Str) : (zs.map V.str).all flatV = true := List.all_eq_true.mpr fun x hx => by
  obtain ⟨z, _, rfl⟩ := List.mem_map.mp hx
  rfl
/-- a text that may be read -/
structure Tw (z : Str) : Prop where
  asc : N3.Asc z
  len : z.length ≤ 800
abbrev spl (z : Str) : List Str := Txt.split z " "
theorem spl_pos (z : Str) : 1 ≤ (spl z).length := split_pos z " "
theorem spl_le (z : Str) : (spl z).length ≤ z.length + 2 := split_le z " "
theorem spl_wd {z : Str} (h : Tw z) : ∀ w ∈ spl z, Wd w := fun w hw => by
  refine ⟨fun c hc => h.asc c ?_, ?_⟩
  · rw [← N3.split_joinL]
    exact N3.mem_joinL (List.mem_map.mpr ⟨w, hw, rfl⟩) hc
  · have := part_short hw
    have := h.len
    omega
theorem spl_join (z : Str) : Txt.join " " (spl z) = z := by
  refine cs_inj ?_
  rw [TL.join_eq]
  exact (TL.tl_join " " _).trans (N3.split_joinL z)
theorem spl_ten {z : Str} (h : 10 ∈ cs z) : ∃ w ∈ spl z, 10 ∈ cs w := by
  rw [← N3.split_joinL] at h
  rcases N3.joinL_mem h with h | ⟨p, hp, hc⟩
  · simp at h
  · obtain ⟨w, hw, rfl⟩ := List.mem_map.mp hp
    exact ⟨w, hw, hc⟩
theorem low_ten {w : Str} (h : 10 ∈ cs w) : nameB w = false := by
  unfold nameB
  rw [Bool.and_eq_false_iff]
  right
  refine Bool.eq_false_iff.mpr fun z => ?_
  have := List.all_eq_true.mp z 10 h
  have e : lowB 10 = false := by decide +kernel
  rw [e] at this
  cases this
theorem fld_ten {w : Str} (h : 10 ∈ cs w) : fldB w = false := by
  unfold fldB
  refine low_ten ?_
  rw [N3.cs_prefix]
  rcases N3.cut_cases (cs w) with ⟨_, hb⟩ | ⟨q, hw, hb⟩
  · rw [hb]
    exact h
  · rw [hb]
    rw [hw] at h
    rcases List.mem_cons.mp h with h | h
    · cases h
    · exact h
theorem fld_nil : fldB "" = false := by decide +kernel
theorem name_nil : nameB "" = false := by decide +kernel
theorem emptyIn_mem {ws : List Str} : N3.emptyIn ws = decide ((("" : Str)) ∈ ws) := by
  unfold N3.emptyIn
  rw [inV_str]
theorem words_eq (z : Str) : N3.wordsD (.str z) = if 10 ∈ cs z ∨ ("" : Str) ∈ spl z then none else some (spl z) := by
  show (if 10 ∈ cs z then none else if N3.emptyIn (spl z) = true then none else some (spl z)) = _
  rw [emptyIn_mem]
  by_cases h : 10 ∈ cs z
  · rw [if_pos h, if_pos (.inl h)]
  · rw [if_neg h]
    by_cases h2 : ("" : Str) ∈ spl z
    · rw [if_pos (decide_eq_true h2), if_pos (.inr h2)]
    · rw [if_neg (by rw [decide_eq_false h2]; decide), if_neg (fun z => z.elim h h2)]
/-- the order that a thing is read as -/
def readB (d : PyData) : Option (List Str) := match N3.wordsD d with
  | some ws => if ordB ws = true then some ws else none
  | none => none
theorem ord_not {z : Str} (h : 10 ∈ cs z ∨ ("" : Str) ∈ spl z) : ordB (spl z) = false := by
  unfold ordB
  rw [Bool.and_eq_false_iff]
  right
  refine Bool.eq_false_iff.mpr fun al => ?_
  rcases h with h | h
  · obtain ⟨w, hw, hc⟩ := spl_ten h
    have := List.all_eq_true.mp al w hw
    rw [fld_ten hc] at this
    cases this
  · have := List.all_eq_true.mp al _ h
    rw [fld_nil] at this
    cases this
theorem readB_eq (z : Str) : readB (.str z) = if ordB (spl z) = true then some (spl z) else none := by
  unfold readB
  rw [words_eq]
  by_cases h : 10 ∈ cs z ∨ ("" : Str) ∈ spl z
  · rw [if_pos h, ord_not h]
    rfl
  · rw [if_neg h]
/-- the Plus that words are -/
def plB : List Str → Option (Str × Int)
  | [p, n, i] => if p = "plus" ∧ nameB n = true then (N3.numO i).map fun k => (n, k) else none
  | _ => none
def readP (d : PyData) : Option (Str × Int) := match N3.wordsD d with
  | some ws => plB ws
  | none => none
theorem num_ten {w : Str} (h : 10 ∈ cs w) : N3.numO w = none := by
  unfold N3.numO
  refine if_neg fun hh => ?_
  have hk := hh.1
  unfold N3.okN N3.okD at hk
  simp only [Bool.and_eq_true] at hk
  have hd := hk.2.2.2
  have : 10 ∈ N3.body (cs w) := by
    rcases N3.cut_cases (cs w) with ⟨_, hb⟩ | ⟨q, hw, hb⟩
    · rw [hb]
      exact h
    · rw [hb]
      rw [hw] at h
      rcases List.mem_cons.mp h with h | h
      · cases h
      · exact h
  have := List.all_eq_true.mp hd 10 this
  exact absurd this (by decide)
theorem num_nil : N3.numO "" = none := by
  unfold N3.numO
  refine if_neg fun hh => ?_
  exact absurd hh.1 (by decide +kernel)
theorem pl_not {z : Str} (h : 10 ∈ cs z ∨ ("" : Str) ∈ spl z) : plB (spl z) = none := by
  have key : ∃ w ∈ spl z, 10 ∈ cs w ∨ w = "" := by
    rcases h with h | h
    · obtain ⟨w, hw, hc⟩ := spl_ten h
      exact ⟨w, hw, .inl hc⟩
    · exact ⟨_, h, .inr rfl⟩
  obtain ⟨w, hw, hb⟩ := key
  have pp : ∀ {p : Str}, p = "plus" → ¬ (10 ∈ cs p ∨ p = "") := by
    rintro p rfl
    decide +kernel
  match e : spl z with
  | [] => rfl
  | [_] => rfl
  | [_, _] => rfl
  | [p, n, i] =>
    rw [e] at hw
    show (if p = "plus" ∧ nameB n = true then (N3.numO i).map fun k => (n, k) else none) = none
    by_cases c : p = "plus" ∧ nameB n = true
    · rw [if_pos c]
      rcases List.mem_cons.mp hw with rfl | hw
      · exact absurd hb (pp c.1)
      · rcases List.mem_cons.mp hw with rfl | hw
        · exfalso
          have := c.2
          rcases hb with hb | rfl
          · rw [low_ten hb] at this
            cases this
          · rw [name_nil] at this
            cases this
        · rw [List.mem_singleton.mp hw] at hb
          rcases hb with hb | rfl
          · rw [num_ten hb]
            rfl
          · rw [num_nil]
            rfl
    · rw [if_neg c]
  | _ :: _ :: _ :: _ :: _ => rfl
theorem readP_eq (z : Str) : readP (.str z) = plB (spl z) := by
  unfold readP
  rw [words_eq]
  by_cases h : 10 ∈ cs z ∨ ("" : Str) ∈ spl z
  · rw [if_pos h, pl_not h]
  · rw [if_neg h]
theorem readB_odd {d : PyData} (h : isS d = false) : readB d = none := by
  unfold readB
  cases d with
  | str z => cases h
  | _ => rfl
theorem readP_odd {d : PyData} (h : isS d = false) : readP d = none := by
  unfold readP
  cases d with
  | str z => cases h
  | _ => rfl
/-- shown, a Plus that was read is the text -/
theorem plB_shown {z : Str} {n : Str} {i : Int} (h : plB (spl z) = some (n, i)) : Txt.join " " ["plus", n, N3.shown i] = z ∧ nameB n = true ∧ -999 ≤ i ∧ i ≤ 999 := by
  match e : spl z, h with
  | [p, m, k], h =>
    have h' : (if p = "plus" ∧ nameB m = true then (N3.numO k).map fun k => (m, k) else none) = some (n, i) := h
    split at h'
    · rename_i c
      obtain ⟨j, hj, ej⟩ := Option.map_eq_some_iff.mp h'
      cases ej
      obtain ⟨s1, s2, s3⟩ := N3.numO_shown hj
      refine ⟨?_, c.2, s2, s3⟩
      rw [s1, ← c.1, ← e]
      exact spl_join z
    · cases h'
end G
set_option Elab.async false
set_option linter.all false
set_option maxRecDepth 100000
set_option maxHeartbeats 4000000
/-! RD: orders and Plus shown, compared and read. -/
namespace G
open PySem PySem.Spec PyProof.Rows L2 NdefX StX
abbrev sByRead : Stmt := sBy 11
abbrev sPlRead : Stmt := sPl 6
theorem scByE : FnScope ["self", "other"] ["self", "other"] (defScope (sBy 7)) := ⟨rfl, rfl, rfl, by decide +kernel, rfl, by decide +kernel, by decide +kernel⟩
theorem scByS : FnScope ["self"] ["self"] (defScope (sBy 8)) := ⟨rfl, rfl, rfl, by decide +kernel, rfl, by decide +kernel, by decide +kernel⟩
theorem scPlE : FnScope ["self", "other"] ["self", "other"] (defScope (sPl 4)) := ⟨rfl, rfl, rfl, by decide +kernel, rfl, by decide +kernel, by decide +kernel⟩
theorem scPlS : FnScope ["self"] ["self"] (defScope (sPl 5)) := ⟨rfl, rfl, rfl, by decide +kernel, rfl, by decide +kernel, by decide +kernel⟩
theorem scByRead : FnScope ["text", "words"] ["text"] (defScope sByRead) := ⟨rfl, rfl, rfl, by decide +kernel, rfl, by decide +kernel, by decide +kernel⟩
theorem scPlRead : FnScope ["text", "words"] ["text"] (defScope sPlRead) := ⟨rfl, rfl, rfl, by decide +kernel, rfl, by decide +kernel, by decide +kernel⟩
/-- what isinstance asks of an own class -/
structure OwC (K : PySem.W.Frag) (C : Addr) : Prop where
  cl : Cls K C
  ha : PySem.W.findIn K (.ref C) "__class__" = some (some (.builtin "object.__class__"))
  hn : PySem.W.specialIn K (.builtin "object.__class__") "__get__" = some (some (.builtin "getset_descriptor.__get__"))
  htk : PySem.W.takesIn K (.builtin "object.__class__") = some true
  hm : PySem.W.mroIn K C (.type "object") = some true
  kit : PySem.W.kitOne K (.ref C) (.ref C) = some true
/-- at a stands the order of these words -/
def ByW (C : Addr) (H : Hp) (a t : Addr) (ws : List Str) : Prop := ∃ dx, H a = some (.ins C dx [("signed_fields", .ref t)]) ∧ H t = some (.tup (ws.map V.str))
theorem ByW.same {C a t : Addr} {H H' : Hp} {ws : List Str} (h : ByW C H a t ws) (s : Same H H') : ByW C H' a t ws := let ⟨dx, h1, h2⟩ := h; ⟨dx, s _ _ h1, s _ _ h2⟩
/-- at a stands Plus(z, n) -/
def PlAt (C : Addr) (H : Hp) (a : Addr) (z : Str) (n : Int) : Prop := ∃ dx, H a = some (.ins C dx [("field_name", .str z), ("summand", .int n)])
theorem PlAt.same {C a : Addr} {H H' : Hp} {z : Str} {n : Int} (h : PlAt C H a z n) (s : Same H H') : PlAt C H' a z n := let ⟨dx, e⟩ := h; ⟨dx, s _ _ e⟩
def spByS (C : Addr) : Sp := fun vs H Q _ => ∃ (a t : Addr) (ws : List Str), vs = [.ref a] ∧ ByW C H a t ws ∧ ws.length ≤ 3 ∧ (∀ w ∈ ws, Wd w) ∧ Q (.str (Txt.join " " ws)) H
def spPlS (C : Addr) : Sp := fun vs H Q _ => ∃ (a : Addr) (z : Str) (n : Int), vs = [.ref a] ∧ PlAt C H a z n ∧ z.length ≤ 900 ∧ -999 ≤ n ∧ n ≤ 999 ∧ Q (.str (Txt.join " " ["plus", z, N3.shown n])) H
def spByE (C : Addr) : Sp := fun vs H Q _ => ∃ (a b t u : Addr) (ws : List Str), vs = [.ref a, .ref b] ∧ ByW C H a t ws ∧ ByW C H b u ws ∧ (∀ w ∈ ws, Wd w) ∧ Q (.bl true) H
def spPlE (C : Addr) : Sp := fun vs H Q _ => ∃ (a b : Addr) (z : Str) (n : Int), vs = [.ref a, .ref b] ∧ PlAt C H a z n ∧ PlAt C H b z n ∧ Q (.bl true) H
theorem slog {i : Int} (h1 : -999 ≤ i) (h2 : i ≤ 999) : i.natAbs.log2 < 1920 := by
  have h : i.natAbs < 2 ^ 10 := by omega
  by_cases z : i.natAbs = 0
  · rw [z]
    decide
  · exact Nat.lt_trans ((Nat.log2_lt z).mpr h) (by decide)
theorem int_text {i : Int} (h1 : -999 ≤ i) (h2 : i ≤ 999) : ((toString i : String) : Str).length ≤ 1921 := shown_le (.int i) (decide_eq_true (slog h1 h2))
theorem sum_wds : ∀ {ws : List Str}, (∀ w ∈ ws, Wd w) → (ws.map (·.length)).sum ≤ 900 * ws.length
  | [], _ => by simp
  | w :: ws, h => by
    have h1 := (h w List.mem_cons_self).len
    have h2 := sum_wds (ws := ws) fun y hy => h y (List.mem_cons_of_mem _ hy)
    rw [List.map_cons, List.sum_cons, List.length_cons]
    omega
theorem eqv_wds : ∀ ws : List Str, PyData.eqvAll (ws.map PyData.str) (ws.map PyData.str) = true
  | [] => by simp [PyData.eqvAll]
  | f :: fs => by simp [PyData.eqvAll, PyData.eqv, eqv_wds fs]
theorem plus_join (z i : Str) : Str.empty ++ ("plus " : Str) ++ z ++ (" " : Str) ++ i = Txt.join " " ["plus", z, i] := by
  refine cs_inj ?_
  rw [TL.join_eq]
  refine Eq.trans ?_ (TL.tl_join " " _).symm
  simp only [cs_app]
  show (((cs Str.empty ++ cs ("plus " : Str)) ++ cs z) ++ cs (" " : Str)) ++ cs i = cs ("plus" : Str) ++ (cs (" " : Str) ++ (cs z ++ (cs (" " : Str) ++ cs i)))
  have e1 : cs ("plus " : Str) = cs ("plus" : Str) ++ cs (" " : Str) := by decide +kernel
  have e0 : cs Str.empty = [] := rfl
  rw [e0, e1]
  simp only [List.nil_append, List.append_assoc]
section
variable {P : Program} {w : World} {K : PySem.W.Frag} {mg : Str → Option Value} {base : Heap} {f C : Addr} {fd : FuncData}
theorem ok_bystr (F : Fun K "__str__" "By.__str__" (sBy 8) f fd) (c : Cls K C) (n1 : NoAttr K C "signed_fields") : FnOk P w K mg base CX0 1 f fd ["self"] (spByS C) := by
  refine F.ok scByS (fun vs H Q E h => ?_) (fun cdv A outer s H vs Q E hr h => ?_)
  · obtain ⟨a, t, ws, rfl, _⟩ := h
    rfl
  · obtain ⟨a, t, ws, rfl, ⟨dx, ha, ht⟩, l3, hz, q⟩ := h
    refine ⟨_, pss_one (ps_ret (pe_join pe_str (pe_fld (pv 0) rfl))), ?_⟩
    have := sum_wds hz
    exact ⟨⟨_, rfl⟩, _, rfl, a, C, dx, _, _, rfl, ha, c, n1, rfl, " ", t, ws, rfl, rfl, .inr (.of ht), (by rw [show (" " : Str).length = 1 from rfl]; omega), q⟩
theorem ok_plstr (F : Fun K "__str__" "Plus.__str__" (sPl 5) f fd) (c : Cls K C) (n1 : NoAttr K C "field_name") (n2 : NoAttr K C "summand") : FnOk P w K mg base CX0 1 f fd ["self"] (spPlS C) := by
  refine F.ok scPlS (fun vs H Q E h => ?_) (fun cdv A outer s H vs Q E hr h => ?_)
  · obtain ⟨a, z, n, rfl, _⟩ := h
    rfl
  · obtain ⟨a, z, n, rfl, ⟨dx, ha⟩, hz, h1, h2, q⟩ := h
    refine ⟨_, pss_one (ps_ret (pe_joined (.cons pe_str (.cons (pe_fmt (pe_fld (pv 0) rfl)) (.cons pe_str (.cons (pe_fmt (pe_fld (pv 0) rfl)) .nil)))))), ?_⟩
    have hi := int_text h1 h2
    rw [← plus_join] at q
    refine ⟨_, rfl, by decide, _, rfl, a, C, dx, _, _, rfl, ha, c, n1, rfl, .inl ⟨z, rfl, small_size (by omega), _, rfl, ?_, _, rfl, ?_, _, rfl, a, C, dx, _, _, rfl, ha, c, n2, rfl, .inr ⟨n, rfl, slog h1 h2, _, rfl, ?_, q⟩⟩⟩
    all_goals
      simp only [app_len]
      have e0 : Str.empty.length = 0 := rfl
      have e1 : (("plus " : String) : Str).length = 5 := rfl
      have e2 : ((" " : String) : Str).length = 1 := rfl
      rw [sizeLine_eq]
      omega
theorem ok_byeq (F : Fun K "__eq__" "By.__eq__" (sBy 7) f fd) (c : OwC K C) (n1 : NoAttr K C "signed_fields") (gC : mg "By" = some (.ref C)) (mi : mg "isinstance" = none) : FnOk P w K mg base CX0 1 f fd ["self", "other"] (spByE C) := by
  refine F.ok scByE (fun vs H Q E h => ?_) (fun cdv A outer s H vs Q E hr h => ?_)
  · obtain ⟨a, b, t, u, ws, rfl, _⟩ := h
    rfl
  · obtain ⟨a, b, t, u, ws, rfl, ⟨dx, ha, ht⟩, ⟨dy, hb, hu⟩, hz, q⟩ := h
    have sh := sh_wds hz
    refine ⟨_, pss_one (ps_ret (pe_and (pe_callB call_isi (by rfl) mi (by decide +kernel) (pa_cons (pv 1) (pa_cons (pe_glob (v := .ref C) rfl gC rfl) pa_nil)))
      (pe_one (pe_cmpR (op_eqD hr.units) (pe_fld (pv 0) rfl) (pe_fld (pv 1) rfl) (nomark _))))), ?_⟩
    refine ⟨_, rfl, _, _, _, _, _, rfl, .own C, .base (.ins hb c.cl c.ha c.hn c.htk c.hm), c.kit, _, rfl, iteT ?_⟩
    refine ⟨_, rfl, a, C, dx, _, _, rfl, ha, c.cl, n1, rfl, _, rfl, b, C, dy, _, _, rfl, hb, c.cl, n1, rfl, .tuple (ws.map PyData.str), .tuple (ws.map PyData.str), .tup (.of ht) (dp_wds ws), .tup (.of hu) (dp_wds ws), sh, sh, ?_⟩
    have e : PyData.eqv (.tuple (ws.map PyData.str)) (.tuple (ws.map PyData.str)) = true := by simp [PyData.eqv, eqv_wds ws]
    rw [e]
    exact q
theorem ok_pleq (F : Fun K "__eq__" "Plus.__eq__" (sPl 4) f fd) (c : OwC K C) (n1 : NoAttr K C "field_name") (n2 : NoAttr K C "summand") (gC : mg "Plus" = some (.ref C)) (mi : mg "isinstance" = none) : FnOk P w K mg base CX0 1 f fd ["self", "other"] (spPlE C) := by
  refine F.ok scPlE (fun vs H Q E h => ?_) (fun cdv A outer s H vs Q E hr h => ?_)
  · obtain ⟨a, b, z, n, rfl, _⟩ := h
    rfl
  · obtain ⟨a, b, z, n, rfl, ⟨dx, ha⟩, ⟨dy, hb⟩, q⟩ := h
    refine ⟨_, pss_one (ps_ret (pe_and (pe_callB call_isi (by rfl) mi (by decide +kernel) (pa_cons (pv 1) (pa_cons (pe_glob (v := .ref C) rfl gC rfl) pa_nil)))
      (pe_and (pe_cmpR op_eq (pe_fld (pv 0) rfl) (pe_fld (pv 1) rfl) (nomark _)) (pe_one (pe_cmpR op_eq (pe_fld (pv 0) rfl) (pe_fld (pv 1) rfl) (nomark _)))))), ?_⟩
    refine ⟨_, rfl, _, _, _, _, _, rfl, .own C, .base (.ins hb c.cl c.ha c.hn c.htk c.hm), c.kit, _, rfl, iteT ?_⟩
    refine ⟨_, rfl, a, C, dx, _, _, rfl, ha, c.cl, n1, rfl, _, rfl, b, C, dy, _, _, rfl, hb, c.cl, n1, rfl, rfl, _, rfl, ?_⟩
    refine ifY (decide_eq_true rfl) ?_
    refine ⟨_, rfl, a, C, dx, _, _, rfl, ha, c.cl, n2, rfl, _, rfl, b, C, dy, _, _, rfl, hb, c.cl, n2, rfl, rfl, ?_⟩
    rw [decide_eq_true rfl]
    exact q
end
end G
set_option Elab.async false
set_option linter.all false
set_option maxRecDepth 100000
set_option maxHeartbeats 4000000
/-! RE: By.read, Plus.read. -/
namespace G
open PySem PySem.Spec PyProof.Rows L2 NdefX StX
/-- a thing that may be read -/
def TwD (d : PyData) : Prop := ∀ z, d = .str z → Tw z
def spReadB (K : PySem.W.Frag) (C CT : Addr) : Sp := fun vs H Q E => ∃ (v : V) (d : PyData), vs = [v] ∧ Rp K H v d ∧ TwD d ∧ (∀ ws, readB d = some ws → ∀ (a t : Addr) (H' : Hp), H a = none → ByW C H' a t ws → Same H H' → Q (.ref a) H') ∧
  (readB d = none → ∀ (dd : Addr) (H' : Hp), Same H H' → H' dd = some (.xd [("value", v)]) → E (.ref CT) (some dd) H')
def spReadP (K : PySem.W.Frag) (C CT : Addr) : Sp := fun vs H Q E => ∃ (v : V) (d : PyData), vs = [v] ∧ Rp K H v d ∧ TwD d ∧ (∀ z n, readP d = some (z, n) → ∀ (a : Addr) (H' : Hp), H a = none → PlAt C H' a z n → Same H H' → Q (.ref a) H') ∧
  (readP d = none → ∀ (dd : Addr) (H' : Hp), Same H H' → H' dd = some (.xd [("value", v)]) → E (.ref CT) (some dd) H')
theorem by_out {C CO CM : Addr} {H : Hp} {ws : List Str} {Q : VK} {E : XK} (l1 : 1 ≤ ws.length) (l9 : ws.length ≤ 900) (hz : ∀ w ∈ ws, Wd w) (q1 : ordB ws = true → ∀ (a t : Addr) (H' : Hp), H a = none → H t = none → ByW C H' a t ws → Same H H' → Q (.ref a) H')
    (q2 : ordB ws = false → ∀ (cls dd : Addr) (H' : Hp), cls = CO ∨ cls = CM → Same H H' → E (.ref cls) (some dd) H') : outOf C H (ws.map V.str) (spByRX C CO CM) Q E := by
  intro x dx hx hdx hne
  refine ⟨[V.ref x], ws.map V.str, rfl, rfl, by rw [List.length_map]; exact small_size (by omega), fun p hp => ?_⟩
  have npx : p ≠ x := fun z => by
    rw [z, upd_same] at hp
    cases hp
  have hp1 := hp
  rw [upd_ne npx] at hp1
  have npd : p ≠ dx := fun z => by
    rw [z, upd_same] at hp1
    cases hp1
  rw [upd_ne npd] at hp1
  have sm : ∀ {H'}, Same (upd (upd (upd H dx (.own x)) x (.ins C dx [])) p (.tup (ws.map V.str))) H' → ∀ c o, H c = some o → H' c = some o := fun s' c o e => by
    refine s' c o ?_
    rw [upd_ne (ne_of_none e hp1), upd_ne (ne_of_none e hx), upd_ne (ne_of_none e hdx)]
    exact e
  refine ⟨x, dx, p, ws, rfl, (upd_ne npx.symm).trans upd_same, upd_same, l1, l9, hz, fun ok H' s' => ⟨rfl, ?_⟩, fun no cls dd H' hc s' => q2 no cls dd H' hc (sm s')⟩
  refine q1 ok x p _ hx hp1 ⟨dx, upd_same, (upd_ne npx).trans (s' p _ upd_same)⟩ fun c o e => ?_
  rw [upd_ne (ne_of_none e hx)]
  exact sm s' c o e
theorem pl_out {C CN CI : Addr} {H : Hp} {z : Str} {v : V} {Q : VK} {E : XK} (hz : z.length ≤ 900) (hv : IntN v) (q1 : (nameB z && intV (-999) 999 v) = true → ∀ (a dx : Addr) (H' : Hp), H a = none → H' a = some (.ins C dx [("field_name", .str z), ("summand", v)]) → Same H H' → Q (.ref a) H')
    (q2 : (nameB z && intV (-999) 999 v) = false → ∀ (cls dd : Addr) (H' : Hp), cls = CN ∨ cls = CI → Same H H' → E (.ref cls) (some dd) H') : outOf C H [.str z, v] (spPlIX C CN CI) Q E := by
  intro x dx hx hdx hne
  have sm : ∀ {H'}, Same (upd (upd H dx (.own x)) x (.ins C dx [])) H' → ∀ c o, H c = some o → H' c = some o := fun s' c o e => by
    refine s' c o ?_
    rw [upd_ne (ne_of_none e hx), upd_ne (ne_of_none e hdx)]
    exact e
  refine ⟨x, dx, z, v, rfl, upd_same, hz, hv, fun ok H' s' => ⟨rfl, ?_⟩, fun no cls dd H' hc s' => q2 no cls dd H' hc (sm s')⟩
  refine q1 ok x dx _ hx upd_same fun c o e => ?_
  rw [upd_ne (ne_of_none e hx)]
  exact sm s' c o e
/-- the exceptions' classes -/
structure Xs (K : PySem.W.Frag) (BE CO CM CN CI : Addr) : Prop where
  o : PySem.W.exmOne K (.ref CO) (.ref BE) = some true
  m : PySem.W.exmOne K (.ref CM) (.ref BE) = some true
  n : PySem.W.exmOne K (.ref CN) (.ref BE) = some true
  i : PySem.W.exmOne K (.ref CI) (.ref BE) = some true
def tsText (CT : Addr) (E : XK) (_ : Addr) (_ : Value) (_ : Option Addr) : TS := fun _ σ H => tMkO CT (spInitF CT "value") [] (tCons (tVar 0) tNil) σ H fun cls d H' => E cls d H'
def tbBy (K : PySem.W.Frag) (C CO CM : Addr) (W : WX) : TS := tRet fun σ H Q => tVar 1 σ H fun y H1 => ∃ a xs, y = V.ref a ∧ (SqT K H1 a xs ∨ SqL K H1 a xs) ∧ outOf C H1 xs (spByRX C CO CM) Q (WE W σ)
section
variable {P : Program} {w : World} {K : PySem.W.Frag} {mg : Str → Option Value} {base : Heap} {f C CT CO CM CN CI BE fT : Addr} {fd fdT : FuncData}
theorem wordsD_str {d : PyData} {ws : List Str} (h : N3.wordsD d = some ws) : ∃ z, d = .str z ∧ ws = spl z := by
  cases d with
  | str z =>
    refine ⟨z, rfl, ?_⟩
    rw [words_eq] at h
    split at h
    · cases h
    · exact (Option.some.inj h).symm
  | _ => cases h
theorem ok_byread {fS fI : Addr} {fdS : FuncData} (F : Fun K "read" "By.read" sByRead f fd) (GS : FnOk P w K mg base CX0 1 fS fdS ["text"] (N3.spWords K)) (gS : mg "split_words" = some (.ref fS)) (kS : PySem.W.keepIn K (.ref fS) = true) (bS : Binds K fdS ["text"] [])
    (M : Mk K C fI) (GI : FnR P w K mg base (L2N.CX P w) 4 fI (spByRX C CO CM)) (gC : mg "By" = some (.ref C)) (X : ErrC P w K mg base CT fT fdT "value") (XH : L2H.FnH P w K mg base CX0 1 fT fdT ["self", "value"] (spInitF CT "value")) (gT : mg "InvalidText" = some (.ref CT))
    (gB : mg "BoardError" = some (.ref BE)) (xs : Xs K BE CO CM CN CI) : FnOk P w K mg base (L2.CX P w) 6 f fd ["text"] (spReadB K C CT) := by
  refine F.okX scByRead (fun vs H Q E h => ?_) (fun cdv A outer s H vs Q E hr h => ?_)
  · obtain ⟨v, d, rfl, _⟩ := h
    rfl
  · obtain ⟨v, d, rfl, hR, hT, q1, q2⟩ := h
    refine ⟨_, pss_cons (ps_set (i := 1) scByRead.nd rfl (.inl rfl) (pe_call GS (hr.mono (by decide)) rfl gS kS bS .nil pass0 (pa_cons (pv 0) pa_nil)))
      (pss_cons (ps_if (pt_cmpR op_isN (pv 1) pe_non (nomark _)) (pss_one (ps_raise rfl (takes_of rfl rfl rfl rfl) (pmk_oex X.T X.it X.ty X.F (hr.mono (by decide)) X.b .nil pass0 rfl gT (pa_cons (pv 0) pa_nil)))) pss_nil)
      (pss_one (L2H.ps_try_onlyX (tb := tbBy K C CO CM) (ts := tsText CT E) rfl rfl ⟨rfl, by decide, .inl gB⟩ (fun hd => L2H.passesAt_of rfl hd) (takes_of rfl rfl rfl rfl)
        (fun W pn xe tk _ _ => pss_one (ps_ret (pe_makeSX M GI (hr.mono (by decide)) rfl gC (fun σ => passN tk σ) (by exact pv 1))))
        (fun a oe cls d pn hz hf tk hot => pss_one (L2H.ps_raiseHN hot tk (L2H.pmk5_oexH X.T X.it X.ty XH (L2H.roomH_mark (hr.mono (by decide)) _) hot X.b pass0 rfl gT (pa_cons (by exact pv 0) pa_nil))))))), ?_⟩
    refine ⟨_, rfl, v, d, rfl, hR, fun z e => ⟨(hT z e).asc, by have := (hT z e).len; omega⟩, fun e H1 s1 => ?_, fun ws e p H1 s1 np hp => ?_⟩
    · refine ⟨_, rfl, rfl, _, rfl, iteT ?_⟩
      have no : readB d = none := by
        unfold readB
        rw [e]
      exact ⟨_, rfl, mkO_one fun dd H' s' x => q2 no dd H' (s1.trans s') x⟩
    · refine ⟨_, rfl, rfl, _, rfl, iteF ?_⟩
      obtain ⟨z, rfl, rfl⟩ := wordsD_str e
      have tw := hT z rfl
      have rd : readB (.str z) = if ordB (spl z) = true then some (spl z) else none := readB_eq z
      have le := spl_le z
      have l8 := tw.len
      refine ⟨_, rfl, p, _, rfl, .inr (.of hp), by_out (spl_pos z) (by omega) (spl_wd tw) (fun ok a t H2 na nt hb s2 => ?_) (fun no cls dd H2 hc s2 => ?_)⟩
      · refine q1 _ (by rw [rd, if_pos ok]) a t H2 (s1.free na) hb (s1.trans s2)
      · have hx : PySem.W.exmOne K (.ref cls) (.ref BE) = some true := by
          rcases hc with rfl | rfl
          · exact xs.o
          · exact xs.m
        refine ⟨true, hx, fun _ a' ha' => ?_, fun z => nomatch z⟩
        exact ⟨_, rfl, mkO_one fun dd' H' s' x => q2 (by rw [rd, if_neg (by rw [no]; decide)]) dd' H' ((s1.trans s2).trans s') x⟩
end
end G
set_option Elab.async false
set_option linter.all false
set_option maxRecDepth 100000
set_option maxHeartbeats 4000000
/-! RP: Plus.read. -/
namespace G
open PySem PySem.Spec PyProof.Rows L2 NdefX StX
abbrev taPl (K : PySem.W.Frag) : TA := tCons (tOp (rIxL K) (tVar 1) (tC (.int 1))) (tCons (tCall (N3.spParse K) [.int (-999), .int 999] E0 (tCons (tOp (rIxL K) (tVar 1) (tC (.int 2))) tNil)) tNil)
def tbPl (K : PySem.W.Frag) (C CN CI : Addr) (W : WX) : TS := tRet fun σ H Q => taPl K σ H fun vs H1 => outOf C H1 vs (spPlIX C CN CI) Q (WE W σ)
theorem plB_no3 {ws : List Str} (h : ws.length ≠ 3) : plB ws = none := by
  match ws, h with
  | [], _ => rfl
  | [_], _ => rfl
  | [_, _], _ => rfl
  | [_, _, _], h => exact absurd rfl h
  | _ :: _ :: _ :: _ :: _, _ => rfl
section
variable {P : Program} {w : World} {K : PySem.W.Frag} {mg : Str → Option Value} {base : Heap} {f C CT CO CM CN CI BE fT : Addr} {fd fdT : FuncData}
theorem ok_plread {fS fI fP : Addr} {fdS fdP : FuncData} {ds : List Value} (F : Fun K "read" "Plus.read" sPlRead f fd) (GS : FnOk P w K mg base CX0 1 fS fdS ["text"] (N3.spWords K)) (gS : mg "split_words" = some (.ref fS)) (kS : PySem.W.keepIn K (.ref fS) = true) (bS : Binds K fdS ["text"] [])
    (GP : FnOk P w K mg base CX0 2 fP fdP ["text", "low", "high"] (N3.spParse K)) (gP : mg "parse_integer" = some (.ref fP)) (kP : PySem.W.keepIn K (.ref fP) = true) (vP : Vals [V.int (-999), V.int 999] ds) (bP : Binds K fdP ["text", "low", "high"] ds)
    (M : Mk K C fI) (GI : FnR P w K mg base (L2N.CX P w) 4 fI (spPlIX C CN CI)) (gC : mg "Plus" = some (.ref C)) (X : ErrC P w K mg base CT fT fdT "value") (XH : L2H.FnH P w K mg base CX0 1 fT fdT ["self", "value"] (spInitF CT "value")) (gT : mg "InvalidText" = some (.ref CT))
    (gB : mg "BoardError" = some (.ref BE)) (xs : Xs K BE CO CM CN CI) (ml : mg "len" = none) : FnOk P w K mg base (L2.CX P w) 6 f fd ["text"] (spReadP K C CT) := by
  refine F.okX scPlRead (fun vs H Q E h => ?_) (fun cdv A outer s H vs Q E hr h => ?_)
  · obtain ⟨v, d, rfl, _⟩ := h
    rfl
  · obtain ⟨v, d, rfl, hR, hT, q1, q2⟩ := h
    refine ⟨_, pss_cons (ps_set (i := 1) scPlRead.nd rfl (.inl rfl) (pe_call GS (hr.mono (by decide)) rfl gS kS bS .nil pass0 (pa_cons (pv 0) pa_nil)))
      (pss_cons (ps_if (PW.pt (pw_or (pt_cmpR op_isN (pv 1) pe_non (nomark _)) (pw_or (pt_cmpR op_ne (pe_callB call_len_seq (by rfl) ml PySem.boot_len (pa_cons (pv 1) pa_nil)) pe_int (nomark _)) (pw_or1 (pt_cmpR op_ne (pe_ix ix_list (pv 1) pe_int (fun _ _ => rfl)) pe_str (nomark _))))))
        (pss_one (ps_raise rfl (takes_of rfl rfl rfl rfl) (pmk_oex X.T X.it X.ty X.F (hr.mono (by decide)) X.b .nil pass0 rfl gT (pa_cons (pv 0) pa_nil)))) pss_nil)
      (pss_one (L2H.ps_try_onlyX (tb := tbPl K C CN CI) (ts := tsText CT E) rfl rfl ⟨rfl, by decide, .inl gB⟩ (fun hd => L2H.passesAt_of rfl hd) (takes_of rfl rfl rfl rfl)
        (fun W pn xe tk _ _ => pss_one (ps_ret (pe_makeX M GI (hr.mono (by decide)) rfl gC (fun σ => passN tk σ) (by exact (pa_cons (pe_ix ix_list (pv 1) pe_int (fun _ _ => rfl)) (pa_cons (pe_call GP (hr.mono (by decide)) rfl gP kP bP vP pass0 (pa_cons (pe_ix ix_list (pv 1) pe_int (fun _ _ => rfl)) pa_nil)) pa_nil))))))
        (fun a oe cls d pn hz hf tk hot => pss_one (L2H.ps_raiseHN hot tk (L2H.pmk5_oexH X.T X.it X.ty XH (L2H.roomH_mark (hr.mono (by decide)) _) hot X.b pass0 rfl gT (pa_cons (by exact pv 0) pa_nil))))))), ?_⟩
    refine ⟨_, rfl, v, d, rfl, hR, fun z e => ⟨(hT z e).asc, by have := (hT z e).len; omega⟩, fun e H1 s1 => ?_, fun ws e p H1 s1 np hp => ?_⟩
    · refine ⟨_, rfl, rfl, _, rfl, iteT (iteT ?_)⟩
      have no : readP d = none := by
        unfold readP
        rw [e]
      exact ⟨_, rfl, mkO_one fun dd H' s' x => q2 no dd H' (s1.trans s') x⟩
    · refine ⟨_, rfl, rfl, _, rfl, iteF ?_⟩
      obtain ⟨z, rfl, rfl⟩ := wordsD_str e
      have tw := hT z rfl
      have wd := spl_wd tw
      have rd : readP (.str z) = plB (spl z) := readP_eq z
      have le := spl_le z
      have l8 := tw.len
      refine ⟨_, rfl, p, _, rfl, .inl (.of hp), rfl, _, rfl, ?_⟩
      rw [List.length_map]
      by_cases h3 : (spl z).length = 3
      · have e3 : (!decide (V.int ((spl z).length : Int) = V.int 3)) = false := by
          rw [h3]
          rfl
        rw [e3]
        refine iteF ?_
        obtain ⟨w0, w1, w2, ew⟩ : ∃ w0 w1 w2, spl z = [w0, w1, w2] := by
          match spl z, h3 with
          | [a, b, c], _ => exact ⟨a, b, c, rfl⟩
        have hp2 : H1 p = some (.lst [.str w0, .str w1, .str w2]) := by
          rw [hp]
          show some (HO.lst ((spl z).map V.str)) = _
          rw [ew]
          rfl
        have wd1 : Wd w1 := wd w1 (by rw [ew]; simp)
        have wd2 : Wd w2 := wd w2 (by rw [ew]; simp)
        refine ⟨_, rfl, p, _, ((0 : Nat) : Int), _, rfl, rfl, .of hp2, atI_nat (j := 0) rfl, rfl, _, rfl, ?_⟩
        by_cases hw : w0 = "plus"
        · have e4 : (!decide (V.str w0 = V.str "plus")) = false := by
            rw [hw]
            decide
          rw [e4]
          refine iteF ?_
          have pe : plB (spl z) = if nameB w1 = true then (N3.numO w2).map fun k => (w1, k) else none := by
            rw [ew]
            show (if w0 = "plus" ∧ nameB w1 = true then (N3.numO w2).map fun k => (w1, k) else none) = _
            by_cases hn : nameB w1 = true
            · rw [if_pos ⟨hw, hn⟩, if_pos hn]
            · rw [if_neg (fun y => hn y.2), if_neg hn]
          refine ⟨_, rfl, p, _, ((1 : Nat) : Int), _, rfl, rfl, .of hp2, atI_nat (j := 1) rfl, _, rfl, p, _, ((2 : Nat) : Int), _, rfl, rfl, .of hp2, atI_nat (j := 2) rfl, ?_⟩
          refine ⟨_, .str w2, -999, 999, rfl, .str w2, fun y ey => ?_, fun H2 s2 => ?_⟩
          · cases ey
            exact ⟨wd2.asc, by have := wd2.len; omega⟩
          rw [N3.numV_of]
          have iv : IntN (match N3.numO w2 with | some i => V.int i | none => V.non) := by
            cases N3.numO w2 <;> trivial
          refine pl_out wd1.len iv (fun ok a dx H3 na ha s3 => ?_) (fun no cls dd H3 hc s3 => ?_)
          · rw [Bool.and_eq_true] at ok
            obtain ⟨ok1, ok2⟩ := ok
            cases en : N3.numO w2 with
            | none =>
              rw [en] at ok2
              cases ok2
            | some n =>
              rw [en] at ha
              refine q1 w1 n (by rw [rd, pe, if_pos ok1, en]; rfl) a H3 ((s1.trans s2).free na) ⟨dx, ha⟩ ((s1.trans s2).trans s3)
          · have hx : PySem.W.exmOne K (.ref cls) (.ref BE) = some true := by
              rcases hc with rfl | rfl
              · exact xs.n
              · exact xs.i
            refine ⟨true, hx, fun _ a' ha' => ?_, fun z => nomatch z⟩
            refine ⟨_, rfl, mkO_one fun dd' H' s' x => q2 ?_ dd' H' (((s1.trans s2).trans s3).trans s') x⟩
            rw [rd, pe]
            by_cases hn : nameB w1 = true
            · rw [if_pos hn]
              rw [hn, Bool.true_and] at no
              cases en : N3.numO w2 with
              | none => rfl
              | some n =>
                exfalso
                rw [en] at no
                obtain ⟨_, b1, b2⟩ := N3.numO_shown en
                have : intV (-999) 999 (.int n) = true := by
                  show (decide (-999 ≤ n) && decide (n ≤ 999)) = true
                  rw [decide_eq_true b1, decide_eq_true b2]
                  rfl
                rw [this] at no
                cases no
            · rw [if_neg hn]
        · have e4 : (!decide (V.str w0 = V.str "plus")) = true := by
            rw [decide_eq_false fun y => hw (V.str.inj y)]
            rfl
          rw [e4]
          refine iteT ?_
          have no : readP (.str z) = none := by
            rw [rd, ew]
            exact if_neg fun y => hw y.1
          exact ⟨_, rfl, mkO_one fun dd H' s' x => q2 no dd H' (s1.trans s') x⟩
      · have e3 : (!decide (V.int ((spl z).length : Int) = V.int 3)) = true := by
          rw [decide_eq_false fun y => h3 (by have := V.int.inj y; omega)]
          rfl
        rw [e3]
        refine iteT (iteT ?_)
        exact ⟨_, rfl, mkO_one fun dd H' s' x => q2 (by rw [rd]; exact plB_no3 h3) dd H' (s1.trans s') x⟩
end
end G
set_option Elab.async false
set_option linter.all false
set_option maxRecDepth 100000
set_option maxHeartbeats 4000000
/-! TD: what the law is told when a thing is read. -/
namespace G
open PySem PySem.Spec PyProof.Rows L2 NdefX StX
abbrev sTold : Stmt := topS 51
abbrev nTold : List Str := ["_law_way", "_law_text", "e"]
theorem scTold : FnScope nTold ["_law_way", "_law_text"] (defScope sTold) := ⟨rfl, rfl, rfl, by decide +kernel, rfl, by decide +kernel, by decide +kernel⟩
theorem call_or {X : Cx} {f : Value} {r1 r2 : List V → Hp → VK → Prop} (h1 : CallR X f r1) (h2 : CallR X f r2) : CallR X f (fun xs H Q => r1 xs H Q ∨ r2 xs H Q) := by
  intro pins s σ H xs us Q I r h
  rcases h with h | h
  · exact h1 pins s σ H xs us Q I r h
  · exact h2 pins s σ H xs us Q I r h
abbrev rOr (C D : Addr) : List V → Hp → VK → Prop := fun xs H Q => rStrB C (spByS C) E0 xs H Q ∨ rStrB D (spPlS D) E0 xs H Q
def tbTold (K : PySem.W.Frag) (C D CT : Addr) (W : WX) : TS := tRet (tLst (tCons (tC (.str "read")) (tCons (tCB (rOr C D) (tCons (tIf (tTest (tOp rEq (tVar 0) (tC (.int 0))))
  (tSMeth C (spReadB K C CT) (WE W) (tC (.ref C)) (tCons (tVar 1) tNil)) (tSMeth D (spReadP K D CT) (WE W) (tC (.ref D)) (tCons (tVar 1) tNil))) tNil)) tNil)))
def tsTold (CT : Addr) (a : Addr) (cls : Value) (d : Option Addr) : TS := tRet (tLst (tCons (tC (.str "text")) (tCons (tXf a cls d CT "value" (tVar 2)) tNil)))
/-- is the thing read, as an order or as a Plus -/
def goodB (j : Nat) (d : PyData) : Bool := if j = 0 then (readB d).isSome else (readP d).isSome
theorem readB_str {d : PyData} {ws : List Str} (h : readB d = some ws) : ∃ z, d = .str z ∧ ws = spl z ∧ ordB ws = true := by
  unfold readB at h
  cases e : N3.wordsD d with
  | none =>
    rw [e] at h
    cases h
  | some us =>
    rw [e] at h
    obtain ⟨z, rfl, rfl⟩ := wordsD_str e
    have h' : (if ordB (spl z) = true then some (spl z) else none) = some ws := h
    split at h'
    · rename_i o
      cases h'
      exact ⟨z, rfl, rfl, o⟩
    · cases h'
theorem readP_str {d : PyData} {z : Str} {n : Int} (h : readP d = some (z, n)) : ∃ y, d = .str y ∧ plB (spl y) = some (z, n) := by
  unfold readP at h
  cases e : N3.wordsD d with
  | none =>
    rw [e] at h
    cases h
  | some us =>
    rw [e] at h
    obtain ⟨y, rfl, rfl⟩ := wordsD_str e
    exact ⟨y, rfl, h⟩
theorem ord3 {ws : List Str} (h : ordB ws = true) : ws.length ≤ 3 := by
  unfold ordB at h
  rw [Bool.and_eq_true] at h
  exact of_decide_eq_true h.1
def spTold (K : PySem.W.Frag) : Sp := fun vs H Q _ => ∃ (j : Nat) (v : V) (d : PyData), vs = [.int (j : Int), v] ∧ Rp K H v d ∧ TwD d ∧
  (goodB j d = true → ∀ (z : Str) (p : Addr) (H' : Hp), d = .str z → H p = none → Same H H' → H' p = some (.lst [.str "read", .str z]) → Q (.ref p) H') ∧
  (goodB j d = false → ∀ (p : Addr) (H' : Hp), H p = none → Same H H' → H' p = some (.lst [.str "text", v]) → Q (.ref p) H')
section
variable {P : Program} {w : World} {K : PySem.W.Frag} {mg : Str → Option Value} {base : Heap} {f C D CT p1 g1 p2 g2 : Addr} {fd fd1 fd2 : FuncData}
theorem ok_told {fS fU : Addr} {fdS fdU : FuncData} (F : Fun K "_law_told" "_law_told" sTold f fd) (gC : mg "By" = some (.ref C)) (gD : mg "Plus" = some (.ref D)) (M1 : SMet K C "read" p1 g1) (M2 : SMet K D "read" p2 g2)
    (G1 : FnOk P w K mg base (L2.CX P w) 6 g1 fd1 ["text"] (spReadB K C CT)) (b1 : Binds K fd1 ["text"] []) (G2 : FnOk P w K mg base (L2.CX P w) 6 g2 fd2 ["text"] (spReadP K D CT)) (b2 : Binds K fd2 ["text"] [])
    (hS : PySem.W.findIn K (.ref C) "__str__" = some (some (.ref fS))) (iS : PySem.W.isFn K (.ref fS) = true) (bS : Binds K fdS ["self"] []) (GS : FnOk P w K mg base CX0 1 fS fdS ["self"] (spByS C))
    (hU : PySem.W.findIn K (.ref D) "__str__" = some (some (.ref fU))) (iU : PySem.W.isFn K (.ref fU) = true) (bU : Binds K fdU ["self"] []) (GU : FnOk P w K mg base CX0 1 fU fdU ["self"] (spPlS D))
    (gX : mg "InvalidText" = some (.ref CT)) (XT : XfC K CT) (nv : PySem.W.findIn K (.ref CT) "value" = some none) (eC : PySem.W.exmOne K (.ref CT) (.ref CT) = some true) (ms : mg "str" = none) :
    FnOk P w K mg base CX0 7 f fd ["_law_way", "_law_text"] (spTold K) := by
  refine F.ok scTold (fun vs H Q E h => ?_) (fun cdv A outer s H vs Q E hr h => ?_)
  · obtain ⟨j, v, d, rfl, _⟩ := h
    rfl
  · obtain ⟨j, v, d, rfl, hR, hT, q1, q2⟩ := h
    refine ⟨_, pss_one (ps_try_first (i := 2) (tb := tbTold K C D CT) (ts := tsTold CT) rfl rfl scTold.nd rfl rfl ⟨rfl, by decide, .inl gX⟩
        (fun W pn xe tk _ => pss_one (ps_ret (pe_lst (pa_cons pe_str (pa_cons (pe_callTy (call_or (call_strB hS iS bS GS (hr.mono (by decide))) (call_strB hU iU bU GU (hr.mono (by decide)))) (by rfl) ms (by decide +kernel) (pa_cons
          (pe_ifExp (pt_cmpR op_eq (by exact pv 0) pe_int (nomark _)) (pe_smeth (pe_glob (v := .ref C) rfl gC rfl) M1 G1 hr b1 (fun σ => passAt tk σ) (pa_cons (by exact pv 1) pa_nil)) (pe_smeth (pe_glob (v := .ref D) rfl gD rfl) M2 G2 hr b2 (fun σ => passAt tk σ) (pa_cons (by exact pv 1) pa_nil))) pa_nil)) pa_nil)))))
        (fun a oe cls d pn hz hf => pss_one (ps_ret (pe_lst (pa_cons pe_str (pa_cons (pe_xf XT nv hz hf (pv 2)) pa_nil)))))), ?_⟩
    have fin : goodB j d = false → ∀ (dd : Addr) (H' : Hp), Same H H' → H' dd = some (.xd [("value", v)]) → wFirst K (.ref CT) 2 (tsTold CT) { nx := fun _ H' => Q .non H', rt := Q } (.ref CT) (some dd) [some (.int (j : Int)), some v, none] H' := by
      intro no dd H1 s1 h1
      refine ⟨eC, fun a ha => ?_⟩
      refine ⟨_, rfl, rfl, rfl, dd, _, v, rfl, h1, ?_, (by show 2 ≤ sizeLine; decide), fun p hp => ?_⟩
      · simp [List.lookup]
      · exact q2 no p _ (s1.free hp) (s1.trans (Same.new hp)) upd_same
    refine ⟨_, rfl, rfl, _, rfl, ?_⟩
    by_cases hj : j = 0
    · subst hj
      have e0 : decide (V.int ((0 : Nat) : Int) = V.int 0) = true := rfl
      rw [e0]
      refine iteT ⟨rfl, _, rfl, v, d, rfl, hR, hT, fun ws hw a t H1 na hb s1 => ?_, fun no dd H1 s1 h1 => ?_⟩
      · obtain ⟨z, rfl, rfl, o⟩ := readB_str hw
        have tw := hT z rfl
        obtain ⟨dx, ha, ht⟩ := id hb
        refine .inl ⟨a, dx, _, rfl, ha, a, t, _, rfl, hb, ord3 o, spl_wd tw, _, rfl, (by show 2 ≤ sizeLine; decide), fun p hp => ?_⟩
        refine q1 ?_ z p _ rfl (s1.free hp) (s1.trans (Same.new hp)) ?_
        · show (readB (.str z)).isSome = true
          rw [hw]
          rfl
        · rw [upd_same, spl_join]
      · refine fin ?_ dd H1 s1 h1
        show (readB d).isSome = false
        rw [no]
        rfl
    · have e0 : decide (V.int (j : Int) = V.int 0) = false := decide_eq_false fun y => hj (by have := V.int.inj y; omega)
      have eg : goodB j d = (readP d).isSome := if_neg hj
      rw [e0]
      refine iteF ⟨rfl, _, rfl, v, d, rfl, hR, hT, fun z n hw a H1 na hb s1 => ?_, fun no dd H1 s1 h1 => ?_⟩
      · obtain ⟨y, rfl, hp⟩ := readP_str hw
        have tw := hT y rfl
        obtain ⟨dx, ha⟩ := id hb
        obtain ⟨ej, nb, n1, n2⟩ := plB_shown hp
        have zl : z.length ≤ 8 := by
          unfold nameB at nb
          simp only [Bool.and_eq_true, decide_eq_true_eq] at nb
          exact nb.1.2
        refine .inr ⟨a, dx, _, rfl, ha, a, z, n, rfl, hb, by omega, n1, n2, _, rfl, (by show 2 ≤ sizeLine; decide), fun p hp => ?_⟩
        refine q1 (by rw [eg, hw]; rfl) y p _ rfl (s1.free hp) (s1.trans (Same.new hp)) ?_
        rw [upd_same, ej]
      · refine fin (by rw [eg, no]; rfl) dd H1 s1 h1
end
end G
set_option Elab.async false
set_option linter.all false
set_option maxRecDepth 100000
set_option maxHeartbeats 4000000
/-! LW: the law's own number, and its own look at words. -/
namespace G
open PySem PySem.Spec PyProof.Rows L2 NdefX StX PySem.NumText
abbrev sNumber : Stmt := topS 43
abbrev sLInt : Stmt := topS 45
abbrev sLOrd : Stmt := topS 49
abbrev sLPlus : Stmt := topS 50
abbrev nLInt : List Str := ["_law_word", "_law_digits", "_law_sign"]
abbrev nLOrd : List Str := ["_law_text", "_law_words", "_law_some", "_law_word"]
theorem scNumber : FnScope ["_law_box_here", "_law_some"] ["_law_box_here"] (defScope sNumber) := ⟨rfl, rfl, rfl, by decide +kernel, rfl, by decide +kernel, by decide +kernel⟩
theorem scLInt : FnScope nLInt ["_law_word"] (defScope sLInt) := ⟨rfl, rfl, rfl, by decide +kernel, rfl, by decide +kernel, by decide +kernel⟩
theorem scLOrd : FnScope nLOrd ["_law_text"] (defScope sLOrd) := ⟨rfl, rfl, rfl, by decide +kernel, rfl, by decide +kernel, by decide +kernel⟩
theorem scLPlus : FnScope ["_law_text", "_law_words"] ["_law_text"] (defScope sLPlus) := ⟨rfl, rfl, rfl, by decide +kernel, rfl, by decide +kernel, by decide +kernel⟩
def spNumber : Sp := fun vs H Q _ => ∃ (b : Addr) (n : Nat), vs = [.ref b] ∧ BoxAt H b n ∧ n ≤ 90000 ∧ ∀ (i : Int) (H' : Hp), -999 ≤ i → i ≤ 999 → BoxAt H' b (n + 3) → But b H H' → Q (.int i) H'
def numV' (z : Str) : V := match N3.numO z with | some i => .int i | none => .non
def spLInt : Sp := fun vs H Q _ => ∃ z : Str, vs = [.str z] ∧ Wd z ∧ ∀ H', Same H H' → Q (numV' z) H'
def spLOrd : Sp := fun vs H Q _ => ∃ z : Str, vs = [.str z] ∧ Tw z ∧ ∀ H', Same H H' → Q (.bl (ordB (spl z))) H'
def spLPlus : Sp := fun vs H Q _ => ∃ z : Str, vs = [.str z] ∧ Tw z ∧ ∀ H', Same H H' → Q (.bl (plB (spl z)).isSome) H'
theorem small_val {w : Str} (h : N3.smallB w = true) : PySem.intText? w = some (N3.valN w) ∧ w.length ≤ 4 := by
  unfold N3.smallB at h
  simp only [Bool.and_eq_true, decide_eq_true_eq] at h
  obtain ⟨⟨h1, h3⟩, hd⟩ := h
  have hl := cs_len w
  have key : ∃ n, PySem.intText? w = some n ∧ w.length ≤ 4 := by
    rcases N3.cut_cases (cs w) with ⟨hm, hb⟩ | ⟨q, hw, hb⟩
    · rw [hb] at h1 h3 hd
      exact ⟨_, intText_digits (N3.digs_all hd) (fun y => by rw [show cs w = [] from y] at h1; exact absurd h1 (by decide)) (by omega), by omega⟩
    · rw [hb] at h1 h3 hd
      rw [hw, List.length_cons] at hl
      exact ⟨_, intText_neg hw (N3.digs_all hd) (fun y => by rw [y] at h1; exact absurd h1 (by decide)) (by omega), by omega⟩
  obtain ⟨n, hn, l4⟩ := key
  refine ⟨?_, l4⟩
  unfold N3.valN
  rw [hn]
  rfl
theorem bare_cut (z : Str) (h : decide ((cs z).head? = some 45) = true) : cutS z (some 1) none = Txt.removeprefix z "-" := by
  refine cs_inj ?_
  rw [N3.cut_tail, N3.cs_prefix]
  unfold N3.body
  rw [if_pos (of_decide_eq_true h)]
theorem bare_same (z : Str) (h : ¬ decide ((cs z).head? = some 45) = true) : z = Txt.removeprefix z "-" := by
  refine cs_inj ?_
  rw [N3.cs_prefix]
  unfold N3.body
  rw [if_neg fun e => h (decide_eq_true e)]
abbrev bare (z : Str) : Str := Txt.removeprefix z "-"
theorem bad_filter (l : List Str) : ((l.filter fun w => !fldB w).map fun w => V.str (bare w)).isEmpty = l.all fldB := by
  induction l with
  | nil => rfl
  | cons c l ih =>
    rw [List.filter_cons, List.all_cons]
    cases h : fldB c with
    | true =>
      rw [if_neg (by simp)]
      rw [ih, Bool.true_and]
    | false =>
      rw [if_pos (by simp)]
      rfl
section
variable {P : Program} {w : World} {K : PySem.W.Frag} {mg : Str → Option Value} {base : Heap}
theorem ok_number {f fT : Addr} {fd fdT : FuncData} (F : Fun K "_law_number" "_law_number" sNumber f fd) (T : Fun K "_law_take" "_law_take" sTake fT fdT) (bT : Binds K fdT ["_law_box_here", "_law_many"] []) (gT : mg "_law_take" = some (.ref fT)) :
    FnOk P w K mg base CX0 2 f fd ["_law_box_here"] spNumber := by
  have GT : FnOk P w K mg base CX0 1 fT fdT ["_law_box_here", "_law_many"] spTake := ok_take T
  refine F.ok scNumber (fun vs H Q E h => ?_) (fun cdv A outer s H vs Q E hr h => ?_)
  · obtain ⟨b, n, rfl, _⟩ := h
    rfl
  · obtain ⟨b, n, rfl, B, hn, q⟩ := h
    refine ⟨_, pss_cons (ps_set (i := 1) scNumber.nd rfl (.inl rfl) (pe_lst (pa_cons pe_int (pa_cons pe_int (pa_cons (pe_un un_neg pe_int) (pa_cons pe_int (pa_cons pe_int (pa_cons (pe_un un_neg pe_int)
        (pa_cons (pe_op op_sub (pe_call GT hr rfl gT T.kp bT .nil pass0 (pa_cons (pv 0) (pa_cons pe_int pa_nil))) pe_int) (pa_cons (pe_op op_sub (pe_call GT hr rfl gT T.kp bT .nil pass0 (pa_cons (pv 0) (pa_cons pe_int pa_nil))) pe_int) pa_nil))))))))))
      (pss_one (ps_ret (pe_ix ix_list (pv 1) (pe_call GT hr rfl gT T.kp bT .nil pass0 (pa_cons (pv 0) (pa_cons pe_int pa_nil))) (fun _ _ => rfl)))), ?_⟩
    refine ⟨_, rfl, _, rfl, _, rfl, b, 21, n, rfl, B, by omega, by decide, by decide, fun r1 H1 a0 a1 B1 k1 => ⟨_, _, rfl, rfl, _, rfl, b, 1999, n + 1, rfl, B1, by omega, by decide, by decide, fun r2 H2 c0 c1 B2 k2 => ⟨_, _, rfl, rfl, (by show 8 ≤ sizeLine; decide), fun p hp => ?_⟩⟩⟩
    have np := box_ne B2 hp
    refine ⟨_, rfl, _, rfl, b, 8, n + 2, rfl, box_new B2 hp, by omega, by decide, by decide, fun r3 H3 d0 d1 B3 k3 => ?_⟩
    obtain ⟨j, rfl, hj⟩ := draw_at (n := 8) d0 d1 rfl
    have e3 := k3 _ _ np upd_same
    obtain ⟨i, hi, h1, h2⟩ : ∃ i : Int, ([.int 0, .int 1, .int (-1), .int 2, .int 999, .int (-999), .int (r1 - 10), .int (r2 - 999)] : List V)[j]? = some (.int i) ∧ -999 ≤ i ∧ i ≤ 999 := by
      match j, hj with
      | 0, _ => exact ⟨0, rfl, by decide, by decide⟩
      | 1, _ => exact ⟨1, rfl, by decide, by decide⟩
      | 2, _ => exact ⟨-1, rfl, by decide, by decide⟩
      | 3, _ => exact ⟨2, rfl, by decide, by decide⟩
      | 4, _ => exact ⟨999, rfl, by decide, by decide⟩
      | 5, _ => exact ⟨-999, rfl, by decide, by decide⟩
      | 6, _ => exact ⟨r1 - 10, rfl, by omega, by omega⟩
      | 7, _ => exact ⟨r2 - 999, rfl, by omega, by omega⟩
    exact ⟨p, _, _, .int i, rfl, rfl, .of e3, atI_nat hi, q i H3 h1 h2 B3 (((k1.trans k2).trans (But.new hp)).trans k3)⟩
theorem ok_lint {f : Addr} {fd : FuncData} (F : Fun K "_law_int" "_law_int" sLInt f fd) (ms : mg "str" = none) (ml : mg "len" = none) (mt : mg "int" = none) : FnOk P w K mg base CX0 1 f fd ["_law_word"] spLInt := by
  refine F.ok scLInt (fun vs H Q E h => ?_) (fun cdv A outer s H vs Q E hr h => ?_)
  · obtain ⟨z, rfl, _⟩ := h
    rfl
  · obtain ⟨z, rfl, hz, q⟩ := h
    have hu0 : (A.deeper (envOfC "_law_int" (defScope sLInt) s.heap.objs.size f cdv)).units < cLine := by have := hr.units; omega
    have lz := hz.len
    -- from the digits on
    obtain ⟨tl, pl, ql⟩ : ∃ t, PSs (cxOf CX0 P w K mg base nLInt "_law_int" (defScope sLInt) f cdv A outer s H E).nox ((defBody sLInt).drop 1) t ∧
        ∀ y : Str, cs y = N3.body (cs z) → t { nx := fun _ H' => Q .non H', rt := Q } [some (.str z), some (.str y), none] H := by
      refine ⟨_, pss_cons (ps_if (PW.pt (pw_or (pt_not (pt_chain op_le op_le pe_int (pe_callB call_len_str (by rfl) ml PySem.boot_len (pa_cons (pv 1) pa_nil)) pe_int))
          (pw_or1 (pt_cmpR (op_neNil hu0) (by exact pe_lc (own := [("_law_sign", 2)]) (g := gName 2) (by rfl) scLInt.nd (pi_str (pv 1)) (blkOk_by (own := [("_law_sign", 2)]) (N := nLInt) (sc := defScope sLInt) (by decide +kernel)) (fun _ _ _ _ _ => pg_name (i := 2) scLInt.nd rfl (.inl rfl)) (fun _ _ _ _ _ => pts_one (pt_cmpR op_notIn_sign (pv 2) pe_str (by rfl))) (fun _ _ _ _ _ => pv 2)) (pe_lst pa_nil) (nomark _)))))
          (pss_one (ps_ret pe_non)) pss_nil)
        (pss_one (ps_ret (pe_ifExp (pt_cmpR op_eq (pe_callTy call_str_int (by rfl) ms (by decide +kernel) (pa_cons (pe_callTy call_int_str (by rfl) mt (by decide +kernel) (pa_cons (pv 0) pa_nil)) pa_nil)) (pv 0) (nomark _)) (pe_callTy call_int_str (by rfl) mt (by decide +kernel) (pa_cons (pv 0) pa_nil)) pe_non))), ?_⟩
      intro y hy
      have hl := cs_len y
      rw [hy] at hl
      have hlz := cs_len z
      have hyz : y.length ≤ z.length := by
        have : (N3.body (cs z)).length ≤ (cs z).length := by
          unfold N3.body
          split
          · rw [List.length_drop]
            omega
          · exact Nat.le_refl _
        omega
      have no : N3.smallB z = false → ∀ H', Same H H' → Q .non H' := fun h H' s => by
        have := q H' s
        unfold numV' at this
        rw [← N3.lawI_eq] at this
        unfold N3.lawI at this
        rw [h] at this
        exact this
      have bit : ∀ b, N3.smallB z = b → ((decide (1 ≤ y.length) && decide (y.length ≤ 3)) && N3.digs (cs y)) = b := fun b e => by
        rw [← e]
        unfold N3.smallB
        rw [← hy, cs_len]
      refine ⟨_, rfl, y, rfl, small_size (by omega), _, _, rfl, rfl, _, rfl, ?_⟩
      by_cases h1 : 1 ≤ y.length
      · rw [decide_eq_true (show (1 : Int) ≤ (y.length : Int) by omega)]
        refine iteT ⟨_, _, rfl, rfl, _, rfl, ?_⟩
        by_cases h3 : y.length ≤ 3
        · rw [decide_eq_true (show (y.length : Int) ≤ 3 by omega)]
          refine iteF ?_
          refine ⟨_, rfl, y, rfl, fun D hD => ?_⟩
          refine lc_it walk_str (fun i H2 => Same H H2 ∧ H2 D = some (.lst ((N3.bads ((cs y).take i)).map fun c => V.str ⟨#[c]⟩))) ?_ ?_ ?_ ?_
          · exact ⟨Same.new hD, upd_same⟩
          · exact fun _ _ _ _ => trivial
          · rintro i x H2 H3 hi ⟨s2, e2⟩ ⟨rfl, c, hc, rfl⟩
            have hc2 : (cs y)[i]? = some c := by
              rw [← hc, ← Array.getElem?_toList]
            have hzs : y.cps.size = y.length := rfl
            have et : N3.bads ((cs y).take (i + 1)) = N3.bads ((cs y).take i) ++ N3.bads [c] := by
              unfold N3.bads
              rw [List.take_add_one, hc2, List.filter_append]
              rfl
            refine ⟨rfl, ?_⟩
            refine ⟨_, rfl, c, _, rfl, rfl, _, rfl, ?_⟩
            cases e3 : decide (c ∈ cs ("0123456789" : Str)) with
            | true =>
              refine iteF ⟨s2, ?_⟩
              rw [et, show N3.bads [c] = [] by unfold N3.bads; rw [List.filter_cons, e3]; rfl, List.append_nil]
              exact e2
            | false =>
              refine iteT ⟨_, rfl, _, e2, ?_, fun a o e => ?_, ?_⟩
              · rw [List.length_map]
                have g1 := List.length_filter_le (fun c => !decide (c ∈ cs ("0123456789" : Str))) ((cs y).take i)
                have g2 : ((cs y).take i).length ≤ (cs y).length := by
                  rw [List.length_take]
                  exact Nat.min_le_right _ _
                have g3 := cs_len y
                exact small1000 (show (N3.bads ((cs y).take i)).length ≤ 1000 by unfold N3.bads; omega)
              · rw [upd_ne (ne_of_none e hD)]
                exact s2 _ _ e
              · rw [upd_same, et, show N3.bads [c] = [c] by unfold N3.bads; rw [List.filter_cons, e3]; rfl, List.map_append]
                rfl
          · rintro H2 ⟨s2, e2⟩
            rw [show (cs y).take y.cps.size = cs y from List.take_of_length_le (Nat.le_of_eq (cs_len y))] at e2
            refine ⟨by show 0 ≤ sizeLine; exact Nat.zero_le _, fun m hm => ?_⟩
            have sH := s2.trans (Same.new (o := .lst []) hm)
            refine ⟨D, m, _, rfl, rfl, .of ((upd_ne (ne_of_none e2 hm)).trans e2), .of upd_same, _, rfl, ?_⟩
            rw [show ((N3.bads (cs y)).map fun c => V.str ⟨#[c]⟩).isEmpty = (N3.bads (cs y)).isEmpty by cases N3.bads (cs y) <;> rfl, N3.bads_digs]
            cases e4 : N3.digs (cs y) with
            | false =>
              refine iteT (no ?_ _ sH)
              have := bit _ rfl
              rw [e4, Bool.and_false] at this
              exact this.symm
            | true =>
              have sm : N3.smallB z = true := by
                have := bit _ rfl
                rw [e4, decide_eq_true h1, decide_eq_true h3] at this
                exact this.symm
              obtain ⟨hv, l4⟩ := small_val sm
              obtain ⟨bk, v1, v2⟩ := N3.small_num sm
              have fin := q _ sH
              unfold numV' at fin
              rw [← N3.lawI_eq] at fin
              unfold N3.lawI at fin
              rw [if_pos sm] at fin
              refine iteF ⟨_, rfl, z, N3.valN z, rfl, hv, by omega, _, rfl, slog v1 v2, _, rfl, rfl, _, rfl, ?_⟩
              by_cases hs : N3.shown (N3.valN z) = z
              · rw [if_pos hs] at fin
                refine ifY (decide_eq_true (congrArg V.str hs)) ⟨_, rfl, z, N3.valN z, rfl, hv, by omega, fin⟩
              · rw [if_neg hs] at fin
                exact ifN (decide_eq_false fun e => hs (V.str.inj e)) fin
        · rw [decide_eq_false (show ¬ (y.length : Int) ≤ 3 by omega)]
          refine iteT (iteT (no ?_ H (.refl H)))
          have := bit _ rfl
          rw [decide_eq_false h3, Bool.and_false, Bool.false_and] at this
          exact this.symm
      · rw [decide_eq_false (show ¬ (1 : Int) ≤ (y.length : Int) by omega)]
        refine iteF ⟨_, rfl, iteT (iteT (no ?_ H (.refl H)))⟩
        have := bit _ rfl
        rw [decide_eq_false h1, Bool.false_and, Bool.false_and] at this
        exact this.symm
    refine ⟨_, pss_cons (ps_set (i := 1) scLInt.nd rfl (.inl rfl) (pe_ifExp (pt_cmpR op_eq (pe_slice sl_str (pv 0) po_none (po_some pe_int)) pe_str (nomark _)) (pe_slice sl_str (pv 0) (po_some pe_int) po_none) (pv 0))) pl, ?_⟩
    refine ⟨_, rfl, 1, rfl, z, rfl, small_size (by omega), rfl, _, rfl, ?_⟩
    rw [N3.head_minus]
    refine ite2 (fun h => ?_) (fun h => ?_)
    · refine ⟨_, rfl, 1, rfl, z, rfl, small_size (by omega), ?_⟩
      refine ql _ ?_
      rw [bare_cut z h, N3.cs_prefix]
    · refine ⟨_, rfl, ?_⟩
      refine ql z ?_
      rw [← N3.cs_prefix, ← bare_same z h]
theorem ok_lord {f fN : Addr} {fd fdN : FuncData} (F : Fun K "_law_is_order" "_law_is_order" sLOrd f fd) (kN : PySem.W.keepIn K (.ref fN) = true) (bN : Binds K fdN ["_law_thing"] []) (gN : mg "_law_is_name" = some (.ref fN))
    (GN : FnOk P w K mg base CX0 1 fN fdN ["_law_thing"] (spIsNameT K)) (ml : mg "len" = none) : FnOk P w K mg base CX0 2 f fd ["_law_text"] spLOrd := by
  refine F.ok scLOrd (fun vs H Q E h => ?_) (fun cdv A outer s H vs Q E hr h => ?_)
  · obtain ⟨z, rfl, _⟩ := h
    rfl
  · obtain ⟨z, rfl, hz, q⟩ := h
    have hu0 : (A.deeper (envOfC "_law_is_order" (defScope sLOrd) s.heap.objs.size f cdv)).units < cLine := by have := hr.units; omega
    have lz := hz.len
    have le := spl_le z
    have wd := spl_wd hz
    refine ⟨_, pss_cons (ps_set (i := 1) scLOrd.nd rfl (.inl rfl) (pe_split (pv 0) pe_str))
      (pss_cons (ps_setLc (i := 2) (own := [("_law_word", 3)]) (g := gName 3) (tt := tYes) (by rfl) scLOrd.nd rfl rfl (sw_true rfl rfl rfl (by decide +kernel)) (pi_list (pv 1)) (blkOk_by (own := [("_law_word", 3)]) (N := nLOrd) (sc := defScope sLOrd) (by decide +kernel)) (fun _ _ _ _ _ => pg_name (i := 3) scLOrd.nd rfl (.inl rfl)) (fun _ _ _ _ _ => pts_nil)
        (fun _ _ _ _ _ => pe_ifExp (pt_cmpR op_eq (pe_slice sl_str (pv 3) po_none (po_some pe_int)) pe_str (nomark _)) (pe_slice sl_str (pv 3) (po_some pe_int) po_none) (pv 3)))
      (pss_one (ps_ret (pe_and (pe_cmpR op_lt (pe_callB call_len_seq (by rfl) ml PySem.boot_len (pa_cons (pv 1) pa_nil)) pe_int (nomark _)) (pe_one (pe_cmpR (op_eqNil hu0) (by exact pe_lc (own := [("_law_word", 3)]) (g := gName 3) (by rfl) scLOrd.nd (pi_list (pv 2)) (blkOk_by (own := [("_law_word", 3)]) (N := nLOrd) (sc := defScope sLOrd) (by decide +kernel)) (fun _ _ _ _ _ => pg_name (i := 3) scLOrd.nd rfl (.inl rfl)) (fun _ _ _ _ _ => pts_one (pt_not (pt_val (pe_call GN hr rfl gN kN bN .nil pass0 (pa_cons (pv 3) pa_nil))))) (fun _ _ _ _ _ => pv 3)) (pe_lst pa_nil) (nomark _))))))), ?_⟩
    refine ⟨_, rfl, ⟨_, rfl⟩, z, _, rfl, rfl, rfl, (by rw [sizeLine_eq]; omega), fun p hp => ?_⟩
    have s1 := Same.new (o := .lst ((spl z).map V.str)) hp
    have e1 : (upd H p (.lst ((spl z).map V.str))) p = some (.lst ((spl z).map V.str)) := upd_same
    generalize upd H p (.lst ((spl z).map V.str)) = H1 at s1 e1
    refine ⟨_, rfl, p, rfl, ⟨_, .of e1⟩, fun D hD => ?_⟩
    refine lc_list (xs := (spl z).map V.str) (fun i H2 => Same H1 H2 ∧ H2 D = some (.lst (((spl z).take i).map fun w => V.str (bare w)))) ?_ ?_ ?_ ?_
    · exact ⟨Same.new hD, upd_same⟩
    · exact fun i H2 _ h => .of (h.1 _ _ e1)
    · rintro i x H2 hx ⟨s2, e2⟩
      rw [List.getElem?_map] at hx
      obtain ⟨y, hy, rfl⟩ := Option.map_eq_some_iff.mp hx
      have ly := (wd y (List.mem_of_getElem? hy)).len
      have hi := (List.getElem?_eq_some_iff.mp hy).1
      refine ⟨rfl, ?_⟩
      unfold tYes
      dsimp only
      rw [if_pos rfl]
      have fin : ∀ u : Str, u = bare y → ∃ ys, H2 D = some (.lst ys) ∧ ys.length < sizeLine ∧ (Same H1 (upd H2 D (.lst (ys ++ [V.str u]))) ∧ (upd H2 D (.lst (ys ++ [V.str u]))) D = some (.lst (((spl z).take (i + 1)).map fun w => V.str (bare w)))) := by
        rintro u rfl
        refine ⟨_, e2, ?_, fun c o e => (upd_ne (ne_of_none e hD)).trans (s2 _ _ e), ?_⟩
        · rw [List.length_map, List.length_take]
          exact small1000 (by omega)
        · rw [upd_same, take_snoc hy, List.map_append]
          rfl
      refine ⟨_, rfl, 1, rfl, y, rfl, small_size (by omega), rfl, _, rfl, ?_⟩
      rw [N3.head_minus]
      refine ite2 (fun h => ?_) (fun h => ?_)
      · exact ⟨_, rfl, 1, rfl, y, rfl, small_size (by omega), fin _ (bare_cut y h)⟩
      · exact ⟨_, rfl, fin _ (bare_same y h)⟩
    · rintro H2 ⟨s2, e2⟩
      rw [List.length_map, List.take_length] at e2
      have p2 := s2 _ _ e1
      refine ⟨_, rfl, p, _, rfl, .inl (.of p2), _, _, rfl, rfl, _, rfl, ?_⟩
      rw [List.length_map]
      by_cases h4 : (spl z).length ≤ 3
      · refine ifY (decide_eq_true (show ((spl z).length : Int) < 4 by omega)) ?_
        refine ⟨_, rfl, D, rfl, ⟨_, .of e2⟩, fun D2 hD2 => ?_⟩
        refine lc_list (xs := (spl z).map fun w => V.str (bare w)) (fun i H3 => Same H2 H3 ∧ H3 D2 = some (.lst ((((spl z).take i).filter fun w => !fldB w).map fun w => V.str (bare w)))) ?_ ?_ ?_ ?_
        · exact ⟨Same.new hD2, upd_same⟩
        · exact fun i H3 _ h => .of (h.1 _ _ e2)
        · rintro i x H3 hx ⟨s3, e3⟩
          rw [List.getElem?_map] at hx
          obtain ⟨y, hy, rfl⟩ := Option.map_eq_some_iff.mp hx
          have ly := (wd y (List.mem_of_getElem? hy)).len
          have lb := pre_len y
          refine ⟨rfl, ?_⟩
          refine ⟨_, rfl, .str (bare y), .str (bare y), rfl, .str _, fun u e => ?_, fun H4 s4 => ⟨_, rfl, ?_⟩⟩
          · cases e
            exact Nat.le_trans lb (by omega)
          have e4 := s4 _ _ e3
          show if (!fldB y) = true then _ else _
          cases e : fldB y with
          | true =>
            refine iteF ⟨s3.trans s4, ?_⟩
            rw [take_snoc hy, List.filter_append, List.filter_cons, e, if_neg (by simp), List.filter_nil, List.append_nil]
            exact e4
          | false =>
            refine iteT ⟨_, rfl, _, e4, ?_, fun c o e' => (upd_ne (ne_of_none e' hD2)).trans ((s3.trans s4) _ _ e'), ?_⟩
            · rw [List.length_map]
              have := List.length_filter_le (fun w => !fldB w) ((spl z).take i)
              rw [List.length_take] at this
              exact small1000 (by omega)
            · rw [upd_same, take_snoc hy, List.filter_append, List.filter_cons, e, if_pos (by simp), List.filter_nil, List.map_append]
              rfl
        · rintro H3 ⟨s3, e3⟩
          rw [List.length_map, List.take_length] at e3
          refine ⟨by show 0 ≤ sizeLine; exact Nat.zero_le _, fun m hm => ?_⟩
          refine ⟨D2, m, _, rfl, rfl, .of ((upd_ne (ne_of_none e3 hm)).trans e3), .of upd_same, ?_⟩
          rw [bad_filter]
          have := q _ (((s1.trans s2).trans s3).trans (Same.new (o := .lst []) hm))
          unfold ordB at this
          rw [decide_eq_true h4, Bool.true_and] at this
          exact this
      · refine ifN (decide_eq_false (show ¬ ((spl z).length : Int) < 4 by omega)) ?_
        have := q _ (s1.trans s2)
        unfold ordB at this
        rw [decide_eq_false h4, Bool.false_and] at this
        exact this
theorem ok_lplus {f fN fI : Addr} {fd fdN fdI : FuncData} (F : Fun K "_law_is_plus" "_law_is_plus" sLPlus f fd) (kN : PySem.W.keepIn K (.ref fN) = true) (bN : Binds K fdN ["_law_thing"] []) (gN : mg "_law_is_name" = some (.ref fN))
    (GN : FnOk P w K mg base CX0 1 fN fdN ["_law_thing"] (spIsNameT K)) (kI : PySem.W.keepIn K (.ref fI) = true) (bI : Binds K fdI ["_law_word"] []) (gI : mg "_law_int" = some (.ref fI)) (GI : FnOk P w K mg base CX0 1 fI fdI ["_law_word"] spLInt) (ml : mg "len" = none) :
    FnOk P w K mg base CX0 2 f fd ["_law_text"] spLPlus := by
  refine F.ok scLPlus (fun vs H Q E h => ?_) (fun cdv A outer s H vs Q E hr h => ?_)
  · obtain ⟨z, rfl, _⟩ := h
    rfl
  · obtain ⟨z, rfl, hz, q⟩ := h
    have lz := hz.len
    have le := spl_le z
    have wd := spl_wd hz
    refine ⟨_, pss_cons (ps_set (i := 1) scLPlus.nd rfl (.inl rfl) (pe_split (pv 0) pe_str))
      (pss_one (ps_ret (pe_and (pe_cmpR op_eq (pe_callB call_len_seq (by rfl) ml PySem.boot_len (pa_cons (pv 1) pa_nil)) pe_int (nomark _)) (pe_and (pe_cmpR op_eq (pe_ix ix_list (pv 1) pe_int (fun _ _ => rfl)) pe_str (nomark _))
        (pe_and (pe_call GN hr rfl gN kN bN .nil pass0 (pa_cons (pe_ix ix_list (pv 1) pe_int (fun _ _ => rfl)) pa_nil)) (pe_one (pe_cmpR op_notN (pe_call GI hr rfl gI kI bI .nil pass0 (pa_cons (pe_ix ix_list (pv 1) pe_int (fun _ _ => rfl)) pa_nil)) pe_non (nomark _)))))))), ?_⟩
    refine ⟨_, rfl, ⟨_, rfl⟩, z, _, rfl, rfl, rfl, (by rw [sizeLine_eq]; omega), fun p hp => ?_⟩
    have s1 := Same.new (o := .lst ((spl z).map V.str)) hp
    have e1 : (upd H p (.lst ((spl z).map V.str))) p = some (.lst ((spl z).map V.str)) := upd_same
    generalize upd H p (.lst ((spl z).map V.str)) = H1 at s1 e1
    refine ⟨_, rfl, p, _, rfl, .inl (.of e1), rfl, _, rfl, ?_⟩
    rw [List.length_map]
    by_cases h3 : (spl z).length = 3
    · refine ifY (by rw [h3]; rfl) ?_
      obtain ⟨w0, w1, w2, ew⟩ : ∃ w0 w1 w2, spl z = [w0, w1, w2] := by
        match spl z, h3 with
        | [a, b, c], _ => exact ⟨a, b, c, rfl⟩
      have hp2 : H1 p = some (.lst [.str w0, .str w1, .str w2]) := by
        rw [e1, ew]
        rfl
      have wd1 : Wd w1 := wd w1 (by rw [ew]; simp)
      have wd2 : Wd w2 := wd w2 (by rw [ew]; simp)
      have pe : plB (spl z) = if w0 = "plus" ∧ nameB w1 = true then (N3.numO w2).map fun k => (w1, k) else none := by rw [ew]; rfl
      refine ⟨_, rfl, p, _, ((0 : Nat) : Int), _, rfl, rfl, .of hp2, atI_nat (j := 0) rfl, rfl, _, rfl, ?_⟩
      by_cases hw : w0 = "plus"
      · refine ifY (decide_eq_true (congrArg V.str hw)) ?_
        refine ⟨_, rfl, p, _, ((1 : Nat) : Int), _, rfl, rfl, .of hp2, atI_nat (j := 1) rfl, _, .str w1, rfl, .str w1, fun u e => ?_, fun H2 s2 => ⟨_, rfl, ?_⟩⟩
        · cases e
          have := wd1.len
          omega
        have hp3 := s2 _ _ hp2
        show if nameB w1 = true then _ else _
        cases hn : nameB w1 with
        | true =>
          refine iteT ⟨_, rfl, p, _, ((2 : Nat) : Int), _, rfl, rfl, .of hp3, atI_nat (j := 2) rfl, w2, rfl, wd2, fun H3 s3 => ⟨rfl, ?_⟩⟩
          have := q _ ((s1.trans s2).trans s3)
          rw [pe, if_pos ⟨hw, hn⟩] at this
          unfold numV'
          cases en : N3.numO w2 with
          | none =>
            rw [en] at this
            exact this
          | some n =>
            rw [en] at this
            exact this
        | false =>
          have := q _ (s1.trans s2)
          rw [pe, if_neg (fun y => by rw [hn] at y; cases y.2)] at this
          exact iteF this
      · have := q _ s1
        rw [pe, if_neg (fun y => hw y.1)] at this
        exact ifN (decide_eq_false fun e => hw (V.str.inj e)) this
    · have := q _ s1
      rw [plB_no3 h3] at this
      exact ifN (decide_eq_false fun e => h3 (by have := V.int.inj e; omega)) this
end
end G
set_option Elab.async false
set_option linter.all false
set_option maxRecDepth 100000
set_option maxHeartbeats 8000000
/-! BT: a text bent. -/
namespace G
open PySem PySem.Spec PyProof.Rows L2 NdefX StX
abbrev sBent : Stmt := topS 48
abbrev nBent : List Str := ["_law_box_here", "_law_text", "_law_way", "_law_at", "_law_some", "_law_one", "_law_words", "_law_spot", "_law_more"]
theorem scBent : FnScope nBent ["_law_box_here", "_law_text"] (defScope sBent) := ⟨rfl, rfl, rfl, by decide +kernel, rfl, by decide +kernel, by decide +kernel⟩
def spBent : Sp := fun vs H Q _ => ∃ (b : Addr) (n : Nat) (z : Str), vs = [.ref b, .str z] ∧ BoxAt H b n ∧ n ≤ 90000 ∧ N3.Asc z ∧ 1 ≤ z.length ∧ z.length ≤ 300 ∧
  ∀ (y : Str) (H' : Hp), N3.Asc y → y.length ≤ 2 * z.length + 10 → BoxAt H' b (n + 4) → But b H H' → Q (.str y) H'
theorem cut_short (z : Str) (lo hi : Option Int) : (cutS z lo hi).length ≤ z.length := by
  rw [← cs_len, ← cs_len]
  show (((cs z).drop _).take _).length ≤ _
  rw [List.length_take, List.length_drop]
  omega
def wt (us : List Str) : Nat := (us.map (·.length)).sum + us.length
theorem wt_app (a b : List Str) : wt (a ++ b) = wt a + wt b := by
  unfold wt
  rw [List.map_append, List.sum_append, List.length_append]
  omega
theorem wt_split (z : Str) : wt (spl z) ≤ z.length + 1 := split_weight z " " (by decide)
theorem wt_parts (ws : List Str) (j : Nat) : wt (ws.take j) + wt (ws.drop j) = wt ws := by
  rw [← wt_app, List.take_append_drop]
theorem joinL_len : ∀ ps : List (List Nat), (TL.joinL [32] ps).length ≤ (ps.map (·.length)).sum + ps.length
  | [] => by simp [TL.joinL]
  | [p] => by simp [TL.joinL]
  | p :: q :: r => by
    have := joinL_len (q :: r)
    show (p ++ ([32] ++ TL.joinL [32] (q :: r))).length ≤ _
    rw [List.length_append, List.length_append, List.map_cons, List.sum_cons, List.length_cons (a := p)]
    simp only [List.length_singleton]
    omega
theorem cs_join (us : List Str) : cs (Txt.join " " us) = TL.joinL [32] (us.map cs) := by
  rw [TL.join_eq]
  exact TL.tl_join " " us
theorem join_len (us : List Str) : (Txt.join " " us).length ≤ wt us := by
  rw [← cs_len, cs_join]
  have := joinL_len (us.map cs)
  rw [List.map_map, List.length_map] at this
  have e : us.map ((fun l : List Nat => l.length) ∘ cs) = us.map (·.length) := List.map_congr_left fun u _ => cs_len u
  rw [show (List.map ((fun x => x.length) ∘ cs) us) = us.map (·.length) from e] at this
  exact this
theorem join_asc {us : List Str} (h : ∀ u ∈ us, N3.Asc u) : N3.Asc (Txt.join " " us) := fun c hc => by
  rw [cs_join] at hc
  rcases N3.joinL_mem hc with hc | ⟨p, hp, hc⟩
  · rw [List.mem_singleton.mp hc]
    decide
  · obtain ⟨u, hu, rfl⟩ := List.mem_map.mp hp
    exact h u hu c hc
theorem cutV_to (xs : List V) (j : Nat) (h : j ≤ xs.length) : cutV xs none (some (j : Int)) = xs.take j := by
  unfold cutV
  rw [HT.sIx_none, HT.sIx_nat, List.drop_zero, Nat.min_eq_left h, Nat.sub_zero]
theorem cutV_from (xs : List V) (j : Nat) (h : j ≤ xs.length) : cutV xs (some (j : Int)) none = xs.drop j := by
  unfold cutV
  rw [HT.sIx_none, HT.sIx_nat, Nat.min_eq_left h]
  exact List.take_of_length_le (by rw [List.length_drop]; exact Nat.le_refl _)
theorem cutV_one (xs : List V) (j : Nat) (h : j < xs.length) : cutV xs (some (j : Int)) (some ((j + 1 : Nat) : Int)) = [xs[j]] := by
  unfold cutV
  rw [HT.sIx_nat, HT.sIx_nat, Nat.min_eq_left (Nat.le_of_lt h), Nat.min_eq_left (show j + 1 ≤ xs.length from h), show j + 1 - j = 1 by omega, List.drop_eq_getElem_cons h]
  rfl
theorem rep_strs (w : Str) : ∀ m : Nat, (List.replicate m [V.str w]).flatten = (List.replicate m w).map V.str
  | 0 => rfl
  | m + 1 => by
    rw [List.replicate_succ, List.replicate_succ, List.flatten_cons, rep_strs w m, List.map_cons]
    rfl
theorem wt_rep (w : Str) (m : Nat) (h : m ≤ 2) : wt (List.replicate m w) ≤ 2 * (w.length + 1) := by
  unfold wt
  rw [List.map_replicate, List.sum_replicate_nat, List.length_replicate]
  match m, h with
  | 0, _ => omega
  | 1, _ => omega
  | 2, _ => omega
def l15 : List Str := [" ", "-", "0", "9", "a", "A", "--", "\n", "plus ", " b", "1000", ".", "+", "_", "1_0"]
theorem l15_ok : ∀ o ∈ l15, (∀ c ∈ cs o, c < 128) ∧ o.length ≤ 5 := by decide +kernel
section
variable {P : Program} {w : World} {K : PySem.W.Frag} {mg : Str → Option Value} {base : Heap} {f fT : Addr} {fd fdT : FuncData}
theorem bent_tail {cdv : Value} {A : Around} {outer : List Env} {s : Shared} {H : Hp} {E : XK} (T : Fun K "_law_take" "_law_take" sTake fT fdT) (bT : Binds K fdT ["_law_box_here", "_law_many"] []) (gT : mg "_law_take" = some (.ref fT)) (ml : mg "len" = none)
    (hr : Room 1 (A.deeper (envOfC "_law_bent" (defScope sBent) s.heap.objs.size f cdv))) :
    ∃ t, PSs (cxOf CX0 P w K mg base nBent "_law_bent" (defScope sBent) f cdv A outer s H E).nox ((defBody sBent).drop 6) t ∧
      ∀ (De : Ends) (x3 x4 x5 : Option V) (b : Addr) (n k : Nat) (z : Str) (H1 : Hp), BoxAt H1 b n → n ≤ 90100 → N3.Asc z → z.length ≤ 300 → (k = 3 ∨ k = 4) →
        (∀ (y : Str) (H' : Hp), N3.Asc y → y.length ≤ 2 * z.length + 10 → BoxAt H' b (n + 1) → But b H1 H' → De.rt (.str y) H') →
        t De [some (.ref b), some (.str z), some (.int (k : Int)), x3, x4, x5, none, none, none] H1 := by
  have GT : FnOk P w K mg base CX0 1 fT fdT ["_law_box_here", "_law_many"] spTake := ok_take T
  refine ⟨_, pss_cons (ps_set (i := 6) scBent.nd rfl (.inl rfl) (pe_split (pv 1) pe_str))
    (pss_cons (ps_set (i := 7) scBent.nd rfl (.inl rfl) (pe_call GT hr rfl gT T.kp bT .nil pass0 (pa_cons (pv 0) (pa_cons (pe_callB call_len_seq (by rfl) ml PySem.boot_len (pa_cons (pv 6) pa_nil)) pa_nil))))
    (pss_cons (ps_set (i := 8) scBent.nd rfl (.inl rfl) (pe_op op_rep (pe_slice sl_list (pv 6) (po_some (pv 7)) (po_some (pe_op op_add (pv 7) pe_int))) (pe_op op_sub (pe_op op_mul pe_int (pv 2)) pe_int)))
    (pss_one (ps_ret (pe_join pe_str (pe_op op_cat (pe_op op_cat (pe_slice sl_list (pv 6) po_none (po_some (pv 7))) (pv 8)) (pe_slice sl_list (pv 6) (po_some (pe_op op_add (pv 7) pe_int)) po_none))))))), ?_⟩
  intro De x3 x4 x5 b n k z H1 B hn asc l300 hk q
  have le := spl_le z
  have sp1 := spl_pos z
  refine ⟨_, rfl, ⟨_, rfl⟩, z, _, rfl, rfl, rfl, (by rw [sizeLine_eq]; omega), fun lw hlw => ?_⟩
  have nwb := box_ne B hlw
  refine ⟨_, rfl, _, rfl, lw, _, rfl, .inl (.of upd_same), b, _, n, rfl, box_new B hlw, by omega, ?_, ?_, fun r H3 r0 r1 B3 k3 => ?_⟩
  · rw [List.length_map]
    show (0 : Int) < (((spl z).length : Nat) : Int)
    omega
  · rw [List.length_map]
    show (((spl z).length : Nat) : Int) < 2 ^ 200
    omega
  obtain ⟨j, rfl, hj⟩ := draw_at (n := (spl z).length) r0 r1 (by rw [List.length_map])
  have ew : H3 lw = some (.lst ((spl z).map V.str)) := k3 _ _ nwb upd_same
  have kk3 : But b H1 H3 := (But.new hlw).trans k3
  have ej : ((j : Int) + 1) = ((j + 1 : Nat) : Int) := by omega
  obtain ⟨m, hm, em⟩ : ∃ m : Nat, m ≤ 2 ∧ (2 * (k : Int) - 6) = (m : Int) := by
    rcases hk with rfl | rfl
    · exact ⟨0, by decide, by decide⟩
    · exact ⟨2, by decide, by decide⟩
  have hmul : CMul 2 (k : Int) := .inl ⟨by decide, by decide⟩
  have hjm : j < ((spl z).map V.str).length := by
    rw [List.length_map]
    exact hj
  refine ⟨_, rfl, _, rfl, _, rfl, _, rfl, _, _, rfl, rfl, _, rfl, lw, _, rfl, .of ew, fun u hu => ?_⟩
  rw [ej, cutV_one _ j hjm, List.getElem_map]
  have nub := box_ne B3 hu
  have B4 := box_new (o := .lst [V.str (spl z)[j]]) B3 hu
  have s4 := Same.new (o := .lst [V.str (spl z)[j]]) hu
  have eu : (upd H3 u (.lst [V.str (spl z)[j]])) u = some (.lst [V.str (spl z)[j]]) := upd_same
  generalize upd H3 u (.lst [V.str (spl z)[j]]) = H4 at B4 s4 eu
  refine ⟨_, rfl, _, _, rfl, rfl, hmul, _, _, rfl, rfl, u, 2 * (k : Int) - 6, _, rfl, rfl, eu, by omega, by omega, ?_, fun p hp => ?_⟩
  · show 1 * (2 * (k : Int) - 6).toNat ≤ sizeLine
    rw [em, sizeLine_eq]
    show 1 * m ≤ _
    omega
  rw [em, show ((m : Nat) : Int).toNat = m from rfl, rep_strs]
  have B5 := box_new (o := .lst ((List.replicate m (spl z)[j]).map V.str)) B4 hp
  have s5 := s4.trans (Same.new (o := .lst ((List.replicate m (spl z)[j]).map V.str)) hp)
  have ep : (upd H4 p (.lst ((List.replicate m (spl z)[j]).map V.str))) p = some (.lst ((List.replicate m (spl z)[j]).map V.str)) := upd_same
  generalize upd H4 p (.lst ((List.replicate m (spl z)[j]).map V.str)) = H5 at B5 s5 ep
  refine ⟨⟨_, rfl⟩, _, rfl, _, rfl, _, rfl, lw, _, rfl, .of (s5 _ _ ew), fun la hla => ?_⟩
  rw [cutV_to _ j (Nat.le_of_lt hjm), ← List.map_take]
  have B6 := box_new (o := .lst (((spl z).take j).map V.str)) B5 hla
  have s6 := Same.new (o := .lst (((spl z).take j).map V.str)) hla
  have ea : (upd H5 la (.lst (((spl z).take j).map V.str))) la = some (.lst (((spl z).take j).map V.str)) := upd_same
  generalize upd H5 la (.lst (((spl z).take j).map V.str)) = H6 at B6 s6 ea
  refine ⟨_, rfl, la, p, _, _, rfl, rfl, ea, s6 _ _ ep, ?_, fun lb hlb => ?_⟩
  · rw [List.length_map, List.length_map, List.length_take, List.length_replicate]
    exact small_size (by omega)
  have B7 := box_new (o := .lst (((spl z).take j).map V.str ++ (List.replicate m (spl z)[j]).map V.str)) B6 hlb
  have s7 := (s5.trans s6).trans (Same.new (o := .lst (((spl z).take j).map V.str ++ (List.replicate m (spl z)[j]).map V.str)) hlb)
  have eb : (upd H6 lb (.lst (((spl z).take j).map V.str ++ (List.replicate m (spl z)[j]).map V.str))) lb = some (.lst (((spl z).take j).map V.str ++ (List.replicate m (spl z)[j]).map V.str)) := upd_same
  generalize upd H6 lb (.lst (((spl z).take j).map V.str ++ (List.replicate m (spl z)[j]).map V.str)) = H7 at B7 s7 eb
  refine ⟨_, rfl, _, rfl, _, _, rfl, rfl, _, rfl, lw, _, rfl, .of (s7 _ _ ew), fun lc hlc => ?_⟩
  rw [ej, cutV_from _ (j + 1) hjm, ← List.map_drop]
  have B8 := box_new (o := .lst (((spl z).drop (j + 1)).map V.str)) B7 hlc
  have s8 := Same.new (o := .lst (((spl z).drop (j + 1)).map V.str)) hlc
  have ec : (upd H7 lc (.lst (((spl z).drop (j + 1)).map V.str))) lc = some (.lst (((spl z).drop (j + 1)).map V.str)) := upd_same
  generalize upd H7 lc (.lst (((spl z).drop (j + 1)).map V.str)) = H8 at B8 s8 ec
  refine ⟨lb, lc, _, _, rfl, rfl, s8 _ _ eb, ec, ?_, fun ld hld => ?_⟩
  · rw [List.length_append, List.length_map, List.length_map, List.length_map, List.length_take, List.length_replicate, List.length_drop]
    exact small_size (by omega)
  have w0 := wt_split z
  have w1 := wt_parts (spl z) j
  have w2 : wt ((spl z).drop (j + 1)) ≤ wt ((spl z).drop j) := by
    rw [List.drop_eq_getElem_cons hj]
    unfold wt
    rw [List.map_cons, List.sum_cons, List.length_cons]
    omega
  have lw1 : (spl z)[j].length ≤ z.length := part_short (List.getElem_mem hj)
  have w3 := wt_rep (spl z)[j] m hm
  have w4 : wt ((spl z).take j ++ List.replicate m (spl z)[j] ++ (spl z).drop (j + 1)) ≤ 3 * z.length + 3 := by
    rw [wt_app, wt_app]
    omega
  have w5 : wt ((spl z).take j ++ List.replicate m (spl z)[j] ++ (spl z).drop (j + 1)) ≤ 2 * z.length + 3 := by
    rw [wt_app, wt_app]
    have w6 : wt (List.replicate m (spl z)[j]) ≤ ((spl z)[j].length + 1) + (z.length + 1) := by omega
    have w7 : wt ((spl z).drop j) = ((spl z)[j].length + 1) + wt ((spl z).drop (j + 1)) := by
      rw [List.drop_eq_getElem_cons hj]
      unfold wt
      rw [List.map_cons, List.sum_cons, List.length_cons]
      omega
    omega
  refine ⟨" ", ld, (spl z).take j ++ List.replicate m (spl z)[j] ++ (spl z).drop (j + 1), rfl, rfl, .inl (.of ?_), ?_, ?_⟩
  · rw [upd_same, List.map_append, List.map_append]
  · have e1 : (" " : Str).length = 1 := rfl
    rw [e1, Nat.mul_one]
    have : (((spl z).take j ++ List.replicate m (spl z)[j] ++ (spl z).drop (j + 1)).map (·.length)).sum + ((spl z).take j ++ List.replicate m (spl z)[j] ++ (spl z).drop (j + 1)).length ≤ 3 * z.length + 3 := w4
    omega
  · have ascw : ∀ u ∈ spl z, N3.Asc u := fun u hu c hc => asc c (by
      rw [← N3.split_joinL]
      exact N3.mem_joinL (List.mem_map.mpr ⟨u, hu, rfl⟩) hc)
    refine q _ _ (join_asc fun u hu => ?_) (Nat.le_trans (join_len _) (by omega)) (box_new B8 hld) ((kk3.trans (But.same (s7.trans s8))).trans (But.new hld))
    rcases List.mem_append.mp hu with hu | hu
    · rcases List.mem_append.mp hu with hu | hu
      · exact ascw u (List.mem_of_mem_take hu)
      · rw [(List.mem_replicate.mp hu).2]
        exact ascw _ (List.getElem_mem hj)
    · exact ascw u (List.mem_of_mem_drop hu)
theorem ok_bent (F : Fun K "_law_bent" "_law_bent" sBent f fd) (T : Fun K "_law_take" "_law_take" sTake fT fdT) (bT : Binds K fdT ["_law_box_here", "_law_many"] []) (gT : mg "_law_take" = some (.ref fT)) (ml : mg "len" = none) :
    FnOk P w K mg base CX0 2 f fd ["_law_box_here", "_law_text"] spBent := by
  have GT : FnOk P w K mg base CX0 1 fT fdT ["_law_box_here", "_law_many"] spTake := ok_take T
  refine F.ok scBent (fun vs H Q E h => ?_) (fun cdv A outer s H vs Q E hr h => ?_)
  · obtain ⟨b, n, z, rfl, _⟩ := h
    rfl
  · obtain ⟨b, n, z, rfl, B, hn, asc, l1, l300, q⟩ := h
    obtain ⟨tl, pl, ql⟩ := bent_tail (P := P) (w := w) (K := K) (mg := mg) (base := base) (outer := outer) (H := H) (E := E) (cdv := cdv) (s := s) (f := f) T bT gT ml hr
    refine ⟨_, pss_cons (ps_par (i := 2) (j := 3) (by rfl) scBent.nd rfl rfl (by decide) rfl rfl (pa_cons (pe_call GT hr rfl gT T.kp bT .nil pass0 (pa_cons (pv 0) (pa_cons pe_int pa_nil))) (pa_cons (pe_call GT hr rfl gT T.kp bT .nil pass0 (pa_cons (pv 0) (pa_cons (pe_callB call_len_str (by rfl) ml PySem.boot_len (pa_cons (pv 1) pa_nil)) pa_nil))) pa_nil)) (by rfl))
      (pss_cons (ps_set (i := 4) scBent.nd rfl (.inl rfl) (pe_lst (pa_cons pe_str (pa_cons pe_str (pa_cons pe_str (pa_cons pe_str (pa_cons pe_str (pa_cons pe_str (pa_cons pe_str (pa_cons pe_str (pa_cons pe_str (pa_cons pe_str (pa_cons pe_str (pa_cons pe_str (pa_cons pe_str (pa_cons pe_str (pa_cons pe_str pa_nil)))))))))))))))))
      (pss_cons (ps_set (i := 5) scBent.nd rfl (.inl rfl) (pe_ix ix_list (pv 4) (pe_call GT hr rfl gT T.kp bT .nil pass0 (pa_cons (pv 0) (pa_cons pe_int pa_nil))) (fun _ _ => rfl)))
      (pss_cons (ps_if (pt_cmpR op_eq (pv 2) pe_int (nomark _)) (pss_one (ps_ret (pe_op op_add_str (pe_slice sl_str (pv 1) po_none (po_some (pv 3))) (pe_slice sl_str (pv 1) (po_some (pe_op op_add (pv 3) pe_int)) po_none)))) pss_nil)
      (pss_cons (ps_if (pt_cmpR op_eq (pv 2) pe_int (nomark _)) (pss_one (ps_ret (pe_op op_add_str (pe_op op_add_str (pe_slice sl_str (pv 1) po_none (po_some (pv 3))) (pv 5)) (pe_slice sl_str (pv 1) (po_some (pv 3)) po_none)))) pss_nil)
      (pss_cons (ps_if (pt_cmpR op_eq (pv 2) pe_int (nomark _)) (pss_one (ps_ret (pe_op op_add_str (pe_op op_add_str (pe_slice sl_str (pv 1) po_none (po_some (pv 3))) (pv 5)) (pe_slice sl_str (pv 1) (po_some (pe_op op_add (pv 3) (pe_callB call_len_str (by rfl) ml PySem.boot_len (pa_cons (pv 5) pa_nil)))) po_none)))) pss_nil)
      pl))))), ?_⟩
    refine ⟨_, rfl, b, 5, n, rfl, B, by omega, by decide, by decide, fun r1 H1 a0 a1 B1 k1 => ?_⟩
    obtain ⟨k, rfl, hk⟩ := draw_at (n := 5) a0 a1 rfl
    refine ⟨_, rfl, _, rfl, z, rfl, small_size (by omega), b, _, n + 1, rfl, B1, by omega, by omega, by omega, fun r2 H2 c0 c1 B2 k2 => ?_⟩
    obtain ⟨j, rfl, hj⟩ := draw_at (n := z.length) c0 c1 rfl
    refine ⟨_, _, rfl, (by show 15 ≤ sizeLine; exact small_size (by decide)), fun p hp => ?_⟩
    have npb := box_ne B2 hp
    refine ⟨_, rfl, _, rfl, b, 15, n + 2, rfl, box_new B2 hp, by omega, by decide, by decide, fun r3 H3 d0 d1 B3 k3 => ?_⟩
    obtain ⟨i, rfl, hi⟩ := draw_at (n := 15) d0 d1 rfl
    have e3 : H3 p = some (.lst (l15.map V.str)) := k3 _ _ npb upd_same
    have hi2 : i < l15.length := hi
    obtain ⟨oa, ol⟩ := l15_ok _ (List.getElem_mem hi2)
    have kk : But b H H3 := ((k1.trans k2).trans (But.new hp)).trans k3
    generalize eo : l15[i] = o at oa ol
    refine ⟨p, _, _, .str o, rfl, rfl, .of e3, atI_nat (by rw [List.getElem?_map, List.getElem?_eq_getElem hi2, eo]; rfl), ?_⟩
    have ca : ∀ lo hi, N3.Asc (cutS z lo hi) := fun lo hi => asc.cut lo hi
    have cl : ∀ lo hi, (cutS z lo hi).length ≤ z.length := fun lo hi => cut_short z lo hi
    have fin : ∀ y : Str, N3.Asc y → y.length ≤ 2 * z.length + 10 → Q (.str y) H3 := fun y h1 h2 => q y H3 h1 h2 (B3.mono (by omega)) kk
    have e0 : ∀ c : Nat, decide (V.int (k : Int) = V.int (c : Int)) = decide (k = c) := fun c => by
      by_cases h : k = c
      · rw [decide_eq_true h, h]
        exact decide_eq_true rfl
      · rw [decide_eq_false h]
        exact decide_eq_false fun e => h (by have := V.int.inj e; omega)
    refine ⟨_, rfl, rfl, _, rfl, ?_⟩
    by_cases h0 : k = 0
    · refine ifY ((e0 0).trans (decide_eq_true h0)) ?_
      have g1 := cl none (some (j : Int))
      have g2 := cl (some ((j : Int) + 1)) none
      refine ⟨_, rfl, _, rfl, _, rfl, z, rfl, small_size (by omega), _, rfl, _, rfl, _, _, rfl, rfl, _, rfl, z, rfl, small_size (by omega), _, _, rfl, rfl, small_size (by omega), fin _ ((ca _ _).app (ca _ _)) ?_⟩
      rw [app_len]
      omega
    refine ifN ((e0 0).trans (decide_eq_false h0)) ?_
    refine ⟨_, rfl, rfl, _, rfl, ?_⟩
    by_cases h1 : k = 1
    · refine ifY ((e0 1).trans (decide_eq_true h1)) ?_
      have g1 := cl none (some (j : Int))
      have g2 := cl (some (j : Int)) none
      refine ⟨_, rfl, _, rfl, _, rfl, z, rfl, small_size (by omega), _, rfl, _, _, rfl, rfl, small_size (by omega), _, rfl, _, rfl, _, rfl, z, rfl, small_size (by omega), _, _, rfl, rfl, small_size (by rw [app_len]; omega), fin _ (((ca _ _).app oa).app (ca _ _)) ?_⟩
      rw [app_len, app_len]
      omega
    refine ifN ((e0 1).trans (decide_eq_false h1)) ?_
    refine ⟨_, rfl, rfl, _, rfl, ?_⟩
    by_cases h2 : k = 2
    · refine ifY ((e0 2).trans (decide_eq_true h2)) ?_
      have g1 := cl none (some (j : Int))
      have g2 := cl (some ((j : Int) + (o.length : Int))) none
      refine ⟨_, rfl, _, rfl, _, rfl, z, rfl, small_size (by omega), _, rfl, _, _, rfl, rfl, small_size (by omega), _, rfl, _, rfl, _, rfl, o, rfl, small_size (by omega), _, _, rfl, rfl, _, rfl, z, rfl, small_size (by omega), _, _, rfl, rfl, small_size (by rw [app_len]; omega), fin _ (((ca _ _).app oa).app (ca _ _)) ?_⟩
      rw [app_len, app_len]
      omega
    refine ifN ((e0 2).trans (decide_eq_false h2)) ?_
    refine ql _ _ _ _ b (n + 3) k z H3 B3 (by omega) asc l300 (by omega) fun y H' h1 h2 B4 k4 => q y H' h1 h2 (B4.mono (by omega)) (kk.trans k4)
end
end G
set_option Elab.async false
set_option linter.all false
set_option maxRecDepth 100000
set_option maxHeartbeats 8000000
/-! RT: _law_right from its loop on. -/
namespace G
open PySem PySem.Spec PyProof.Rows L2 NdefX StX
abbrev sR : Stmt := topS 52
abbrev nR : List Str := ["_law_box_here", "_law_names_here", "_law_fields_here", "_law_name", "_law_number_here", "_law_order_here", "_law_plus", "_law_texts", "_law_turn", "_law_bent_here", "_law_way", "_law_good", "_law_odd"]
theorem scR : FnScope nR ["_law_box_here", "_law_names_here"] (defScope sR) := ⟨rfl, rfl, rfl, by decide +kernel, rfl, by decide +kernel, by decide +kernel⟩
def forBody : Stmt → List Stmt
  | .For _ _ b _ _ => b
  | _ => []
abbrev loopT : List Stmt := forBody ((defBody sR).getD 4 (.Pass ⟨0, 0, 0, 0⟩))
abbrev loopW : List Stmt := forBody (loopT.getD 2 (.Pass ⟨0, 0, 0, 0⟩))
section
variable {X : Cx}
def rEqS (K : PySem.W.Frag) : R2 := fun x y H Q => ∃ a b xs, x = .ref a ∧ y = .ref b ∧ SqL K H a xs ∧ SqL K H b xs ∧ (∀ v ∈ xs, sameB v = true) ∧ Q (.bl true) H
theorem op_eqS (hu : X.A.units < cLine) : OpR X (compareOp .Eq) (rEqS X.K) := by
  intro pins s σ H x y v u Q I rx ry h
  obtain ⟨a, b, xs, rfl, rfl, ha, hb, hf, q⟩ := h
  cases (show v = Value.ref a from rx)
  cases (show u = Value.ref b from ry)
  obtain ⟨us, r1, p1, _⟩ := I.list ha
  obtain ⟨ws, r2, p2, _⟩ := I.list hb
  have hsz : us.toArray.size = ws.toArray.size := by rw [List.size_toArray, List.size_toArray, ← r1.length, ← r2.length]
  refine SeqAt.RcAt.lists (e := fun _ => true) p1.isList p2.isList hsz hu (fun j h1 h2 => ?_) X.prog X.w _ _ ?_
  · have k := items_same (A := X.A.in1) (s := s) hf r1 r2 j (by simpa using h1) (by simpa using h2)
    simpa using k
  · rw [show ((List.range us.toArray.size).all fun _ => true) = true from List.all_eq_true.mpr fun _ _ => rfl]
    exact ⟨.bl true, H, I, rfl, q⟩
end
theorem twD_str {y : Str} (h : Tw y) : TwD (.str y) := fun z e => by
  cases e
  exact h
theorem good0 (y : Str) : goodB 0 (.str y) = ordB (spl y) := by
  show (readB (.str y)).isSome = _
  rw [readB_eq]
  cases ordB (spl y) <;> rfl
theorem good1 (y : Str) : goodB 1 (.str y) = (plB (spl y)).isSome := by
  show (readP (.str y)).isSome = _
  rw [readP_eq]
section
variable {P : Program} {w : World} {K : PySem.W.Frag} {mg : Str → Option Value} {base : Heap} {f fU : Addr} {fdU : FuncData}
theorem right_way {cdv : Value} {A : Around} {outer : List Env} {s : Shared} {H : Hp} {E : XK} (GU : FnOk P w K mg base CX0 7 fU fdU ["_law_way", "_law_text"] (spTold K)) (gU : mg "_law_told" = some (.ref fU)) (kU : PySem.W.keepIn K (.ref fU) = true) (bU : Binds K fdU ["_law_way", "_law_text"] [])
    (hr : Room 7 (A.deeper (envOfC "_law_right" (defScope sR) s.heap.objs.size f cdv))) :
    ∃ t, PSs (cxOf CX0 P w K mg base nR "_law_right" (defScope sR) f cdv A outer s H E).nox loopW t ∧
      ∀ (De : Ends) (x0 x1 x2 x3 x4 x5 x6 x7 x8 x12 : Option V) (y : Str) (j : Nat) (g : Bool) (H1 : Hp), Tw y → goodB j (.str y) = g →
        (∀ H', Same H1 H' → De.nx [x0, x1, x2, x3, x4, x5, x6, x7, x8, some (.str y), some (.int (j : Int)), some (.bl g), x12] H') →
        t De [x0, x1, x2, x3, x4, x5, x6, x7, x8, some (.str y), some (.int (j : Int)), some (.bl g), x12] H1 := by
  have hu := Nat.lt_of_succ_lt (hu_of hr)
  refine ⟨_, pss_one (ps_if (pt_cmpR (op_neS hu) (pe_call GU hr rfl gU kU bU .nil pass0 (pa_cons (pv 10) (pa_cons (pv 9) pa_nil)))
    (pe_ifExp (pt_val (pv 11)) (pe_lst (pa_cons pe_str (pa_cons (pv 9) pa_nil))) (pe_lst (pa_cons pe_str (pa_cons (pv 9) pa_nil)))) (nomark _)) (pss_one (ps_ret pe_bl)) pss_nil), ?_⟩
  intro De x0 x1 x2 x3 x4 x5 x6 x7 x8 x12 y j g H1 tw hg q
  have two : ∀ a : Str, ∀ v ∈ [V.str a, V.str y], sameB v = true := fun a v hv => by
    rcases List.mem_cons.mp hv with rfl | hv
    · rfl
    · rw [List.mem_singleton.mp hv]
      rfl
  refine ⟨_, rfl, _, rfl, j, .str y, .str y, rfl, .str y, twD_str tw, fun ok z p H2 ez np s2 e2 => ?_, fun no p H2 np s2 e2 => ?_⟩
  · cases ez
    rw [hg] at ok
    subst ok
    refine ⟨_, rfl, _, rfl, iteT ⟨_, rfl, (by show 2 ≤ sizeLine; decide), fun p2 hp2 => ?_⟩⟩
    have s3 := Same.new (o := .lst [.str "read", .str y]) hp2
    exact ⟨p, p2, _, rfl, rfl, .of (s3 _ _ e2), .of upd_same, two _, _, rfl, iteF (q _ (s2.trans s3))⟩
  · rw [hg] at no
    subst no
    refine ⟨_, rfl, _, rfl, iteF ⟨_, rfl, (by show 2 ≤ sizeLine; decide), fun p2 hp2 => ?_⟩⟩
    have s3 := Same.new (o := .lst [.str "text", .str y]) hp2
    exact ⟨p, p2, _, rfl, rfl, .of (s3 _ _ e2), .of upd_same, two _, _, rfl, iteF (q _ (s2.trans s3))⟩
theorem right_inner {fO fP : Addr} {fdO fdP : FuncData} {cdv : Value} {A : Around} {outer : List Env} {s : Shared} {H : Hp} {E : XK} (GU : FnOk P w K mg base CX0 7 fU fdU ["_law_way", "_law_text"] (spTold K)) (gU : mg "_law_told" = some (.ref fU)) (kU : PySem.W.keepIn K (.ref fU) = true) (bU : Binds K fdU ["_law_way", "_law_text"] [])
    (GO : FnOk P w K mg base CX0 2 fO fdO ["_law_text"] spLOrd) (gO : mg "_law_is_order" = some (.ref fO)) (kO : PySem.W.keepIn K (.ref fO) = true) (bO : Binds K fdO ["_law_text"] [])
    (GP : FnOk P w K mg base CX0 2 fP fdP ["_law_text"] spLPlus) (gP : mg "_law_is_plus" = some (.ref fP)) (kP : PySem.W.keepIn K (.ref fP) = true) (bP : Binds K fdP ["_law_text"] [])
    (hr : Room 7 (A.deeper (envOfC "_law_right" (defScope sR) s.heap.objs.size f cdv))) :
    ∃ t, PSs (cxOf CX0 P w K mg base nR "_law_right" (defScope sR) f cdv A outer s H E).nox (loopT.drop 2) t ∧
      ∀ (De : Ends) (x0 x1 x2 x3 x4 x5 x6 x7 x8 x10 x11 x12 : Option V) (y : Str) (H1 : Hp), Tw y →
        (∀ (y10 y11 : Option V) (H' : Hp), Same H1 H' → De.nx [x0, x1, x2, x3, x4, x5, x6, x7, x8, some (.str y), y10, y11, x12] H') →
        t De [x0, x1, x2, x3, x4, x5, x6, x7, x8, some (.str y), x10, x11, x12] H1 := by
  have hr2 := hr.mono (show 2 ≤ 7 by decide)
  obtain ⟨tw_, pw_, qw⟩ := right_way (P := P) (w := w) (K := K) (mg := mg) (base := base) (outer := outer) (H := H) (E := E) (cdv := cdv) (s := s) (f := f) GU gU kU bU hr
  refine ⟨_, pss_one (ps_for PassesOwn.never rfl (pi_list (pe_lst (pa_cons (pe_tup (pa_cons pe_int (pa_cons (pe_call GO hr2 rfl gO kO bO .nil pass0 (pa_cons (pv 9) pa_nil)) pa_nil))) (pa_cons (pe_tup (pa_cons pe_int (pa_cons (pe_call GP hr2 rfl gP kP bP .nil pass0 (pa_cons (pv 9) pa_nil)) pa_nil))) pa_nil))))
    (pg_tup rfl (pgs_cons (pg_name (i := 10) scR.nd rfl (.inl rfl)) (pgs_cons (pg_name (i := 11) scR.nd rfl (.inl rfl)) pgs_nil))) pw_), ?_⟩
  intro De x0 x1 x2 x3 x4 x5 x6 x7 x8 x10 x11 x12 y H1 tw q
  refine ⟨_, rfl, y, rfl, tw, fun H2 s2 => ⟨(by show 2 ≤ sizeLine; decide), fun T1 hT1 => ?_⟩⟩
  have t1 := Same.new (o := .tup [.int 0, .bl (ordB (spl y))]) hT1
  refine ⟨_, rfl, y, rfl, tw, fun H3 s3 => ⟨(by show 2 ≤ sizeLine; decide), fun T2 hT2 => ⟨(by show 2 ≤ sizeLine; decide), fun L hL => ⟨L, rfl, ⟨_, .of upd_same⟩, ?_⟩⟩⟩⟩
  have t2 := Same.new (o := .tup [.int 1, .bl (plB (spl y)).isSome]) hT2
  have t3 := Same.new (o := .lst [.ref T1, .ref T2]) hL
  have e1 := t3 _ _ (t2 _ _ (s3 _ _ (upd_same (H := H2) (a := T1) (o := .tup [.int 0, .bl (ordB (spl y))]))))
  have e2 := t3 _ _ (upd_same (H := H3) (a := T2) (o := .tup [.int 1, .bl (plB (spl y)).isSome]))
  have eL : (upd (upd H3 T2 (.tup [.int 1, .bl (plB (spl y)).isSome])) L (.lst [.ref T1, .ref T2])) L = some (.lst [.ref T1, .ref T2]) := upd_same
  have sX := (((s2.trans t1).trans s3).trans t2).trans t3
  generalize upd (upd H3 T2 (.tup [.int 1, .bl (plB (spl y)).isSome])) L (.lst [.ref T1, .ref T2]) = HX at e1 e2 eL sX
  refine for_list (xs := [.ref T1, .ref T2]) (fun i σ H4 => Same HX H4 ∧ ∃ y10 y11 : Option V, σ = [x0, x1, x2, x3, x4, x5, x6, x7, x8, some (.str y), y10, y11, x12]) ?_ ?_ ?_ ?_
  · exact ⟨.refl _, _, _, rfl⟩
  · rintro i σ H4 _ ⟨s4, _⟩
    exact .of (s4 _ _ eL)
  · rintro i x σ H4 hx ⟨s4, y10, y11, rfl⟩
    match i, hx with
    | 0, hx =>
      cases hx
      refine ⟨T1, _, rfl, .of (s4 _ _ e1), rfl, _, _, rfl, _, _, rfl, rfl, ?_⟩
      exact qw _ x0 x1 x2 x3 x4 x5 x6 x7 x8 x12 y 0 (ordB (spl y)) H4 tw (good0 y) fun H5 s5 => ⟨s4.trans s5, _, _, rfl⟩
    | 1, hx =>
      cases hx
      refine ⟨T2, _, rfl, .of (s4 _ _ e2), rfl, _, _, rfl, _, _, rfl, rfl, ?_⟩
      exact qw _ x0 x1 x2 x3 x4 x5 x6 x7 x8 x12 y 1 (plB (spl y)).isSome H4 tw (good1 y) fun H5 s5 => ⟨s4.trans s5, _, _, rfl⟩
    | i + 2, hx => cases hx
  · rintro σ H4 ⟨s4, y10, y11, rfl⟩
    exact q _ _ _ (sX.trans s4)
theorem odd_strs : ∀ z ∈ ([("" : Str), " ", "-", "a a a a", "a\nb"] : List Str), (∀ c ∈ cs z, c < 128) ∧ z.length ≤ 800 ∧ ordB (spl z) = false ∧ (plB (spl z)).isSome = false := by decide +kernel
theorem bad_str {z : Str} (h : z ∈ ([("" : Str), " ", "-", "a a a a", "a\nb"] : List Str)) : TwD (.str z) ∧ goodB 0 (.str z) = false ∧ goodB 1 (.str z) = false := by
  obtain ⟨h1, h2, h3, h4⟩ := odd_strs z h
  exact ⟨twD_str ⟨h1, h2⟩, (good0 z).trans h3, (good1 z).trans h4⟩
theorem bad_odd {d : PyData} (h : isS d = false) : TwD d ∧ goodB 0 d = false ∧ goodB 1 d = false := by
  refine ⟨fun z e => ?_, ?_, ?_⟩
  · rw [e] at h
    cases h
  · show (readB d).isSome = false
    rw [readB_odd h]
    rfl
  · show (readP d).isSome = false
    rw [readP_odd h]
    rfl
theorem right_tail {fT : Addr} {fdT : FuncData} {cdv : Value} {A : Around} {outer : List Env} {s : Shared} {H : Hp} {E : XK} (T : Fun K "_law_take" "_law_take" sTake fT fdT) (bT : Binds K fdT ["_law_box_here", "_law_many"] []) (gT : mg "_law_take" = some (.ref fT))
    (GU : FnOk P w K mg base CX0 7 fU fdU ["_law_way", "_law_text"] (spTold K)) (gU : mg "_law_told" = some (.ref fU)) (kU : PySem.W.keepIn K (.ref fU) = true) (bU : Binds K fdU ["_law_way", "_law_text"] [])
    (hr : Room 7 (A.deeper (envOfC "_law_right" (defScope sR) s.heap.objs.size f cdv))) :
    ∃ t, PSs (cxOf CX0 P w K mg base nR "_law_right" (defScope sR) f cdv A outer s H E).nox ((defBody sR).drop 5) t ∧
      ∀ (De : Ends) (x1 x2 x3 x4 x5 x6 x8 x9 x10 x11 x12 : Option V) (b lt : Addr) (n : Nat) (T0 T1 : Str) (H1 : Hp), BoxAt H1 b n → n ≤ 90100 → lt ≠ b → H1 lt = some (.lst [.str T0, .str T1]) →
        (∀ H', BoxAt H' b (n + 1) → But b H1 H' → De.rt (.bl true) H') →
        t De [some (.ref b), x1, x2, x3, x4, x5, x6, some (.ref lt), x8, x9, x10, x11, x12] H1 := by
  have GT : FnOk P w K mg base CX0 1 fT fdT ["_law_box_here", "_law_many"] spTake := ok_take T
  have hr1 := hr.mono (show 1 ≤ 7 by decide)
  have hu := Nat.lt_of_succ_lt (hu_of hr)
  refine ⟨_, pss_cons (ps_set (i := 12) scR.nd rfl (.inl rfl) (pe_ix ix_list (pe_lst (pa_cons pe_non (pa_cons pe_int (pa_cons pe_bl (pa_cons (pe_lst (pa_cons (pe_ix ix_list (pv 7) pe_int (fun _ _ => rfl)) pa_nil)) (pa_cons (pe_tup pa_nil) (pa_cons pe_dnewK (pa_cons pe_str (pa_cons pe_str (pa_cons pe_str (pa_cons pe_str (pa_cons pe_str pa_nil))))))))))))
      (pe_call GT hr1 rfl gT T.kp bT .nil pass0 (pa_cons (pv 0) (pa_cons pe_int pa_nil))) (fun _ _ => rfl)))
    (pss_one (ps_ret (pe_and (pe_cmpR (op_eqS hu) (pe_call GU hr rfl gU kU bU .nil pass0 (pa_cons pe_int (pa_cons (pv 12) pa_nil))) (pe_lst (pa_cons pe_str (pa_cons (pv 12) pa_nil))) (nomark _))
      (pe_one (pe_cmpR (op_eqS hu) (pe_call GU hr rfl gU kU bU .nil pass0 (pa_cons pe_int (pa_cons (pv 12) pa_nil))) (pe_lst (pa_cons pe_str (pa_cons (pv 12) pa_nil))) (nomark _)))))), ?_⟩
  intro De x1 x2 x3 x4 x5 x6 x8 x9 x10 x11 x12 b lt n T0 T1 H1 B hn nlb elt q
  refine ⟨_, rfl, lt, _, ((0 : Nat) : Int), _, rfl, rfl, .of elt, atI_nat (j := 0) rfl, (by show 1 ≤ sizeLine; decide), fun l3 h3 => ?_⟩
  have s3 := Same.new (o := .lst [.str T0]) h3
  have e3 : (upd H1 l3 (.lst [.str T0])) l3 = some (.lst [.str T0]) := upd_same
  have n3 := box_ne B h3
  have B3 := box_new (o := .lst [.str T0]) B h3
  generalize upd H1 l3 (.lst [.str T0]) = H3 at s3 e3 B3
  refine ⟨(by show 0 ≤ sizeLine; exact Nat.zero_le _), fun l4 h4 => ?_⟩
  have s4 := Same.new (o := .tup []) h4
  have e4 : (upd H3 l4 (.tup [])) l4 = some (.tup []) := upd_same
  have n4 := box_ne B3 h4
  have B4 := box_new (o := .tup []) B3 h4
  generalize upd H3 l4 (.tup []) = H4 at s4 e4 B4
  intro l5 h5
  have s5 := Same.new (o := .dK []) h5
  have e5 : (upd H4 l5 (.dK [])) l5 = some (.dK []) := upd_same
  have n5 := box_ne B4 h5
  have B5 := box_new (o := .dK []) B4 h5
  generalize upd H4 l5 (.dK []) = H5 at s5 e5 B5
  refine ⟨(by show 11 ≤ sizeLine; exact small_size (by decide)), fun p hp => ?_⟩
  have sp := Same.new (o := .lst [.non, .int 5, .bl true, .ref l3, .ref l4, .ref l5, .str "", .str " ", .str "-", .str "a a a a", .str "a\nb"]) hp
  have ep : (upd H5 p (.lst [.non, .int 5, .bl true, .ref l3, .ref l4, .ref l5, .str "", .str " ", .str "-", .str "a a a a", .str "a\nb"])) p = some (.lst [.non, .int 5, .bl true, .ref l3, .ref l4, .ref l5, .str "", .str " ", .str "-", .str "a a a a", .str "a\nb"]) := upd_same
  have np := box_ne B5 hp
  have B6 := box_new (o := .lst [.non, .int 5, .bl true, .ref l3, .ref l4, .ref l5, .str "", .str " ", .str "-", .str "a a a a", .str "a\nb"]) B5 hp
  generalize upd H5 p (.lst [.non, .int 5, .bl true, .ref l3, .ref l4, .ref l5, .str "", .str " ", .str "-", .str "a a a a", .str "a\nb"]) = H6 at sp ep B6
  have s36 := (s4.trans s5).trans sp
  have s16 := s3.trans s36
  refine ⟨_, rfl, b, 11, n, rfl, B6, by omega, by decide, by decide, fun r H7 r0 r1 B7 k7 => ?_⟩
  obtain ⟨i, rfl, hi⟩ := draw_at (n := 11) r0 r1 rfl
  have e37 := k7 _ _ n3 (s36 _ _ e3)
  have e47 := k7 _ _ n4 ((s5.trans sp) _ _ e4)
  have e57 := k7 _ _ n5 (sp _ _ e5)
  have ep7 := k7 _ _ np ep
  obtain ⟨v, d, hv, hR, hT, g0, g1, hs⟩ : ∃ v d, ([.non, .int 5, .bl true, .ref l3, .ref l4, .ref l5, .str "", .str " ", .str "-", .str "a a a a", .str "a\nb"] : List V)[i]? = some v ∧ Rp K H7 v d ∧ TwD d ∧ goodB 0 d = false ∧ goodB 1 d = false ∧ sameB v = true := by
    match i, hi with
    | 0, _ => exact ⟨_, _, rfl, .non, (bad_odd rfl).1, (bad_odd rfl).2.1, (bad_odd rfl).2.2, rfl⟩
    | 1, _ => exact ⟨_, _, rfl, .int 5, (bad_odd rfl).1, (bad_odd rfl).2.1, (bad_odd rfl).2.2, rfl⟩
    | 2, _ => exact ⟨_, _, rfl, .bl true, (bad_odd rfl).1, (bad_odd rfl).2.1, (bad_odd rfl).2.2, rfl⟩
    | 3, _ => exact ⟨_, _, rfl, .lst e37 (.cons (.str T0) .nil), (bad_odd rfl).1, (bad_odd rfl).2.1, (bad_odd rfl).2.2, rfl⟩
    | 4, _ => exact ⟨_, _, rfl, .tup e47 .nil, (bad_odd rfl).1, (bad_odd rfl).2.1, (bad_odd rfl).2.2, rfl⟩
    | 5, _ => exact ⟨_, .dict [], rfl, .dic e57 .nil .nil, (bad_odd rfl).1, (bad_odd rfl).2.1, (bad_odd rfl).2.2, rfl⟩
    | 6, _ => exact ⟨_, _, rfl, .str "", (bad_str (by simp)).1, (bad_str (by simp)).2.1, (bad_str (by simp)).2.2, rfl⟩
    | 7, _ => exact ⟨_, _, rfl, .str " ", (bad_str (by simp)).1, (bad_str (by simp)).2.1, (bad_str (by simp)).2.2, rfl⟩
    | 8, _ => exact ⟨_, _, rfl, .str "-", (bad_str (by simp)).1, (bad_str (by simp)).2.1, (bad_str (by simp)).2.2, rfl⟩
    | 9, _ => exact ⟨_, _, rfl, .str "a a a a", (bad_str (by simp)).1, (bad_str (by simp)).2.1, (bad_str (by simp)).2.2, rfl⟩
    | 10, _ => exact ⟨_, _, rfl, .str "a\nb", (bad_str (by simp)).1, (bad_str (by simp)).2.1, (bad_str (by simp)).2.2, rfl⟩
  have two : ∀ x ∈ [V.str "text", v], sameB x = true := fun x hx => by
    rcases List.mem_cons.mp hx with rfl | hx
    · rfl
    · rw [List.mem_singleton.mp hx]
      exact hs
  refine ⟨p, _, _, v, rfl, rfl, .of ep7, atI_nat hv, ?_⟩
  refine ⟨_, rfl, 0, v, d, rfl, hR, hT, fun ok => absurd ok (by rw [g0]; decide), fun _ q8 H8 nq8 s8 e8 => ?_⟩
  refine ⟨_, rfl, (by show 2 ≤ sizeLine; decide), fun p9 h9 => ?_⟩
  have s9 := Same.new (o := .lst [.str "text", v]) h9
  refine ⟨q8, p9, _, rfl, rfl, .of (s9 _ _ e8), .of upd_same, two, _, rfl, iteT ?_⟩
  have s79 := s8.trans s9
  generalize upd H8 p9 (.lst [.str "text", v]) = H9 at s79
  refine ⟨_, rfl, 1, v, d, rfl, rp_same s79 _ _ hR, hT, fun ok => absurd ok (by rw [g1]; decide), fun _ qa Ha nqa sa ea => ?_⟩
  refine ⟨_, rfl, (by show 2 ≤ sizeLine; decide), fun pb hb => ?_⟩
  have sb := Same.new (o := .lst [.str "text", v]) hb
  refine ⟨qa, pb, _, rfl, rfl, .of (sb _ _ ea), .of upd_same, two, ?_⟩
  have sz := (s79.trans sa).trans sb
  exact q _ (B7.keep fun o e => sz _ _ e) (((But.same s16).trans k7).trans (But.same sz))
end
end G
set_option Elab.async false
set_option linter.all false
set_option maxRecDepth 100000
set_option maxHeartbeats 4000000
/-! MY: the texts that the law makes are read as what they were made of. -/
namespace G
open PySem PySem.Spec PyProof.Rows L2 NdefX StX PySem.NumText
/-- a text that the law bends -/
structure Tm (z : Str) : Prop where
  asc : N3.Asc z
  pos : 1 ≤ z.length
  len : z.length ≤ 40
theorem Tm.tw {z : Str} (h : Tm z) : Tw z := ⟨h.asc, by have := h.len; omega⟩
theorem name_B {z : Str} (h : NameZ z) : nameB z = true := by
  unfold nameB
  rw [decide_eq_true h.2.1, decide_eq_true h.2.2]
  refine List.all_eq_true.mpr fun c hc => ?_
  obtain ⟨h1, h2⟩ := h.1 c hc
  refine decide_eq_true ?_
  have e : abc.cps.toList = (List.range 26).map (97 + ·) := by decide +kernel
  rw [e]
  exact List.mem_map.mpr ⟨c - 97, List.mem_range.mpr (by omega), by omega⟩
theorem fld_B {f : Fld} (h : f.Ok) : fldB f.tx = true := by
  unfold fldB
  rw [h.bare]
  exact name_B h.1
theorem fld_in {f : Fld} (h : f.Ok) {c : Nat} (hc : c ∈ cs f.tx) : c = 45 ∨ (97 ≤ c ∧ c ≤ 122) := by
  rw [h.2] at hc
  rcases List.mem_append.mp hc with hc | hc
  · left
    cases e : f.neg with
    | true =>
      rw [e] at hc
      exact List.mem_singleton.mp hc
    | false =>
      rw [e] at hc
      cases hc
  · exact .inr (h.1.1 _ hc)
theorem fld_wd {f : Fld} (h : f.Ok) : Wd f.tx := ⟨fun c hc => by have := fld_in h hc; omega, by have := h.len; omega⟩
abbrev tws (fs : List Fld) : List Str := fs.map fun f => f.tx
theorem tws_in {fs : List Fld} (h : ∀ f ∈ fs, f.Ok) : ∀ u ∈ tws fs, ∃ f : Fld, f.Ok ∧ u = f.tx := fun u hu => by
  obtain ⟨f, hf, rfl⟩ := List.mem_map.mp hu
  exact ⟨f, h f hf, rfl⟩
theorem tws_wd {fs : List Fld} (h : ∀ f ∈ fs, f.Ok) : ∀ u ∈ tws fs, Wd u := fun u hu => by
  obtain ⟨f, hf, rfl⟩ := tws_in h u hu
  exact fld_wd hf
theorem tws_ord {fs : List Fld} (h : ∀ f ∈ fs, f.Ok) (h3 : fs.length ≤ 3) : ordB (tws fs) = true := by
  unfold ordB
  rw [List.length_map, decide_eq_true h3, Bool.true_and]
  refine List.all_eq_true.mpr fun u hu => ?_
  obtain ⟨f, hf, rfl⟩ := tws_in h u hu
  exact fld_B hf
theorem spl_of {ws : List Str} (h1 : ws ≠ []) (h : ∀ u ∈ ws, 32 ∉ cs u) : spl (Txt.join " " ws) = ws := N3.split_is h1 h (cs_join ws).symm
theorem spl_tws {fs : List Fld} (h : ∀ f ∈ fs, f.Ok) (h1 : 1 ≤ fs.length) : spl (Txt.join " " (tws fs)) = tws fs := by
  refine spl_of (fun z => ?_) fun u hu hc => ?_
  · have := congrArg List.length z
    rw [List.length_map] at this
    simp at this
    rw [this] at h1
    simp at h1
  · obtain ⟨f, hf, rfl⟩ := tws_in h u hu
    have := fld_in hf hc
    omega
theorem wt_tws : ∀ {fs : List Fld}, (∀ f ∈ fs, f.Ok) → wt (tws fs) ≤ 10 * fs.length
  | [], _ => by simp [wt]
  | f :: fs, h => by
    have h1 := (h f List.mem_cons_self).len
    have h2 := wt_tws (fs := fs) fun y hy => h y (List.mem_cons_of_mem _ hy)
    unfold wt at h2 ⊢
    show ((f.tx :: tws fs).map (·.length)).sum + (f.tx :: tws fs).length ≤ _
    rw [List.map_cons, List.sum_cons, List.length_cons, List.length_cons]
    omega
theorem join_pos {w : Str} {ws : List Str} (h : 1 ≤ w.length) : 1 ≤ (Txt.join " " (w :: ws)).length := by
  rw [← cs_len, cs_join]
  rw [← cs_len] at h
  cases ws with
  | nil => exact h
  | cons y r =>
    show 1 ≤ (cs w ++ ([32] ++ TL.joinL [32] ((y :: r).map cs))).length
    rw [List.length_append]
    omega
theorem tws_tm {fs : List Fld} (h : ∀ f ∈ fs, f.Ok) (h1 : 1 ≤ fs.length) (h3 : fs.length ≤ 3) : Tm (Txt.join " " (tws fs)) := by
  refine ⟨join_asc fun u hu => (tws_wd h u hu).asc, ?_, ?_⟩
  · cases fs with
    | nil => cases h1
    | cons f r =>
      refine join_pos ?_
      have e := (h f List.mem_cons_self)
      have := congrArg List.length e.2
      rw [cs_len, List.length_append, cs_len] at this
      have h8 := e.1.2.1
      show 1 ≤ f.tx.length
      omega
  · have := wt_tws h
    have := join_len (tws fs)
    omega
theorem numL_ok : ∀ m, m < 1000 → N3.okD (TL.numL m) = true ∧ digitsVal (TL.numL m) = m ∧ (TL.numL m).length ≤ 3 := by decide +kernel
theorem okD_digs {l : List Nat} (h : N3.okD l = true) : N3.digs l = true ∧ 1 ≤ l.length := by
  unfold N3.okD at h
  simp only [Bool.and_eq_true, decide_eq_true_eq] at h
  exact ⟨h.2.2, h.1.1⟩
theorem digs_head {l : List Nat} (h : N3.digs l = true) : l.head? ≠ some 45 := fun z => by
  cases l with
  | nil => cases z
  | cons x q =>
    have e : x = 45 := Option.some.inj z
    have := N3.digs_all h x (by simp)
    omega
theorem body_digs {l : List Nat} (h : N3.digs l = true) : N3.body l = l := if_neg (digs_head h)
/-- a number that is shown is read -/
theorem num_shown {n : Int} (h1 : -999 ≤ n) (h2 : n ≤ 999) : N3.numO (N3.shown n) = some n ∧ (N3.shown n).length ≤ 4 ∧ (∀ c ∈ cs (N3.shown n), c = 45 ∨ (48 ≤ c ∧ c ≤ 57)) := by
  by_cases h : 0 ≤ n
  · obtain ⟨m, rfl⟩ := Int.eq_ofNat_of_zero_le h
    obtain ⟨k1, k2, k3⟩ := numL_ok m (by omega)
    obtain ⟨kd, kp⟩ := okD_digs k1
    have ec : cs (N3.shown (m : Int)) = TL.numL m := N3.cs_shown m
    have hv : N3.valN (N3.shown (m : Int)) = m := by
      have := N3.val_pos (w := N3.shown (m : Int)) (by rw [ec]; exact digs_head kd) (by rw [ec]; exact kd) (by rw [ec]; exact kp) (by rw [ec]; omega)
      rw [this, ec, k2]
    have ok : N3.okN (cs (N3.shown (m : Int))) = true := by
      unfold N3.okN
      rw [ec, body_digs kd, k1, decide_eq_false (show ¬ TL.numL m = [45, 48] from fun z => digs_head kd (by rw [z]; rfl))]
      rfl
    refine ⟨?_, ?_, fun c hc => ?_⟩
    · unfold N3.numO
      rw [hv, if_pos ⟨ok, h1, h2⟩]
    · rw [← cs_len, ec]
      omega
    · rw [ec] at hc
      exact .inr (N3.digs_all kd c hc)
  · obtain ⟨m, rfl⟩ : ∃ m : Nat, n = -((m + 1 : Nat) : Int) := ⟨n.natAbs - 1, by omega⟩
    obtain ⟨k1, k2, k3⟩ := numL_ok (m + 1) (by omega)
    obtain ⟨kd, kp⟩ := okD_digs k1
    have ec : cs (N3.shown (-((m + 1 : Nat) : Int))) = 45 :: TL.numL (m + 1) := N3.cs_shown_neg m
    have hv : N3.valN (N3.shown (-((m + 1 : Nat) : Int))) = -((m + 1 : Nat) : Int) := by
      have := N3.val_neg (w := N3.shown (-((m + 1 : Nat) : Int))) ec kd kp (by omega)
      rw [this, k2]
    have eb : N3.body (cs (N3.shown (-((m + 1 : Nat) : Int)))) = TL.numL (m + 1) := by
      rw [ec]
      exact if_pos rfl
    have ok : N3.okN (cs (N3.shown (-((m + 1 : Nat) : Int)))) = true := by
      unfold N3.okN
      rw [eb, k1, ec, decide_eq_false]
      · rfl
      · intro z
        have z1 : TL.numL (m + 1) = [48] := List.tail_eq_of_cons_eq z
        rw [z1] at k2
        have z2 : digitsVal [48] = 0 := by decide +kernel
        rw [z2] at k2
        omega
    refine ⟨?_, ?_, fun c hc => ?_⟩
    · unfold N3.numO
      rw [hv, if_pos ⟨ok, h1, h2⟩]
    · rw [← cs_len, ec, List.length_cons]
      omega
    · rw [ec] at hc
      rcases List.mem_cons.mp hc with hc | hc
      · exact .inl hc
      · exact .inr (N3.digs_all kd c hc)
abbrev plT (z : Str) (n : Int) : Str := Txt.join " " ["plus", z, N3.shown n]
theorem plus_add (z i : Str) : (("plus " : Str) ++ z) ++ (" " : Str) ++ i = Txt.join " " ["plus", z, i] := by
  rw [← plus_join]
  have e : Str.empty ++ ("plus " : Str) = ("plus " : Str) := by decide +kernel
  rw [e]
theorem pl_in {z : Str} {n : Int} (hz : NameZ z) (h1 : -999 ≤ n) (h2 : n ≤ 999) : ∀ u ∈ (["plus", z, N3.shown n] : List Str), (∀ c ∈ cs u, c < 128 ∧ c ≠ 32) := by
  intro u hu c hc
  rcases List.mem_cons.mp hu with rfl | hu
  · have : ∀ c ∈ cs ("plus" : Str), c < 128 ∧ c ≠ 32 := by decide +kernel
    exact this c hc
  · rcases List.mem_cons.mp hu with rfl | hu
    · have := hz.1 c hc
      omega
    · rw [List.mem_singleton.mp hu] at hc
      have := (num_shown h1 h2).2.2 c hc
      omega
theorem spl_pl {z : Str} {n : Int} (hz : NameZ z) (h1 : -999 ≤ n) (h2 : n ≤ 999) : spl (plT z n) = (["plus", z, N3.shown n] : List Str) := spl_of (by simp) fun u hu hc => (pl_in hz h1 h2 u hu 32 hc).2 rfl
theorem plB_pl {z : Str} {n : Int} (hz : NameZ z) (h1 : -999 ≤ n) (h2 : n ≤ 999) : plB (spl (plT z n)) = some (z, n) := by
  rw [spl_pl hz h1 h2]
  show (if ("plus" : Str) = "plus" ∧ nameB z = true then (N3.numO (N3.shown n)).map fun k => (z, k) else none) = _
  rw [if_pos ⟨rfl, name_B hz⟩, (num_shown h1 h2).1]
  rfl
theorem pl_tm {z : Str} {n : Int} (hz : NameZ z) (h1 : -999 ≤ n) (h2 : n ≤ 999) : Tm (plT z n) := by
  refine ⟨join_asc fun u hu c hc => (pl_in hz h1 h2 u hu c hc).1, join_pos (by decide), ?_⟩
  have h := join_len ["plus", z, N3.shown n]
  have h4 := (num_shown h1 h2).2.1
  have h8 := hz.2.2
  have e : wt ["plus", z, N3.shown n] = ("plus" : Str).length + (z.length + ((N3.shown n).length + 0)) + 3 := rfl
  have e4 : ("plus" : Str).length = 4 := rfl
  show (Txt.join " " ["plus", z, N3.shown n]).length ≤ 40
  omega
theorem str_pos {y : Str} (h : y ≠ "") : 1 ≤ y.length := by
  rcases Nat.eq_zero_or_pos y.length with e | e
  · exfalso
    refine h (cs_inj ?_)
    have := cs_len y
    rw [e] at this
    rw [List.eq_nil_of_length_eq_zero this]
    rfl
  · exact e
theorem byW_of {C a t : Addr} {H : Hp} {fs : List Fld} (h : ByAt C H a t fs) : ByW C H a t (tws fs) := by
  obtain ⟨dx, h1, h2⟩ := h
  refine ⟨dx, h1, h2.trans ?_⟩
  rw [List.map_map]
  rfl
end G
set_option Elab.async false
set_option linter.all false
set_option maxRecDepth 100000
set_option maxHeartbeats 8000000
/-! RH: _law_right. -/
namespace G
open PySem PySem.Spec PyProof.Rows L2 NdefX StX
def spRight : Sp := fun vs H Q _ => ∃ (b nl : Addr) (n : Nat) (ns : List Str), vs = [.ref b, .ref nl] ∧ BoxAt H b n ∧ n ≤ 70000 ∧ H nl = some (.lst (ns.map V.str)) ∧ 1 ≤ ns.length ∧ ns.length ≤ 100 ∧ (∀ y ∈ ns, NameZ y) ∧ nl ≠ b ∧
  ∀ H', BoxAt H' b (n + 60) → But b H H' → Q (.bl true) H'
section
variable {P : Program} {w : World} {K : PySem.W.Frag} {mg : Str → Option Value} {base : Heap} {f fU fT : Addr} {fdU fdT : FuncData}
theorem right_turn {fO fP fB : Addr} {fdO fdP fdB : FuncData} {cdv : Value} {A : Around} {outer : List Env} {s : Shared} {H : Hp} {E : XK} (T : Fun K "_law_take" "_law_take" sTake fT fdT) (bT : Binds K fdT ["_law_box_here", "_law_many"] []) (gT : mg "_law_take" = some (.ref fT))
    (GU : FnOk P w K mg base CX0 7 fU fdU ["_law_way", "_law_text"] (spTold K)) (gU : mg "_law_told" = some (.ref fU)) (kU : PySem.W.keepIn K (.ref fU) = true) (bU : Binds K fdU ["_law_way", "_law_text"] [])
    (GO : FnOk P w K mg base CX0 2 fO fdO ["_law_text"] spLOrd) (gO : mg "_law_is_order" = some (.ref fO)) (kO : PySem.W.keepIn K (.ref fO) = true) (bO : Binds K fdO ["_law_text"] [])
    (GP : FnOk P w K mg base CX0 2 fP fdP ["_law_text"] spLPlus) (gP : mg "_law_is_plus" = some (.ref fP)) (kP : PySem.W.keepIn K (.ref fP) = true) (bP : Binds K fdP ["_law_text"] [])
    (GB : FnOk P w K mg base CX0 2 fB fdB ["_law_box_here", "_law_text"] spBent) (gB : mg "_law_bent" = some (.ref fB)) (kB : PySem.W.keepIn K (.ref fB) = true) (bB : Binds K fdB ["_law_box_here", "_law_text"] [])
    (hr : Room 7 (A.deeper (envOfC "_law_right" (defScope sR) s.heap.objs.size f cdv))) :
    ∃ t, PSs (cxOf CX0 P w K mg base nR "_law_right" (defScope sR) f cdv A outer s H E).nox loopT t ∧
      ∀ (De : Ends) (x1 x2 x3 x4 x5 x6 x9 x10 x11 x12 : Option V) (i : Int) (b lt : Addr) (n : Nat) (T0 T1 : Str) (H1 : Hp), BoxAt H1 b n → n ≤ 80000 → lt ≠ b → H1 lt = some (.lst [.str T0, .str T1]) → Tm T0 → Tm T1 →
        (∀ (y9 y10 y11 : Option V) (H' : Hp), BoxAt H' b (n + 9) → But b H1 H' → De.nx [some (.ref b), x1, x2, x3, x4, x5, x6, some (.ref lt), some (.int i), y9, y10, y11, x12] H') →
        t De [some (.ref b), x1, x2, x3, x4, x5, x6, some (.ref lt), some (.int i), x9, x10, x11, x12] H1 := by
  have GT : FnOk P w K mg base CX0 1 fT fdT ["_law_box_here", "_law_many"] spTake := ok_take T
  have hr1 := hr.mono (show 1 ≤ 7 by decide)
  have hr2 := hr.mono (show 2 ≤ 7 by decide)
  obtain ⟨ti, pi, qi⟩ := right_inner (P := P) (w := w) (K := K) (mg := mg) (base := base) (outer := outer) (H := H) (E := E) (cdv := cdv) (s := s) (f := f) GU gU kU bU GO gO kO bO GP gP kP bP hr
  refine ⟨_, pss_cons (ps_set (i := 9) scR.nd rfl (.inl rfl) (pe_call GB hr2 rfl gB kB bB .nil pass0 (pa_cons (pv 0) (pa_cons (pe_ix ix_list (pv 7) (pe_call GT hr1 rfl gT T.kp bT .nil pass0 (pa_cons (pv 0) (pa_cons pe_int pa_nil))) (fun _ _ => rfl)) pa_nil))))
    (pss_cons (ps_if (PW.pt (pw_and (pt_cmpR op_gt (pv 8) pe_int (nomark _)) (pw_and1 (pt_cmpR op_ne (pv 9) pe_str (nomark _))))) (pss_one (ps_set (i := 9) scR.nd rfl (.inl rfl) (pe_call GB hr2 rfl gB kB bB .nil pass0 (pa_cons (pv 0) (pa_cons (pv 9) pa_nil))))) pss_nil) pi), ?_⟩
  intro De x1 x2 x3 x4 x5 x6 x9 x10 x11 x12 i b lt n T0 T1 H1 B hn nlb elt m0 m1 q
  refine ⟨_, rfl, _, rfl, _, rfl, b, 2, n, rfl, B, by omega, by decide, by decide, fun r H2 r0 r1 B2 k2 => ?_⟩
  obtain ⟨j, rfl, hj⟩ := draw_at (n := 2) r0 r1 rfl
  obtain ⟨T, hT, tm⟩ : ∃ T : Str, ([.str T0, .str T1] : List V)[j]? = some (.str T) ∧ Tm T := by
    match j, hj with
    | 0, _ => exact ⟨_, rfl, m0⟩
    | 1, _ => exact ⟨_, rfl, m1⟩
  have l40 := tm.len
  refine ⟨lt, _, _, .str T, rfl, rfl, .of (k2 _ _ nlb elt), atI_nat hT, b, n + 1, T, rfl, B2, by omega, tm.asc, tm.pos, by omega, fun y H3 ay ly B3 k3 => ?_⟩
  have k13 := k2.trans k3
  have fin : ∀ (z : Str) (H4 : Hp), N3.Asc z → z.length ≤ 800 → BoxAt H4 b (n + 9) → But b H1 H4 → ti De [some (.ref b), x1, x2, x3, x4, x5, x6, some (.ref lt), some (.int i), some (.str z), x10, x11, x12] H4 := fun z H4 az lz B4 k4 =>
    qi De _ x1 x2 x3 x4 x5 x6 _ _ x10 x11 x12 z H4 ⟨az, lz⟩ fun y10 y11 H5 s5 => q _ _ _ H5 (B4.keep fun o e => s5 _ _ e) (k4.trans (But.same s5))
  have one := fin y H3 ay (by omega) (B3.mono (by omega)) k13
  refine ⟨_, rfl, _, _, rfl, rfl, _, rfl, ?_⟩
  refine ite2 (fun h => ?_) (fun h => one)
  refine ⟨_, rfl, rfl, _, rfl, ?_⟩
  by_cases hy : y = ""
  · refine ifN (by rw [hy]; decide) one
  · refine ifY (by rw [decide_eq_false fun e => hy (V.str.inj e)]; rfl) ?_
    refine ⟨_, rfl, _, rfl, b, n + 5, y, rfl, B3, by omega, ay, str_pos hy, by omega, fun z H4 az lz B4 k4 => ?_⟩
    exact fin z H4 az (by omega) B4 (k13.trans k4)
theorem right_loop {fO fP fB : Addr} {fdO fdP fdB : FuncData} {cdv : Value} {A : Around} {outer : List Env} {s : Shared} {H : Hp} {E : XK} (T : Fun K "_law_take" "_law_take" sTake fT fdT) (bT : Binds K fdT ["_law_box_here", "_law_many"] []) (gT : mg "_law_take" = some (.ref fT))
    (GU : FnOk P w K mg base CX0 7 fU fdU ["_law_way", "_law_text"] (spTold K)) (gU : mg "_law_told" = some (.ref fU)) (kU : PySem.W.keepIn K (.ref fU) = true) (bU : Binds K fdU ["_law_way", "_law_text"] [])
    (GO : FnOk P w K mg base CX0 2 fO fdO ["_law_text"] spLOrd) (gO : mg "_law_is_order" = some (.ref fO)) (kO : PySem.W.keepIn K (.ref fO) = true) (bO : Binds K fdO ["_law_text"] [])
    (GP : FnOk P w K mg base CX0 2 fP fdP ["_law_text"] spLPlus) (gP : mg "_law_is_plus" = some (.ref fP)) (kP : PySem.W.keepIn K (.ref fP) = true) (bP : Binds K fdP ["_law_text"] [])
    (GB : FnOk P w K mg base CX0 2 fB fdB ["_law_box_here", "_law_text"] spBent) (gB : mg "_law_bent" = some (.ref fB)) (kB : PySem.W.keepIn K (.ref fB) = true) (bB : Binds K fdB ["_law_box_here", "_law_text"] []) (mr : mg "range" = none)
    (hr : Room 7 (A.deeper (envOfC "_law_right" (defScope sR) s.heap.objs.size f cdv))) :
    ∃ t, PSs (cxOf CX0 P w K mg base nR "_law_right" (defScope sR) f cdv A outer s H E).nox ((defBody sR).drop 4) t ∧
      ∀ (De : Ends) (x1 x2 x3 x4 x5 x6 x8 x9 x10 x11 x12 : Option V) (b lt : Addr) (n : Nat) (T0 T1 : Str) (H1 : Hp), BoxAt H1 b n → n ≤ 75000 → lt ≠ b → H1 lt = some (.lst [.str T0, .str T1]) → Tm T0 → Tm T1 →
        (∀ H', BoxAt H' b (n + 37) → But b H1 H' → De.rt (.bl true) H') →
        t De [some (.ref b), x1, x2, x3, x4, x5, x6, some (.ref lt), x8, x9, x10, x11, x12] H1 := by
  obtain ⟨tb, pb, qb⟩ := right_turn (P := P) (w := w) (K := K) (mg := mg) (base := base) (outer := outer) (H := H) (E := E) (cdv := cdv) (s := s) (f := f) T bT gT GU gU kU bU GO gO kO bO GP gP kP bP GB gB kB bB hr
  obtain ⟨tl, pl, ql⟩ := right_tail (P := P) (w := w) (K := K) (mg := mg) (base := base) (outer := outer) (H := H) (E := E) (cdv := cdv) (s := s) (f := f) T bT gT GU gU kU bU hr
  refine ⟨_, pss_cons (ps_for PassesOwn.never rfl (pi_range1 rfl mr (pa_cons pe_int pa_nil)) (pg_name (i := 8) scR.nd rfl (.inl rfl)) pb) pl, ?_⟩
  intro De x1 x2 x3 x4 x5 x6 x8 x9 x10 x11 x12 b lt n T0 T1 H1 B hn nlb elt m0 m1 q
  refine ⟨4, rfl, by decide, by decide, ?_⟩
  refine for_range (lo := 0) (n := 4) (fun i σ H2 => ∃ y8 y9 y10 y11 : Option V, σ = [some (.ref b), x1, x2, x3, x4, x5, x6, some (.ref lt), y8, y9, y10, y11, x12] ∧ BoxAt H2 b (n + 9 * i) ∧ But b H1 H2) ?_ ?_ ?_
  · exact ⟨_, _, _, _, rfl, B, But.refl _ _⟩
  · rintro i σ H2 hi ⟨y8, y9, y10, y11, rfl, B2, k2⟩
    refine qb _ x1 x2 x3 x4 x5 x6 y9 y10 y11 x12 _ b lt (n + 9 * i) T0 T1 H2 B2 (by omega) nlb (k2 _ _ nlb elt) m0 m1 fun z9 z10 z11 H3 B3 k3 => ?_
    exact ⟨_, _, _, _, rfl, B3.mono (by omega), k2.trans k3⟩
  · rintro σ H2 ⟨y8, y9, y10, y11, rfl, B2, k2⟩
    exact ql De x1 x2 x3 x4 x5 x6 y8 y9 y10 y11 x12 b lt (n + 9 * 4) T0 T1 H2 B2 (by omega) nlb (k2 _ _ nlb elt) fun H' B' k' => q H' (B'.mono (by omega)) (k2.trans k')
end
end G
set_option Elab.async false
set_option linter.all false
set_option maxRecDepth 100000
set_option maxHeartbeats 8000000
/-! RK: _law_right, whole. -/
namespace G
open PySem PySem.Spec PyProof.Rows L2 NdefX StX
theorem nf_self (K : PySem.W.Frag) (C : Addr) : PySem.W.notFirst K C (.ref C) = true := by
  unfold PySem.W.notFirst
  rw [beq_self_eq_true]
  rfl
theorem passL0 {X : Cx} (σ : L2.St) : PassesAt (L2.CX X.prog X.w) X σ E0 := fun pins H s e s' I c => passL pins σ H s e s' I c
section
variable {P : Program} {w : World} {K : PySem.W.Frag} {mg : Str → Option Value} {base : Heap} {f fU fT : Addr} {fd fdU fdT : FuncData}
theorem ok_right {fO fP fB fF fD fN fI fS fV fE fG C D CT CN CI p1 g1 p2 g2 : Addr} {fdO fdP fdB fdF fdD fdN fdS fdV fdE fdG fd1 fd2 : FuncData} (F : Fun K "_law_right" "_law_right" sR f fd)
    (T : Fun K "_law_take" "_law_take" sTake fT fdT) (bT : Binds K fdT ["_law_box_here", "_law_many"] []) (gT : mg "_law_take" = some (.ref fT))
    (GU : FnOk P w K mg base CX0 7 fU fdU ["_law_way", "_law_text"] (spTold K)) (gU : mg "_law_told" = some (.ref fU)) (kU : PySem.W.keepIn K (.ref fU) = true) (bU : Binds K fdU ["_law_way", "_law_text"] [])
    (GO : FnOk P w K mg base CX0 2 fO fdO ["_law_text"] spLOrd) (gO : mg "_law_is_order" = some (.ref fO)) (kO : PySem.W.keepIn K (.ref fO) = true) (bO : Binds K fdO ["_law_text"] [])
    (GP : FnOk P w K mg base CX0 2 fP fdP ["_law_text"] spLPlus) (gP : mg "_law_is_plus" = some (.ref fP)) (kP : PySem.W.keepIn K (.ref fP) = true) (bP : Binds K fdP ["_law_text"] [])
    (GB : FnOk P w K mg base CX0 2 fB fdB ["_law_box_here", "_law_text"] spBent) (gB : mg "_law_bent" = some (.ref fB)) (kB : PySem.W.keepIn K (.ref fB) = true) (bB : Binds K fdB ["_law_box_here", "_law_text"] []) (mr : mg "range" = none)
    (GF : FnOk P w K mg base CX0 2 fF fdF ["_law_box_here", "_law_names_here", "_law_most"] spFields) (gF : mg "_law_fields" = some (.ref fF)) (kF : PySem.W.keepIn K (.ref fF) = true) (bF : Binds K fdF ["_law_box_here", "_law_names_here", "_law_most"] [])
    (GD : FnOk P w K mg base CX0 5 fD fdD ["_law_fields_here"] (spOrder C)) (gD : mg "_law_order" = some (.ref fD)) (kD : PySem.W.keepIn K (.ref fD) = true) (bD : Binds K fdD ["_law_fields_here"] [])
    (GN : FnOk P w K mg base CX0 2 fN fdN ["_law_box_here"] spNumber) (gN : mg "_law_number" = some (.ref fN)) (kN : PySem.W.keepIn K (.ref fN) = true) (bN : Binds K fdN ["_law_box_here"] [])
    (M : Mk K D fI) (GI : FnR P w K mg base (L2N.CX P w) 4 fI (spPlIX D CN CI)) (gP2 : mg "Plus" = some (.ref D)) (gBy : mg "By" = some (.ref C))
    (hS : PySem.W.findIn K (.ref C) "__str__" = some (some (.ref fS))) (iS : PySem.W.isFn K (.ref fS) = true) (bS : Binds K fdS ["self"] []) (GS : FnOk P w K mg base CX0 1 fS fdS ["self"] (spByS C))
    (hV : PySem.W.findIn K (.ref D) "__str__" = some (some (.ref fV))) (iV : PySem.W.isFn K (.ref fV) = true) (bV : Binds K fdV ["self"] []) (GV : FnOk P w K mg base CX0 1 fV fdV ["self"] (spPlS D))
    (eE : EqO K C fE) (GE : FnOk P w K mg base CX0 1 fE fdE ["self", "other"] (spByE C)) (bE : Binds K fdE ["self", "other"] [])
    (eG : EqO K D fG) (GG : FnOk P w K mg base CX0 1 fG fdG ["self", "other"] (spPlE D)) (bG : Binds K fdG ["self", "other"] [])
    (M1 : SMet K C "read" p1 g1) (R1 : FnOk P w K mg base (L2.CX P w) 6 g1 fd1 ["text"] (spReadB K C CT)) (b1 : Binds K fd1 ["text"] []) (M2 : SMet K D "read" p2 g2) (R2 : FnOk P w K mg base (L2.CX P w) 6 g2 fd2 ["text"] (spReadP K D CT)) (b2 : Binds K fd2 ["text"] [])
    (ml : mg "len" = none) (ms : mg "str" = none) : FnOk P w K mg base CX0 8 f fd ["_law_box_here", "_law_names_here"] spRight := by
  have GT : FnOk P w K mg base CX0 1 fT fdT ["_law_box_here", "_law_many"] spTake := ok_take T
  refine F.ok scR (fun vs H Q E h => ?_) (fun cdv A outer s H vs Q E hr h => ?_)
  · obtain ⟨b, nl, n, ns, rfl, _⟩ := h
    rfl
  · obtain ⟨b, nl, n, ns, rfl, B, hn, hnl, l1, l100, hz, nnb, q⟩ := h
    have hr1 := hr.mono (show 1 ≤ 7 by decide)
    have hr2 := hr.mono (show 2 ≤ 7 by decide)
    have hr3 := hr.mono (show 3 ≤ 7 by decide)
    have hr5 := hr.mono (show 5 ≤ 7 by decide)
    have hr6 := hr.mono (show 6 ≤ 7 by decide)
    have hu := Nat.lt_of_succ_lt (hu_of hr)
    obtain ⟨tl, pl, ql⟩ := right_loop (P := P) (w := w) (K := K) (mg := mg) (base := base) (outer := outer) (H := H) (E := E) (cdv := cdv) (s := s) (f := f) T bT gT GU gU kU bU GO gO kO bO GP gP kP bP GB gB kB bB mr hr
    refine ⟨_, pss_cons (ps_par3 (i := 2) (j := 3) (l := 4) (by rfl) scR.nd rfl rfl rfl (by decide) (by decide) (by decide) rfl rfl rfl (pa_cons (pe_call GF hr2 rfl gF kF bF .nil pass0 (pa_cons (pv 0) (pa_cons (pv 1) (pa_cons pe_int pa_nil))))
        (pa_cons (pe_ix ix_list (pv 1) (pe_call GT hr1 rfl gT T.kp bT .nil pass0 (pa_cons (pv 0) (pa_cons (pe_callB call_len_seq (by rfl) ml PySem.boot_len (pa_cons (pv 1) pa_nil)) pa_nil))) (fun _ _ => rfl)) (pa_cons (pe_call GN hr2 rfl gN kN bN .nil pass0 (pa_cons (pv 0) pa_nil)) pa_nil))) (by rfl))
      (pss_cons (ps_par (i := 5) (j := 6) (by rfl) scR.nd rfl rfl (by decide) rfl rfl (pa_cons (pe_call GD hr5 rfl gD kD bD .nil pass0 (pa_cons (pv 2) pa_nil)) (pa_cons (pe_makeX (E := fun _ => E0) M GI hr5 rfl gP2 (fun σ => passN0 σ) (pa_cons (pv 3) (pa_cons (pv 4) pa_nil))) pa_nil)) (by rfl))
      (pss_cons (ps_set (i := 7) scR.nd rfl (.inl rfl) (pe_lst (pa_cons (pe_join pe_str (pv 2)) (pa_cons (pe_op op_add_str (pe_op op_add_str (pe_op op_add_str pe_str (pv 3)) pe_str) (pe_callTy call_str_int (by rfl) ms (by decide +kernel) (pa_cons (pv 4) pa_nil))) pa_nil))))
      (pss_cons (ps_if (PW.pt (pw_or (pt_cmpR (op_neS hu) (pe_lst (pa_cons (pe_callTy (r := rStrB C (spByS C) E0) (call_strB hS iS bS GS hr3) (by rfl) ms (by decide +kernel) (pa_cons (pv 5) pa_nil)) (pa_cons (pe_callTy (r := rStrB D (spPlS D) E0) (call_strB hV iV bV GV hr3) (by rfl) ms (by decide +kernel) (pa_cons (pv 6) pa_nil)) pa_nil))) (pv 7) (nomark _))
        (pw_or (pt_not (pt_cmpR (r := rEqB K C (spByE C) E0 true) (op_eqB eE bE GE hr1 pass0) (pe_smeth (E := fun _ => E0) (pe_glob (v := .ref C) rfl gBy rfl) M1 R1 hr6 b1 (fun σ => passL0 σ) (pa_cons (pe_ix ix_list (pv 7) pe_int (fun _ _ => rfl)) pa_nil)) (pv 5) (nomark _)))
          (pw_or1 (pt_not (pt_cmpR (r := rEqB K D (spPlE D) E0 true) (op_eqB eG bG GG hr1 pass0) (pe_smeth (E := fun _ => E0) (pe_glob (v := .ref D) rfl gP2 rfl) M2 R2 hr6 b2 (fun σ => passL0 σ) (pa_cons (pe_ix ix_list (pv 7) pe_int (fun _ _ => rfl)) pa_nil)) (pv 6) (nomark _)))))))
        (pss_one (ps_ret pe_bl)) pss_nil) pl))), ?_⟩
    refine ⟨_, rfl, _, rfl, b, nl, 3, n, ns, rfl, by decide, by decide, B, by omega, hnl, l1, l100, hz, nnb, fun t H1 fs nt et f1 f3 okf B1 k1 => ?_⟩
    have en1 := k1 _ _ nnb hnl
    refine ⟨_, rfl, _, rfl, _, rfl, nl, _, rfl, .inl (.of en1), b, _, n + 7, rfl, B1, by omega, ?_, ?_, fun r H2 r0 r1 B2 k2 => ?_⟩
    · rw [List.length_map]
      omega
    · rw [List.length_map]
      omega
    obtain ⟨h, rfl, hh⟩ := draw_at (n := ns.length) r0 r1 (by rw [List.length_map])
    have en2 := k2 _ _ nnb en1
    have ntb : t ≠ b := fun z => by
      obtain ⟨_, _, _, eb, _⟩ := B1
      rw [z, eb] at et
      cases et
    have nz : NameZ ns[h] := hz _ (List.getElem_mem hh)
    generalize ez : ns[h] = z at nz
    refine ⟨nl, _, _, .str z, rfl, rfl, .of en2, atI_nat (by rw [List.getElem?_map, List.getElem?_eq_getElem hh, ez]; rfl), ?_⟩
    refine ⟨_, rfl, b, n + 8, rfl, B2, by omega, fun i H3 i1 i2 B3 k3 => ⟨_, _, _, rfl, ?_⟩⟩
    have et3 := (k2.trans k3) _ _ ntb et
    have k03 := (k1.trans k2).trans k3
    refine ⟨_, rfl, t, fs, rfl, et3, f1, f3, okf, fun o to H4 no nto hO s4 => ?_⟩
    have n8 := nz.2.2
    have io : intV (-999) 999 (.int i) = true := by
      show (decide (-999 ≤ i) && decide (i ≤ 999)) = true
      rw [decide_eq_true i1, decide_eq_true i2]
      rfl
    have both : (nameB z && intV (-999) 999 (.int i)) = true := by rw [name_B nz, io]; rfl
    refine ⟨_, rfl, _, rfl, ?_⟩
    dsimp only [tNil]
    refine pl_out (by omega) trivial (fun _ a dx H5 na ha s5 => ⟨_, _, rfl, ?_⟩) (fun no => absurd both (by rw [no]; decide))
    have s45 := s4.trans s5
    have hO5 := byW_of (hO.same s5)
    have hP5 : PlAt D H5 a z i := ⟨dx, ha⟩
    have et5 : H5 t = some (.tup ((tws fs).map V.str)) := by
      rw [s45 _ _ et3, List.map_map]
      rfl
    have wdf := tws_wd okf
    have w30 := wt_tws okf
    have t0 := tws_tm okf f1 f3
    have t1 := pl_tm nz i1 i2
    have lt0 := t0.len
    have lt1 := t1.len
    have n4 := (num_shown i1 i2).2.1
    have c5 : (("plus " : String) : Str).length = 5 := rfl
    have c1 : ((" " : String) : Str).length = 1 := rfl
    refine ⟨⟨_, rfl⟩, _, rfl, " ", t, tws fs, rfl, rfl, .inr (.of et5), ?_, ?_⟩
    · rw [c1, Nat.mul_one]
      have : ((tws fs).map (·.length)).sum + (tws fs).length ≤ 10 * fs.length := w30
      omega
    refine ⟨_, rfl, _, _, rfl, rfl, small_size (by omega), _, _, rfl, rfl, small_size (by rw [app_len]; omega), _, rfl, i, rfl, slog i1 i2, _, _, rfl, rfl, small_size (show _ + (N3.shown i).length ≤ 7000 by rw [app_len, app_len]; omega), (by show 2 ≤ sizeLine; decide), fun lt hlt => ?_⟩
    have B5 := B3.keep fun o e => s45 _ _ e
    have nlb := box_ne B5 hlt
    rw [show ((("plus " : Str) ++ z) ++ (" " : Str) ++ ((toString i : String) : Str)) = plT z i from plus_add z (N3.shown i)]
    have s6 := Same.new (o := .lst [.str (Txt.join " " (tws fs)), .str (plT z i)]) hlt
    have e6 : (upd H5 lt (.lst [.str (Txt.join " " (tws fs)), .str (plT z i)])) lt = some (.lst [.str (Txt.join " " (tws fs)), .str (plT z i)]) := upd_same
    have B6 := box_new (o := .lst [.str (Txt.join " " (tws fs)), .str (plT z i)]) B5 hlt
    generalize upd H5 lt (.lst [.str (Txt.join " " (tws fs)), .str (plT z i)]) = H6 at s6 e6 B6
    have hO6 := hO5.same s6
    have hP6 := hP5.same s6
    obtain ⟨dy, eo, _⟩ := id hO6
    obtain ⟨dz, ea⟩ := id hP6
    have len3 : (tws fs).length ≤ 3 := by
      rw [List.length_map]
      exact f3
    refine ⟨_, rfl, o, dy, _, rfl, eo, o, to, tws fs, rfl, hO6, len3, wdf, _, rfl, ?_⟩
    refine ⟨_, rfl, a, dz, _, rfl, ea, a, z, i, rfl, hP6, by omega, i1, i2, _, rfl, (by show 2 ≤ sizeLine; decide), fun l2 hl2 => ?_⟩
    have s7 := Same.new (o := .lst [.str (Txt.join " " (tws fs)), .str (plT z i)]) hl2
    have two : ∀ x ∈ [V.str (Txt.join " " (tws fs)), V.str (plT z i)], sameB x = true := fun x hx => by
      rcases List.mem_cons.mp hx with rfl | hx
      · rfl
      · rw [List.mem_singleton.mp hx]
        rfl
    refine ⟨_, rfl, l2, lt, _, rfl, rfl, .of upd_same, .of (s7 _ _ e6), two, _, rfl, iteF ?_⟩
    generalize upd H6 l2 (.lst [.str (Txt.join " " (tws fs)), .str (plT z i)]) = H7 at s7
    have e7 := s7 _ _ e6
    have rb : readB (.str (Txt.join " " (tws fs))) = some (tws fs) := by
      rw [readB_eq, spl_tws okf f1, if_pos (tws_ord okf f3)]
    have rp : readP (.str (plT z i)) = some (z, i) := by
      rw [readP_eq, plB_pl nz i1 i2]
    refine ⟨rfl, _, rfl, lt, _, ((0 : Nat) : Int), _, rfl, rfl, .of e7, atI_nat (j := 0) rfl, .str (Txt.join " " (tws fs)), .str (Txt.join " " (tws fs)), rfl, .str _, twD_str t0.tw, fun us hus o2 to2 H8 no2 hO8 s8 => ?_, fun no => absurd no (by rw [rb]; exact fun z => nomatch z)⟩
    obtain rfl : tws fs = us := Option.some.inj (rb.symm.trans hus)
    have hO8' := (hO6.same s7).same s8
    obtain ⟨dy2, eo2, _⟩ := id hO8
    obtain ⟨dy3, eo3, _⟩ := id hO8'
    refine ⟨_, rfl, o2, dy2, _, .ref C, rfl, eo2, .ins eo3, nf_self K C, ⟨o2, o, to2, to, tws fs, rfl, hO8, hO8', wdf, true, rfl, ?_⟩⟩
    refine ⟨_, rfl, iteF ?_⟩
    have e8 := s8 _ _ e7
    refine ⟨rfl, _, rfl, lt, _, ((1 : Nat) : Int), _, rfl, rfl, .of e8, atI_nat (j := 1) rfl, .str (plT z i), .str (plT z i), rfl, .str _, twD_str t1.tw, fun y m hym a2 H9 na2 hP9 s9 => ?_, fun no => absurd no (by rw [rp]; exact fun z => nomatch z)⟩
    obtain ⟨rfl, rfl⟩ : z = y ∧ i = m := by
      have := Option.some.inj (rp.symm.trans hym)
      exact ⟨congrArg Prod.fst this, congrArg Prod.snd this⟩
    have hP9' := ((hP6.same s7).same s8).same s9
    obtain ⟨dp2, ep2⟩ := id hP9
    obtain ⟨dp3, ep3⟩ := id hP9'
    refine ⟨_, rfl, a2, dp2, _, .ref D, rfl, ep2, .ins ep3, nf_self K D, ⟨a2, a, z, i, rfl, hP9, hP9', true, rfl, ?_⟩⟩
    refine ⟨_, rfl, iteF ?_⟩
    have s69 := (s7.trans s8).trans s9
    refine ql _ _ _ _ _ _ _ _ _ _ _ _ b lt (n + 11) _ _ H9 (B6.keep fun o e => s69 _ _ e) (by omega) nlb (s69 _ _ e6) t0 t1 fun H' B' k' => ?_
    exact q H' (B'.mono (by omega)) (((k03.trans (But.same s45)).trans (But.same s6)).trans ((But.same s69).trans k'))
end
end G
set_option Elab.async false
set_option linter.all false
set_option maxRecDepth 100000
set_option maxHeartbeats 8000000
/-! LL: the law. -/
namespace G
open PySem PySem.Spec PyProof.Rows L2 NdefX StX
abbrev sLaw : Stmt := topS 53
theorem scLaw : FnScope ["_law_script", "_law_k", "_law_box_here", "_law_names_here"] ["_law_script"] (defScope sLaw) := ⟨rfl, rfl, rfl, by decide +kernel, rfl, by decide +kernel, by decide +kernel⟩
def spLaw (K : PySem.W.Frag) : Sp := fun vs H Q _ => ∃ (a : Addr) (ns : List Int), vs = [.ref a] ∧ SqL K H a (ns.map V.int) ∧ ns.length ≤ 63 ∧ ∀ H', Q (.bl true) H'
theorem sqL_same {K : PySem.W.Frag} {H H' : Hp} {a : Addr} {xs : List V} (h : SqL K H a xs) (s : Same H H') : SqL K H' a xs := by
  rcases h with (h | ⟨o, h⟩) | h
  · exact .inl (.inl (s _ _ h))
  · exact .inl (.inr ⟨o, s _ _ h⟩)
  · exact .inr h
theorem same_but {b : Addr} {H H1 H2 : Hp} (s : Same H H1) (n : H b = none) (k : But b H1 H2) : Same H H2 := fun c o e => k c o (ne_of_none e n) (s c o e)
theorem name_plus : NameZ "plus" := by
  refine ⟨fun c hc => ?_, by decide, by decide⟩
  have : ∀ c ∈ cs ("plus" : Str), 97 ≤ c ∧ c ≤ 122 := by decide +kernel
  exact this c hc
section
variable {P : Program} {w : World} {K : PySem.W.Frag} {mg : Str → Option Value} {base : Heap}
theorem ok_law {f fc fb fT fn fR : Addr} {fd fdc fdb fdT fdn fdR : FuncData} (F : Fun K "law" "law" sLaw f fd)
    (Fc : Fun K "_law_cell" "_law_cell" sCell fc fdc) (bc : Binds K fdc ["_law_script", "_law_k"] []) (gc : mg "_law_cell" = some (.ref fc))
    (Fb : Fun K "_law_box" "_law_box" sBox fb fdb) (bb : Binds K fdb ["_law_cell_here"] []) (gb : mg "_law_box" = some (.ref fb))
    (Tk : Fun K "_law_take" "_law_take" sTake fT fdT) (bT : Binds K fdT ["_law_box_here", "_law_many"] []) (gT : mg "_law_take" = some (.ref fT))
    (kn : PySem.W.keepIn K (.ref fn) = true) (bn : Binds K fdn ["_law_box_here", "_law_many"] []) (gn : mg "_law_names" = some (.ref fn)) (Gn : FnOk P w K mg base CX0 3 fn fdn ["_law_box_here", "_law_many"] spNames)
    (GR : FnOk P w K mg base CX0 8 fR fdR ["_law_box_here", "_law_names_here"] spRight) (gR : mg "_law_right" = some (.ref fR)) (kR : PySem.W.keepIn K (.ref fR) = true) (bR : Binds K fdR ["_law_box_here", "_law_names_here"] [])
    (mr : mg "range" = none) (mmx : mg "max" = none) (mmn : mg "min" = none) (ml : mg "len" = none) : FnG P w K mg base CX0 9 f fd ["_law_script"] (spLaw K) := by
  have Gc : FnOk P w K mg base CX0 1 fc fdc ["_law_script", "_law_k"] (spCell' K) := ok_cell Fc ml
  have Gb : FnOk P w K mg base CX0 1 fb fdb ["_law_cell_here"] spBox := ok_box Fb mmx
  have GT : FnOk P w K mg base CX0 1 fT fdT ["_law_box_here", "_law_many"] spTake := ok_take Tk
  refine FnG.of_body F scLaw (fun vs H Q E h => ?_) (fun cdv A outer s H vs Q E hg hr h => ?_)
  · obtain ⟨a, ns, rfl, _⟩ := h
    rfl
  · obtain ⟨a, ns, rfl, hS, hl, q⟩ := h
    have hr1 := hr.mono (show 1 ≤ 8 by decide)
    have hr3 := hr.mono (show 3 ≤ 8 by decide)
    refine ⟨_, pss_cons (ps_for PassesOwn.never rfl (pi_range1 rfl mr (pa_cons (pe_callB (call_max2 rfl) (by rfl) mmx (by decide +kernel) (pa_cons pe_int (pa_cons (pe_callB (call_min2 rfl) (by rfl) mmn (by decide +kernel)
          (pa_cons (pe_callB call_len_seq (by rfl) ml PySem.boot_len (pa_cons (pv 0) pa_nil)) (pa_cons pe_int pa_nil))) pa_nil))) pa_nil)) (pg_name (i := 1) scLaw.nd rfl (.inl rfl))
        (pss_cons (ps_set (i := 2) scLaw.nd rfl (.inl rfl) (pe_call Gb hr1 rfl gb Fb.kp bb .nil pass0 (pa_cons (pe_call Gc hr1 rfl gc Fc.kp bc .nil pass0 (pa_cons (pv 0) (pa_cons (pv 1) pa_nil))) pa_nil)))
        (pss_cons (ps_set (i := 3) scLaw.nd rfl (.inl rfl) (pe_op op_cat (pe_call Gn hr3 rfl gn kn bn .nil pass0 (pa_cons (pv 2) (pa_cons pe_int pa_nil))) (pe_op op_rep (pe_lst (pa_cons pe_str pa_nil)) (pe_call GT hr1 rfl gT Tk.kp bT .nil pass0 (pa_cons (pv 2) (pa_cons pe_int pa_nil))))))
        (pss_one (ps_if (PW.pt (pw_or (pt_not (pt_val (pe_call GR hr rfl gR kR bR .nil pass0 (pa_cons (pv 2) (pa_cons (pv 3) pa_nil))))) (pw_or1 (pt_not (pt_val (pe_call GR hr rfl gR kR bR .nil pass0 (pa_cons (pv 2) (pa_cons (pv 3) pa_nil)))))))) (pss_one (ps_ret pe_bl)) pss_nil)))))
      (pss_one (ps_ret pe_bl)), ?_⟩
    refine ⟨_, rfl, a, _, rfl, .inl hS, _, _, rfl, _, _, rfl, ?_⟩
    generalize hm : (if (if (8 : Int) < ((ns.map V.int).length : Int) then (8 : Int) else ((ns.map V.int).length : Int)) > 2 then (if (8 : Int) < ((ns.map V.int).length : Int) then (8 : Int) else ((ns.map V.int).length : Int)) else 2) = m
    have hm8 : 0 ≤ m ∧ m ≤ 8 := by
      rw [← hm]
      split <;> split at * <;> omega
    refine ⟨m, rfl, by omega, by omega, ?_⟩
    refine for_range (lo := 0) (n := m.toNat) (fun i σ H' => Same H H' ∧ ∃ x1 x2 x3 : Option V, σ = [some (.ref a), x1, x2, x3]) ?_ ?_ ?_
    · exact ⟨Same.refl H, none, none, none, rfl⟩
    · rintro i σ H1 hi ⟨s1, x1, x2, x3, rfl⟩
      refine ⟨_, rfl, _, rfl, a, ns, 0 + i, rfl, sqL_same hS s1, by omega, by omega, fun cell => ⟨cell, rfl, fun b H2 nb s2 B2 => ?_⟩⟩
      refine ⟨_, rfl, b, 4, _, rfl, B2, by omega, by omega, fun p H4 zs lz zn np e4 B4 k4 => ?_⟩
      have npb := box_ne B2 np
      refine ⟨(by show 1 ≤ sizeLine; decide), fun l5 h5 => ?_⟩
      have s5 := Same.new (o := .lst [.str "plus"]) h5
      have e5 : (upd H4 l5 (.lst [.str "plus"])) l5 = some (.lst [.str "plus"]) := upd_same
      have n5 := box_ne B4 h5
      have B5 := box_new (o := .lst [.str "plus"]) B4 h5
      generalize upd H4 l5 (.lst [.str "plus"]) = H5 at s5 e5 B5
      refine ⟨_, rfl, b, 2, _, rfl, B5, by omega, by decide, by decide, fun r H6 r0 r1 B6 k6 => ?_⟩
      obtain ⟨j, rfl, hj⟩ := draw_at (n := 2) r0 r1 rfl
      have e56 := k6 _ _ n5 e5
      refine ⟨l5, _, _, rfl, rfl, e56, by omega, by omega, ?_, fun l7 h7 => ?_⟩
      · show 1 * ((j : Int)).toNat ≤ sizeLine
        exact small_size (by omega)
      have n7 := box_ne B6 h7
      rw [Int.toNat_natCast, rep_strs]
      have s7 := Same.new (o := .lst ((List.replicate j ("plus" : Str)).map V.str)) h7
      have e7 : (upd H6 l7 (.lst ((List.replicate j ("plus" : Str)).map V.str))) l7 = some (.lst ((List.replicate j ("plus" : Str)).map V.str)) := upd_same
      have B7 := box_new (o := .lst ((List.replicate j ("plus" : Str)).map V.str)) B6 h7
      generalize upd H6 l7 (.lst ((List.replicate j ("plus" : Str)).map V.str)) = H7 at s7 e7 B7
      have e47 := s7 _ _ (k6 _ _ npb (s5 _ _ e4))
      refine ⟨p, l7, _, _, rfl, rfl, e47, e7, ?_, fun l8 h8 => ?_⟩
      · rw [List.length_map, List.length_map, List.length_replicate]
        exact small_size (by omega)
      have n8 := box_ne B7 h8
      rw [← List.map_append]
      have s8 := Same.new (o := .lst ((zs ++ List.replicate j ("plus" : Str)).map V.str)) h8
      have e8 : (upd H7 l8 (.lst ((zs ++ List.replicate j ("plus" : Str)).map V.str))) l8 = some (.lst ((zs ++ List.replicate j ("plus" : Str)).map V.str)) := upd_same
      have B8 := box_new (o := .lst ((zs ++ List.replicate j ("plus" : Str)).map V.str)) B7 h8
      generalize upd H7 l8 (.lst ((zs ++ List.replicate j ("plus" : Str)).map V.str)) = H8 at s8 e8 B8
      have k28 : But b H2 H8 := (((k4.trans (But.same s5)).trans k6).trans (But.same s7)).trans (But.same s8)
      have zn2 : ∀ y ∈ zs ++ List.replicate j ("plus" : Str), NameZ y := fun y hy => by
        rcases List.mem_append.mp hy with hy | hy
        · exact zn y hy
        · rw [(List.mem_replicate.mp hy).2]
          exact name_plus
      have lz2 : (zs ++ List.replicate j ("plus" : Str)).length = zs.length + j := by rw [List.length_append, List.length_replicate]
      refine ⟨_, rfl, _, rfl, b, l8, _, _, rfl, B8, by omega, e8, by omega, by omega, zn2, n8, fun H9 B9 k9 => ⟨_, rfl, iteF ?_⟩⟩
      refine ⟨_, rfl, _, rfl, b, l8, _, _, rfl, B9, by omega, k9 _ _ n8 e8, by omega, by omega, zn2, n8, fun Ha Ba ka => ⟨_, rfl, iteF ?_⟩⟩
      exact ⟨same_but (s1.trans s2) (s1.free nb) ((k28.trans k9).trans ka), _, _, _, rfl⟩
    · rintro σ H1 ⟨s1, x1, x2, x3, rfl⟩
      exact q H1
end
end G
set_option Elab.async false
set_option linter.all false
set_option maxRecDepth 100000
set_option maxHeartbeats 2000000
/-! HK: the head's facts by a Hook of our own: methods that capture __class__, properties, instances that are called; the law's end over it. -/
namespace G
open PySem PySem.Spec PyProof.Rows L2 NdefX StX He

/-! ### defs by where they stand -/
/-- a def of the text: where it stands, its names, its statement, the names that it captures -/
structure Dp where
  at_ : PySem.W.Frag → Addr
  name : Str
  qual : Str
  st : Stmt
  clo : List Str
abbrev FnY : Type := Option (Str × Str × Arguments × FuncBody × Scope × Addr × List Str × Addr)
def fnY (K : PySem.W.Frag) (a : Addr) : FnY := match K.lookup a with
  | some ⟨_, _, .func fd, _⟩ => some (fd.name, fd.qualname, fd.params, fd.body, fd.scope, fd.globals, fd.closure.map (·.1), fd.builtins)
  | _ => none
def Dp.val (d : Dp) : FnY := some (d.name, d.qual, defArgs d.st, .stmts (defBody d.st), defScope d.st, mainGlobals, d.clo, builtinsNs)
def noneB : Value → Bool
  | .none => true
  | _ => false
/-- the def's code, no positional defaults -/
def codB (K : PySem.W.Frag) (a : Addr) (q : Str) : Bool := match K.lookup a with
  | some ⟨_, _, .func fd, _⟩ => PySem.W.codeIn K fd.code q && noneB fd.defaults
  | _ => false
def plainB (K : PySem.W.Frag) (a : Addr) (q : Str) : Bool := PySem.W.keepIn K (.ref a) && codB K a q
theorem fun_of {K : PySem.W.Frag} {a : Addr} {d : Dp} (e : fnY K a = d.val) (hc : d.clo = []) (c : plainB K a d.qual = true) : ∃ fd, Fun K d.name d.qual d.st a fd := by
  obtain ⟨kp, c2⟩ := ba c
  unfold fnY Dp.val at e
  rw [hc] at e
  unfold codB at c2
  cases q : K.lookup a with
  | none =>
    rw [q] at c2
    cases c2
  | some o =>
    obtain ⟨oc, od, dt, osl⟩ := o
    rw [q] at c2 e
    cases dt with
    | func fd =>
      obtain ⟨n1, n2, n3, n4, n5, n6, n7, n8, n9, n10, n11, n12, n13, n14, n15⟩ := fd
      have e2 : (some (n1, n2, n3, n4, n5, n6, n7.map (·.1), n15) : FnY) = some (d.name, d.qual, defArgs d.st, .stmts (defBody d.st), defScope d.st, mainGlobals, [], builtinsNs) := e
      simp only [Option.some.injEq, Prod.mk.injEq] at e2
      obtain ⟨h1, h2, h3, h4, h5, h6, h7, h8⟩ := e2
      have h7' : n7 = [] := List.map_eq_nil_iff.mp h7
      subst h1 h2 h3 h4 h5 h6 h7' h8
      have c3 : (PySem.W.codeIn K n13 d.qual && noneB n8) = true := c2
      obtain ⟨k1, k2⟩ := ba c3
      cases n8 with
      | none => exact ⟨_, ⟨oc, od, n9, n10, n11, n12, n13, n14, osl, rfl, q, k1⟩, kp⟩
      | _ => cases k2
    | _ => cases c2
/-- a def with one positional default, a thing in the heap -/
def dflD (K : PySem.W.Frag) (v : Value) : Bool := match v with
  | .ref T => (match K.lookup T with
    | some ⟨_, _, .seq its _, _⟩ => (match its.toList with
      | [.ref _] => true
      | _ => false)
    | _ => false)
  | _ => false
theorem dflD_ok {K : PySem.W.Frag} {v : Value} (h : dflD K v = true) : ∃ E : Addr, DflV K v [.ref E] := by
  unfold dflD at h
  split at h
  · rename_i T
    split at h
    · rename_i x1 x2 its n x3 ho
      split at h
      · rename_i E hE
        refine ⟨E, .inr ⟨(fun z => nomatch z), T, _, [.ref E], n, rfl, ho, ?_, .cons rfl .nil⟩⟩
        show Data.seq its n = _
        rw [← hE]
      · cases h
    · cases h
  · cases h
def codD (K : PySem.W.Frag) (a : Addr) (q : Str) : Bool := match K.lookup a with
  | some ⟨_, _, .func fd, _⟩ => PySem.W.codeIn K fd.code q && dflD K fd.defaults
  | _ => false
theorem fund_of {K : PySem.W.Frag} {a : Addr} {d : Dp} (e : fnY K a = d.val) (hc : d.clo = []) (c : (PySem.W.keepIn K (.ref a) && codD K a d.qual) = true) :
    ∃ (E : Addr) (fd : FuncData), FunD K d.name d.qual (defArgs d.st) (defBody d.st) (defScope d.st) [.ref E] [] a fd := by
  obtain ⟨kp, c2⟩ := ba c
  unfold fnY Dp.val at e
  rw [hc] at e
  unfold codD at c2
  cases q : K.lookup a with
  | none =>
    rw [q] at c2
    cases c2
  | some o =>
    obtain ⟨oc, od, dt, osl⟩ := o
    rw [q] at c2 e
    cases dt with
    | func fd =>
      obtain ⟨n1, n2, n3, n4, n5, n6, n7, n8, n9, n10, n11, n12, n13, n14, n15⟩ := fd
      have e2 : (some (n1, n2, n3, n4, n5, n6, n7.map (·.1), n15) : FnY) = some (d.name, d.qual, defArgs d.st, .stmts (defBody d.st), defScope d.st, mainGlobals, [], builtinsNs) := e
      simp only [Option.some.injEq, Prod.mk.injEq] at e2
      obtain ⟨h1, h2, h3, h4, h5, h6, h7, h8⟩ := e2
      have h7' : n7 = [] := List.map_eq_nil_iff.mp h7
      subst h1 h2 h3 h4 h5 h6 h7' h8
      have c3 : (PySem.W.codeIn K n13 d.qual && dflD K n8) = true := c2
      obtain ⟨k1, k2⟩ := ba c3
      obtain ⟨E, hE⟩ := dflD_ok k2
      exact ⟨E, _, ⟨oc, od, n8, n9, n10, n11, n12, n13, n14, osl, rfl, q, k1, hE, .inl rfl⟩, kp⟩
    | _ => cases c2
/-- a def with one keyword-only default, None -/
def kwN (K : PySem.W.Frag) (v : Value) (x : Str) : Bool := match v with
  | .ref D => eqO (PySem.W.nsIn K D x) (some (some .none))
  | _ => false
def codK (K : PySem.W.Frag) (a : Addr) (q x : Str) : Bool := match K.lookup a with
  | some ⟨_, _, .func fd, _⟩ => PySem.W.codeIn K fd.code q && (noneB fd.defaults && kwN K fd.kwdefaults x)
  | _ => false
theorem funk_of {K : PySem.W.Frag} {a : Addr} {d : Dp} {x : Str} (e : fnY K a = d.val) (hc : d.clo = []) (c : (PySem.W.keepIn K (.ref a) && codK K a d.qual x) = true) :
    ∃ fd : FuncData, FunD K d.name d.qual (defArgs d.st) (defBody d.st) (defScope d.st) [] [(x, .non)] a fd := by
  obtain ⟨kp, c2⟩ := ba c
  unfold fnY Dp.val at e
  rw [hc] at e
  unfold codK at c2
  cases q : K.lookup a with
  | none =>
    rw [q] at c2
    cases c2
  | some o =>
    obtain ⟨oc, od, dt, osl⟩ := o
    rw [q] at c2 e
    cases dt with
    | func fd =>
      obtain ⟨n1, n2, n3, n4, n5, n6, n7, n8, n9, n10, n11, n12, n13, n14, n15⟩ := fd
      have e2 : (some (n1, n2, n3, n4, n5, n6, n7.map (·.1), n15) : FnY) = some (d.name, d.qual, defArgs d.st, .stmts (defBody d.st), defScope d.st, mainGlobals, [], builtinsNs) := e
      simp only [Option.some.injEq, Prod.mk.injEq] at e2
      obtain ⟨h1, h2, h3, h4, h5, h6, h7, h8⟩ := e2
      have h7' : n7 = [] := List.map_eq_nil_iff.mp h7
      subst h1 h2 h3 h4 h5 h6 h7' h8
      have c3 : (PySem.W.codeIn K n13 d.qual && (noneB n8 && kwN K n9 x)) = true := c2
      obtain ⟨k1, k2⟩ := ba c3
      obtain ⟨k2, k3⟩ := ba k2
      cases n8 with
      | none =>
        cases n9 with
        | ref D =>
          refine ⟨_, ⟨oc, od, .none, .ref D, n10, n11, n12, n13, n14, osl, rfl, q, k1, .inl ⟨rfl, rfl⟩, .inr ⟨D, rfl, fun p hp => ?_⟩⟩, kp⟩
          rw [List.mem_singleton.mp hp]
          exact ⟨.none, eqO_ok k3, rfl⟩
        | _ => cases k3
      | _ => cases k2
    | _ => cases c2
/-- a method that captures __class__ -/
def celC (K : PySem.W.Frag) (cc C : Addr) : Bool := match K.lookup cc with
  | some ⟨_, _, .cell (some (.ref D)), _⟩ => decide (D = C)
  | _ => false
def cloB (K : PySem.W.Frag) (a C : Addr) : Bool := match K.lookup a with
  | some ⟨_, _, .func fd, _⟩ => (match fd.closure with
    | [(_, cc)] => celC K cc C
    | _ => false)
  | _ => false
/-- .. its code object's file -/
def filC (K : PySem.W.Frag) (c : Addr) (file : Str) : Bool := match K.lookup c with
  | some ⟨_, _, .fields vs, _⟩ => (match vs.toList[2]? with
    | some (Value.str fl _) => file == fl
    | _ => false)
  | _ => false
def filV (K : PySem.W.Frag) (v : Value) (file : Str) : Bool := match v with
  | .ref c => filC K c file
  | _ => false
def filB (K : PySem.W.Frag) (a : Addr) (file : Str) : Bool := match K.lookup a with
  | some ⟨_, _, .func fd, _⟩ => filV K fd.code file
  | _ => false
def kwV (K : PySem.W.Frag) (a : Addr) : Value := match K.lookup a with
  | some ⟨_, _, .func fd, _⟩ => fd.kwdefaults
  | _ => .none
/-- what FunX and SupOf want of the def at a, of the class at C -/
structure ClsDef (P : Program) (K : PySem.W.Frag) (d : Dp) (a C : Addr) : Prop where
  ex : ∃ (oc : Value) (od : Option Addr) (doc pm ct : Value) (an : Option Addr) (osl : Array (Option Value)) (cda cc : Addr) (oc3 : Value) (od3 : Option Addr) (sl3 : Array (Option Value)) (oc2 : Value) (od2 : Option Addr) (vs : Array Value) (sl2 : Array (Option Value)) (fl : Str) (tf : Tok),
    K.lookup a = some ⟨oc, od, .func (PySem.W.ksFn d.name d.qual (defArgs d.st) (defBody d.st) (defScope d.st) .none (kwV K a) doc pm an (.ref cda) ct cc), osl⟩ ∧ PySem.W.codeIn K (.ref cda) d.qual = true ∧
    K.lookup cc = some ⟨oc3, od3, .cell (some (.ref C)), sl3⟩ ∧ K.lookup cda = some ⟨oc2, od2, .fields vs, sl2⟩ ∧ vs.toList[2]? = some (Value.str fl tf) ∧ ((P.main.file : Str) == fl) = true
theorem clsdef_of {P : Program} {K : PySem.W.Frag} {a C : Addr} {d : Dp} (e : fnY K a = d.val) (hc : d.clo = [("__class__" : Str)]) (c : (codB K a d.qual && (cloB K a C && filB K a P.main.file)) = true) : ClsDef P K d a C := by
  obtain ⟨c1, c23⟩ := ba c
  obtain ⟨c2, c3⟩ := ba c23
  unfold fnY Dp.val at e
  rw [hc] at e
  unfold codB at c1
  unfold cloB at c2
  unfold filB at c3
  cases q : K.lookup a with
  | none =>
    rw [q] at c1
    cases c1
  | some o =>
    obtain ⟨oc, od, dt, osl⟩ := o
    rw [q] at c1 c2 c3 e
    cases dt with
    | func fd =>
      have ekw : kwV K a = fd.kwdefaults := by
        unfold kwV
        rw [q]
      obtain ⟨n1, n2, n3, n4, n5, n6, n7, n8, n9, n10, n11, n12, n13, n14, n15⟩ := fd
      have e2 : (some (n1, n2, n3, n4, n5, n6, n7.map (·.1), n15) : FnY) = some (d.name, d.qual, defArgs d.st, .stmts (defBody d.st), defScope d.st, mainGlobals, [("__class__" : Str)], builtinsNs) := e
      simp only [Option.some.injEq, Prod.mk.injEq] at e2
      obtain ⟨h1, h2, h3, h4, h5, h6, h7, h8⟩ := e2
      obtain ⟨cc, rfl⟩ : ∃ cc, n7 = [(("__class__" : Str), cc)] := by
        match n7, h7 with
        | [(y, cc)], h7 =>
          have : y = ("__class__" : Str) := by
            have h9 : [y] = [("__class__" : Str)] := h7
            exact List.head_eq_of_cons_eq h9
          exact ⟨cc, by rw [this]⟩
      subst h1 h2 h3 h4 h5 h6 h8
      have c4 : (PySem.W.codeIn K n13 d.qual && noneB n8) = true := c1
      obtain ⟨k1, k2⟩ := ba c4
      have c5 : celC K cc C = true := c2
      unfold celC at c5
      have c6 : filV K n13 P.main.file = true := c3
      obtain ⟨oc3, od3, sl3, hcell⟩ : ∃ oc3 od3 sl3, K.lookup cc = some ⟨oc3, od3, .cell (some (.ref C)), sl3⟩ := by
        split at c5
        · rename_i x1 x2 D x3 ho
          rw [of_decide_eq_true c5] at ho
          exact ⟨_, _, _, ho⟩
        · cases c5
      cases n13 with
      | ref cda =>
        have c7 : filC K cda P.main.file = true := c6
        unfold filC at c7
        obtain ⟨oc2, od2, vs, sl2, fl, tf, w1, w2, w3⟩ : ∃ oc2 od2 vs sl2 fl tf, K.lookup cda = some ⟨oc2, od2, .fields vs, sl2⟩ ∧ vs.toList[2]? = some (Value.str fl tf) ∧ ((P.main.file : Str) == fl) = true := by
          split at c7
          · rename_i x1 x2 vs x3 ho
            split at c7
            · rename_i fl tf hv
              exact ⟨_, _, vs, _, fl, tf, ho, hv, c7⟩
            · cases c7
          · cases c7
        cases n8 with
        | none =>
          refine ⟨oc, od, n10, n11, n14, n12, osl, cda, cc, oc3, od3, sl3, oc2, od2, vs, sl2, fl, tf, ?_, k1, hcell, w1, w2, w3⟩
          rw [ekw]
          exact q
        | _ => cases k2
      | _ => cases c6
    | _ => cases c1
/-- what super() rests on besides -/
def supB (K : PySem.W.Frag) (C f2 : Addr) : Bool := PySem.W.isClsIn K C && (decide (PySem.W.mroIn K C (.ref C) = some true) && (eqO (PySem.W.nsIn K cStatics "thirdparty.any") (some none) && (eqO (PySem.W.ks_superIn K C C "__init__") (some (some (.ref f2))) &&
  (decide (PySem.W.typeIn K (.ref f2) = some (.type "function")) && PySem.W.fnIn K f2))))
/-! ### properties, calls -/
def getr (K : PySem.W.Frag) (p : Addr) : Addr := match PySem.W.recIn K p "property" with
  | some (.ref g :: _) => g
  | _ => 0
def proB (K : PySem.W.Frag) (C : Addr) (f : Str) : Bool := eqO (PySem.W.findIn K (.ref C) f) (some (some (.ref (ma K C f)))) && (eqO (PySem.W.specialIn K (.ref (ma K C f)) "__get__") (some (some (.builtin "property.__get__"))) &&
  (decide (PySem.W.takesIn K (.ref (ma K C f)) = some true) && (match PySem.W.recIn K (ma K C f) "property" with
    | some (.ref _ :: _) => true
    | _ => false)))
theorem pro_ok {K : PySem.W.Frag} {C : Addr} {f : Str} (h : proB K C f = true) : PropOf K C f (ma K C f) (getr K (ma K C f)) := by
  obtain ⟨c1, c⟩ := ba h
  obtain ⟨c2, c⟩ := ba c
  obtain ⟨c3, c4⟩ := ba c
  refine ⟨eqO_ok c1, eqO_ok c2, of_decide_eq_true c3, ?_⟩
  unfold getr
  split at c4
  · rename_i g rest e
    rw [e]
    exact ⟨rest, rfl⟩
  · cases c4
def calB (K : PySem.W.Frag) (C : Addr) : Bool := eqO (PySem.W.findIn K (.ref C) "__call__") (some (some (.ref (ma K C "__call__")))) && (PySem.W.isFn K (.ref (ma K C "__call__")) && PySem.W.fnIn K (ma K C "__call__"))
theorem cal_ok {K : PySem.W.Frag} {C : Addr} (h : calB K C = true) : CallO K C (ma K C "__call__") := by
  obtain ⟨c1, c⟩ := ba h
  obtain ⟨c2, c3⟩ := ba c
  exact ⟨eqO_ok c1, c2, c3⟩
/-! ### the Hook -/
/-- what an object names, as far as the facts ask -/
def refsQ (o : Obj) : List Addr := match o.data with
  | .dict es _ => es.toList.flatMap fun e => refV e.val
  | .func fd => refV fd.code ++ (refV fd.defaults ++ (refV fd.kwdefaults ++ fd.closure.map (·.2)))
  | .cls cd => [cd.ns]
  | .fields vs => (match o.cls with
    | .type n => (match (decide (n = "property") || decide (n = "staticmethod")) with
      | true => vs.toList.flatMap refV
      | false => [])
    | _ => [])
  | _ => []
def frL {α : Type} : List Addr → (List Addr → α) → α
  | [], k => k []
  | a :: r, k => HandSHeadRun.frNat a fun a => frL r fun r => k (a :: r)
theorem frL_eq {α : Type} : ∀ (l : List Addr) (k : List Addr → α), frL l k = k l
  | [], _ => rfl
  | a :: r, k => by
    show (HandSHeadRun.frNat a fun a => frL r fun r => k (a :: r)) = _
    rw [HandSHeadRun.frNat_eq, frL_eq r]
def lvl (g : Addr → Option Obj) (as : List Addr) : List Addr := as.flatMap fun a => match g a with
  | some o => refsQ o
  | none => []
def asQ {α : Type} (g : Addr → Option Obj) : Nat → List Addr → List Addr → (List Addr → α) → α
  | 0, fr, acc, k => k (acc ++ fr)
  | n + 1, fr, acc, k => frL (lvl g fr) fun f2 => asQ g n f2 (acc ++ fr) k
theorem asQ_ex {g : Addr → Option Obj} : ∀ (n : Nat) (fr acc : List Addr), ∃ as : List Addr, ∀ (α : Type) (k : List Addr → α), asQ g n fr acc k = k as
  | 0, fr, acc => ⟨acc ++ fr, fun _ _ => rfl⟩
  | n + 1, fr, acc => by
    obtain ⟨as, h⟩ := asQ_ex (g := g) n (lvl g fr) (acc ++ fr)
    refine ⟨as, fun α k => ?_⟩
    show (frL (lvl g fr) fun f2 => asQ g n f2 (acc ++ fr) k) = _
    rw [frL_eq]
    exact h α k
def frK {α : Type} (g : Addr → Option Obj) : List Addr → (PySem.W.Frag → α) → α
  | [], k => k []
  | a :: r, k => match g a with
    | some o => frK g r fun K => k ((a, o) :: K)
    | none => frK g r k
theorem frK_eq {α : Type} {g : Addr → Option Obj} : ∀ (as : List Addr) (k : PySem.W.Frag → α), frK g as k = k (frG g as)
  | [], _ => rfl
  | a :: r, k => by
    unfold frK frG
    rw [List.filterMap_cons]
    cases g a with
    | some o =>
      show (frK g r fun K => k ((a, o) :: K)) = _
      rw [frK_eq r]
      rfl
    | none =>
      show frK g r k = _
      rw [frK_eq r]
      rfl
abbrev AlP : Type := Bool × List FnY
abbrev Ck : Type := PySem.W.Frag → Bool
def obsP (cs : List Ck) (fn : List Dp) (K : PySem.W.Frag) : AlP := (cs.all fun c => c K, fn.map fun d => fnY K (d.at_ K))
def valP (fn : List Dp) : AlP := (true, fn.map Dp.val)
def SaysP (cs : List Ck) (fn : List Dp) (K : PySem.W.Frag) : Prop := obsP cs fn K = valP fn
def obsPG (n : Nat) (cs : List Ck) (fn : List Dp) (g : Addr → Option Obj) : AlP := asQ g n [mainGlobals, cStatics] [] fun as => frK g as fun K => obsP cs fn K
theorem obsPG_ex (n : Nat) (cs : List Ck) (fn : List Dp) (g : Addr → Option Obj) : ∃ as, obsPG n cs fn g = obsP cs fn (frG g as) := by
  obtain ⟨as, h⟩ := asQ_ex (g := g) n [mainGlobals, cStatics] []
  refine ⟨as, ?_⟩
  unfold obsPG
  rw [h, frK_eq]
def hookP (n : Nat) (cs : List Ck) (fn : List Dp) : PySem.W.Hook where
  α := AlP
  obs := fun s => obsPG n cs fn s.heap.get?
  val := fun _ => valP fn
  says := fun _ h => ∃ K : PySem.W.Frag, K.In h ∧ SaysP cs fn K
  of := fun _ s e => by
    obtain ⟨as, h⟩ := obsPG_ex n cs fn s.heap.get?
    rw [h] at e
    exact ⟨_, frG_in, e⟩
  keeps := fun _ _ _ ⟨K, hK, c⟩ k => ⟨K, PySem.W.Frag.In.keeps hK k, c⟩
theorem obsPG_eq {n : Nat} {cs : List Ck} {fn : List Dp} {g : Addr → Option Obj} {s : Shared} (h : ∀ a, g a = s.heap.get? a) : obsPG n cs fn g = (hookP n cs fn).obs s := by
  have e : g = s.heap.get? := funext h
  rw [e] <;> rfl
section
variable {cs : List Ck} {fn : List Dp} {K : PySem.W.Frag}
theorem SaysP.ck (c : SaysP cs fn K) (i : Nat) {f : Ck} (h : cs[i]? = some f := by rfl) : f K = true :=
  List.all_eq_true.mp (show (cs.all fun c => c K) = true from congrArg (fun z : AlP => z.1) c) f (List.mem_of_getElem? h)
theorem SaysP.at_ (c : SaysP cs fn K) (i : Nat) {d : Dp} (h : fn[i]? = some d := by rfl) : fnY K (d.at_ K) = d.val := by
  have e : fn.map (fun d => fnY K (d.at_ K)) = fn.map Dp.val := congrArg (fun z : AlP => z.2) c
  have e2 : (fn.map fun d => fnY K (d.at_ K))[i]? = (fn.map Dp.val)[i]? := by rw [e]
  rw [List.getElem?_map, List.getElem?_map, h] at e2
  exact Option.some.inj e2
end
/-! ### the law's end -/
theorem walk_goE {l : PySem.W.OpenLaw} {n k : Nat} {q : Program} {loose : List Str} {XP : (Str → Option Value) → Heap → Prop} {YP : World → Heap → Prop} {d : DefRec} {x : Str}
    (most : l.most = some n) (few : n ≤ sizeLine) (nodf : d.params.defaults = []) (hr : Room k callerA)
    (F : ∀ (w : World) (mg : Str → Option Value) (fa : Addr) (h : Heap), YP w h → h.Ns mainGlobals mg → mg d.name = some (.ref fa) →
      ∃ (K : PySem.W.Frag) (fd : FuncData) (sp : Sp), K.In h ∧ (∀ (s : Shared) (u : Value), BindsTo s fd ⟨[u], []⟩ [(x, u)]) ∧
        (∀ (H : Hp) (a : Addr) (ns : List Int), ns.length ≤ n → Only H → SqL K H a (ns.map V.int) → sp [.ref a] H (fun v _ => v = .bl true) fun _ _ _ => False) ∧
        ∀ base : Heap, K.In base → base.Ns mainGlobals mg → FnG l.prog w K mg base CX0 k fa fd [x] sp) :
    PySem.W.WalkO q loose XP YP l.row.toRowW d [] (fun f vs => PySem.call f vs) := by
  refine Att.attach_call most nodf
    fun w _ s₁ mg mb fa _ _ _ _ a vs ns top Y _ _ _ atF obj allInt len noG => ?_
  obtain ⟨K, fd, sp, inK, binds, hsp, keeps⟩ := F w mg fa _ Y top.T.g atF
  exact law_go inK top.T.g top.T.b top.T.builtins top.T.nolimit noG obj allInt (Nat.le_trans len few) hr keeps binds
    fun H hO hS => hsp H a ns len hO hS
end G
set_option Elab.async false
set_option linter.all false
set_option maxRecDepth 100000
set_option maxHeartbeats 8000000
/-! XA: what the top has written. -/
namespace G
open PySem PySem.Spec PyProof.Rows L2 NdefX StX
open He in
def eqoB (K : PySem.W.Frag) (C f : Addr) : Bool := eqO (PySem.W.findIn K (.ref C) "__eq__") (some (some (.ref f))) && (PySem.W.isFn K (.ref f) && (eqO (PySem.W.findIn K (.ref C) "__ne__") (some (some (.builtin "object.__ne__"))) && decide (PySem.W.mroIn K C (.type "object") = some true)))
open He in
theorem eqo_ok {K : PySem.W.Frag} {C f : Addr} (h : eqoB K C f = true) : EqO K C f := by
  obtain ⟨c1, h⟩ := ba h
  obtain ⟨c2, h⟩ := ba h
  obtain ⟨c3, c4⟩ := ba h
  exact ⟨eqO_ok c1, c2, eqO_ok c3, of_decide_eq_true c4⟩
/-- an own exception class over ValueError -/
def oexO (C : Addr) (o : Obj) : Bool := match o with
  | ⟨.type t, _, .cls ⟨_, _, .ref D :: bm, _, _, true, _, _, _, _, false⟩, sl⟩ => decide (t = "type") && (decide (D = C) && (PySem.HandSPX.refsVE bm && (match sl.toList with
    | [_, _, _, _, some (.builtin s), _] => decide (s = "ValueError.__new__")
    | _ => false)))
  | _ => false
open He in
def oexB (K : PySem.W.Frag) (C : Addr) : Bool := (match K.lookup C with
  | some o => oexO C o
  | none => false) && (eqO (PySem.W.findIn K (.ref C) "__setattr__") (some (some (.builtin "object.__setattr__"))) && (decide (PySem.W.subIn K (.ref C) (.type "BaseException") = some true) && (decide (PySem.W.typeIn K (.ref C) = some (.type "type")) && PySem.W.keepIn K (.ref C))))
open He in
theorem oex_ok {K : PySem.W.Frag} {C : Addr} (h : oexB K C = true) : OexC K C := by
  obtain ⟨c1, h⟩ := ba h
  obtain ⟨c2, h⟩ := ba h
  obtain ⟨c3, h⟩ := ba h
  obtain ⟨c4, c5⟩ := ba h
  refine ⟨?_, eqO_ok c2, of_decide_eq_true c3, of_decide_eq_true c4, c5⟩
  cases q : K.lookup C with
  | none =>
    rw [q] at c1
    cases c1
  | some o =>
    rw [q] at c1
    have c6 : oexO C o = true := c1
    unfold oexO at c6
    split at c6
    · rename_i t od x1 x2 D bm x4 x5 x6 x7 x8 x9 sl
      obtain ⟨d1, c6⟩ := ba c6
      obtain ⟨d2, c6⟩ := ba c6
      obtain ⟨d3, d4⟩ := ba c6
      split at d4
      · rename_i k0 k1 k2 k3 s k5 hs
        have e1 := of_decide_eq_true d1
        have e2 := of_decide_eq_true d2
        have e3 := of_decide_eq_true d4
        subst e1 e2 e3
        refine ⟨x1, x5, x4, x2, bm, x6, x7, x8, x9, od, k0, k1, k2, k3, k5, ?_, d3⟩
        have e4 : sl = #[k0, k1, k2, k3, some (.builtin "ValueError.__new__"), k5] := by
          rw [← Array.toArray_toList (xs := sl), hs]
        rw [e4]
      · cases d4
    · cases c6
open He in
def exjB (K : PySem.W.Frag) (C f : Addr) (fl : Str) : Bool := eqO (PySem.W.findIn K (.ref C) "__init__") (some (some (.ref f))) && (decide (PySem.W.typeIn K (.ref f) = some (.type "function")) && eqO (PySem.W.findIn K (.ref C) fl) (some none))
open He in
theorem exj_ok {K : PySem.W.Frag} {C f : Addr} {fl : Str} (h : exjB K C f fl = true) : PySem.W.findIn K (.ref C) "__init__" = some (some (.ref f)) ∧ PySem.W.typeIn K (.ref f) = some (.type "function") ∧ PySem.W.findIn K (.ref C) fl = some none := by
  obtain ⟨c1, h⟩ := ba h
  obtain ⟨c2, c3⟩ := ba h
  exact ⟨eqO_ok c1, of_decide_eq_true c2, eqO_ok c3⟩
open He in
def strB (K : PySem.W.Frag) (C f : Addr) : Bool := eqO (PySem.W.findIn K (.ref C) "__str__") (some (some (.ref f))) && PySem.W.isFn K (.ref f)
open He in
theorem str_ok {K : PySem.W.Frag} {C f : Addr} (h : strB K C f = true) : PySem.W.findIn K (.ref C) "__str__" = some (some (.ref f)) ∧ PySem.W.isFn K (.ref f) = true := by
  obtain ⟨c1, c2⟩ := ba h
  exact ⟨eqO_ok c1, c2⟩
open He in
def owcB (K : PySem.W.Frag) (C : Addr) : Bool := eqO (PySem.W.findIn K (.ref C) "__class__") (some (some (.builtin "object.__class__"))) && (eqO (PySem.W.specialIn K (.builtin "object.__class__") "__get__") (some (some (.builtin "getset_descriptor.__get__"))) &&
  (decide (PySem.W.takesIn K (.builtin "object.__class__") = some true) && (decide (PySem.W.mroIn K C (.type "object") = some true) && decide (PySem.W.kitOne K (.ref C) (.ref C) = some true))))
open He in
theorem owc_ok {K : PySem.W.Frag} {C : Addr} (h : owcB K C = true) (cl : Cls K C) : OwC K C := by
  obtain ⟨c1, h⟩ := ba h
  obtain ⟨c2, h⟩ := ba h
  obtain ⟨c3, h⟩ := ba h
  obtain ⟨c4, c5⟩ := ba h
  exact ⟨cl, eqO_ok c1, eqO_ok c2, of_decide_eq_true c3, of_decide_eq_true c4, of_decide_eq_true c5⟩
/-- a static method's def -/
def stf (K : PySem.W.Frag) (p : Addr) : Addr := match PySem.W.recIn K p "staticmethod" with
  | some (.ref g :: _) => g
  | _ => 0
def smF (K : PySem.W.Frag) (C : Addr) (m : Str) : Bool := match PySem.W.findCls K (.ref C) (.type "type") m with
  | some (.get (.builtin b) (.ref p) .none (.ref D)) => decide (b = "staticmethod.__get__") && (decide (p = He.ma K C m) && decide (D = C))
  | _ => false
def smR (K : PySem.W.Frag) (p : Addr) : Bool := match PySem.W.recIn K p "staticmethod" with
  | some (.ref _ :: _) => true
  | _ => false
open He in
def smB (K : PySem.W.Frag) (C : Addr) (m : Str) : Bool := smF K C m && (smR K (He.ma K C m) && (PySem.W.keepIn K (.ref (stf K (He.ma K C m))) && (PySem.W.readsIn K C (.type "type") && eqO (PySem.W.specialIn K (.ref C) "__getattribute__") (some (some (.builtin "type.__getattribute__"))))))
open He in
theorem sm_ok {K : PySem.W.Frag} {C : Addr} {m : Str} (h : smB K C m = true) : SMet K C m (He.ma K C m) (stf K (He.ma K C m)) := by
  obtain ⟨c1, h⟩ := ba h
  obtain ⟨c2, h⟩ := ba h
  obtain ⟨c3, h⟩ := ba h
  obtain ⟨c4, c5⟩ := ba h
  refine ⟨⟨c4, eqO_ok c5⟩, ?_, ?_, c3⟩
  · unfold smF at c1
    split at c1
    · rename_i b p D0 e0
      obtain ⟨d1, d⟩ := ba c1
      obtain ⟨d2, d3⟩ := ba d
      rw [e0, of_decide_eq_true d1, of_decide_eq_true d2, of_decide_eq_true d3]
    · cases c1
  · unfold smR at c2
    unfold stf
    split at c2
    · rename_i g more e0
      exact ⟨more, by rw [e0]⟩
    · cases c2
/-- a def with two keyword-only defaults, ints -/
def kwI (K : PySem.W.Frag) (v : Value) (x : Str) (i : Int) : Bool := match v with
  | .ref D => (match PySem.W.nsIn K D x with
    | some (some (.int j _)) => decide (j = i)
    | _ => false)
  | _ => false
def codI (K : PySem.W.Frag) (a : Addr) (q x : Str) (i : Int) (y : Str) (j : Int) : Bool := match K.lookup a with
  | some ⟨_, _, .func fd, _⟩ => PySem.W.codeIn K fd.code q && (noneB fd.defaults && (kwI K fd.kwdefaults x i && kwI K fd.kwdefaults y j))
  | _ => false
theorem kwI_ok {K : PySem.W.Frag} {D : Addr} {x : Str} {i : Int} (h : kwI K (.ref D) x i = true) : ∃ u, PySem.W.nsIn K D x = some (some u) ∧ RelV (.int i) u := by
  have h' : (match PySem.W.nsIn K D x with
    | some (some (.int j _)) => decide (j = i)
    | _ => false) = true := h
  split at h'
  · rename_i j t e0
    rw [of_decide_eq_true h'] at e0
    exact ⟨_, e0, ⟨_, rfl⟩⟩
  · cases h'
open He in
theorem funi_of {K : PySem.W.Frag} {a : Addr} {d : Dp} {x y : Str} {i j : Int} (e : fnY K a = d.val) (hc : d.clo = []) (c : (PySem.W.keepIn K (.ref a) && codI K a d.qual x i y j) = true) :
    ∃ fd : FuncData, FunD K d.name d.qual (defArgs d.st) (defBody d.st) (defScope d.st) [] [(x, .int i), (y, .int j)] a fd := by
  obtain ⟨kp, c2⟩ := ba c
  unfold fnY Dp.val at e
  rw [hc] at e
  unfold codI at c2
  cases q : K.lookup a with
  | none =>
    rw [q] at c2
    cases c2
  | some o =>
    obtain ⟨oc, od, dt, osl⟩ := o
    rw [q] at c2 e
    cases dt with
    | func fd =>
      obtain ⟨n1, n2, n3, n4, n5, n6, n7, n8, n9, n10, n11, n12, n13, n14, n15⟩ := fd
      have e2 : (some (n1, n2, n3, n4, n5, n6, n7.map (·.1), n15) : FnY) = some (d.name, d.qual, defArgs d.st, .stmts (defBody d.st), defScope d.st, mainGlobals, [], builtinsNs) := e
      simp only [Option.some.injEq, Prod.mk.injEq] at e2
      obtain ⟨h1, h2, h3, h4, h5, h6, h7, h8⟩ := e2
      have h7' : n7 = [] := List.map_eq_nil_iff.mp h7
      subst h1 h2 h3 h4 h5 h6 h7' h8
      have c3 : (PySem.W.codeIn K n13 d.qual && (noneB n8 && (kwI K n9 x i && kwI K n9 y j))) = true := c2
      obtain ⟨k1, k2⟩ := ba c3
      obtain ⟨k2, k3⟩ := ba k2
      obtain ⟨k3, k4⟩ := ba k3
      cases n8 with
      | none =>
        cases n9 with
        | ref D =>
          refine ⟨_, ⟨oc, od, .none, .ref D, n10, n11, n12, n13, n14, osl, rfl, q, k1, .inl ⟨rfl, rfl⟩, .inr ⟨D, rfl, fun p hp => ?_⟩⟩, kp⟩
          rcases List.mem_cons.mp hp with rfl | hp
          · exact kwI_ok k3
          · rw [List.mem_singleton.mp hp]
            exact kwI_ok k4
        | _ => cases k3
      | _ => cases k2
    | _ => cases c2
theorem parse_binds {K : PySem.W.Frag} {f : Addr} {fd : FuncData} (F : FunD K "parse_integer" "parse_integer" (defArgs N3.sParse) (defBody N3.sParse) (defScope N3.sParse) [] [("low", .int (-999)), ("high", .int 999)] f fd) : ∃ ds, Vals [V.int (-999), V.int 999] ds ∧ Binds K fd ["text", "low", "high"] ds :=
  F.binds0 (ps := ["text", "low", "high"]) 1 (by simp) rfl fun D doc pm an cdv ct us ks h1 h2 => match us, ks, h1, h2 with
    | [_], [_, _], _, _ => ⟨_, _, _, _, _, _, rfl, rfl, _, _, _, _, _, _, rfl, rfl, rfl⟩
/-- an order of fields that are right, by the promise that knows of exceptions -/
theorem by_same (C CO CM : Addr) : ∀ vs H Q (E : XK), spByR C vs H Q E → spByRX C CO CM vs H Q E0 := by
  rintro vs H Q E ⟨us, rest, ev, hl, hz, h⟩
  refine ⟨us, rest, ev, hl, hz, fun p hp => ?_⟩
  obtain ⟨a, dx, t, fs, e1, ha, ht, l1, l3, ok, q⟩ := h p hp
  have et : upd H p (.tup rest) t = some (.tup ((tws fs).map V.str)) := by
    rw [ht, List.map_map]
    rfl
  refine ⟨a, dx, t, tws fs, e1, ha, et, by rw [List.length_map]; exact l1, by rw [List.length_map]; omega, tws_wd ok, fun _ H' s' => q H' s', fun no => absurd (tws_ord ok l3) (by rw [no]; decide)⟩
abbrev PX : Program := PySem.W.OpenLaw.prog PySem.Challenge.rw_listviews_k16_texts_of_orders_and_plus
def cks0 : List Ck := [
  fun K => He.Fa.ok K (.free "isinstance"),
  fun K => He.Fa.ok K (.free "int"),
  fun K => He.Fa.ok K (.free "bool"),
  fun K => He.Fa.ok K (.free "str"),
  fun K => He.Fa.ok K (.free "len"),
  fun K => He.Fa.ok K (.free "all"),
  fun K => He.Fa.ok K (.free "list"),
  fun K => He.Fa.ok K (.free "range"),
  fun K => He.Fa.ok K (.free "min"),
  fun K => He.Fa.ok K (.free "max"),
  fun K => He.Fa.ok K (.free "tuple"),
  fun K => He.Fa.ok K (.str "LETTERS" "abcdefghijklmnopqrstuvwxyz"),
  fun K => He.Fa.ok K (.str "DIGITS" "0123456789"),
  fun K => He.Fa.ok K (.int "MOST_LETTERS" 8),
  fun K => He.Fa.ok K (.int "MOST_DIGITS" 30),
  fun K => He.Fa.ok K (.int "GREATEST" 999),
  fun K => He.Fa.ok K (.int "MOST_IN_ORDER" 3),
  fun K => plainB K (He.ga K "is_integer") "is_integer",
  fun K => He.Fa.ok K (.glo "is_integer"),
  fun K => plainB K (He.ga K "is_name") "is_name",
  fun K => He.Fa.ok K (.glo "is_name"),
  fun K => plainB K (He.ga K "is_decimal") "is_decimal",
  fun K => He.Fa.ok K (.glo "is_decimal"),
  fun K => plainB K (He.ga K "split_words") "split_words",
  fun K => He.Fa.ok K (.glo "split_words"),
  fun K => plainB K (He.ga K "need_integer") "need_integer",
  fun K => He.Fa.ok K (.glo "need_integer"),
  fun K => plainB K (He.ga K "need_name") "need_name",
  fun K => He.Fa.ok K (.glo "need_name"),
  fun K => plainB K (He.ga K "is_signed_field") "is_signed_field"]
def cks1 : List Ck := [
  fun K => He.Fa.ok K (.glo "is_signed_field"),
  fun K => plainB K (He.ga K "_law_cell") "_law_cell",
  fun K => He.Fa.ok K (.glo "_law_cell"),
  fun K => plainB K (He.ga K "_law_box") "_law_box",
  fun K => He.Fa.ok K (.glo "_law_box"),
  fun K => plainB K (He.ga K "_law_take") "_law_take",
  fun K => He.Fa.ok K (.glo "_law_take"),
  fun K => plainB K (He.ga K "_law_mixed") "_law_mixed",
  fun K => He.Fa.ok K (.glo "_law_mixed"),
  fun K => plainB K (He.ga K "_law_names") "_law_names",
  fun K => He.Fa.ok K (.glo "_law_names"),
  fun K => plainB K (He.ga K "_law_number") "_law_number",
  fun K => He.Fa.ok K (.glo "_law_number"),
  fun K => plainB K (He.ga K "_law_is_name") "_law_is_name",
  fun K => He.Fa.ok K (.glo "_law_is_name"),
  fun K => plainB K (He.ga K "_law_int") "_law_int",
  fun K => He.Fa.ok K (.glo "_law_int"),
  fun K => plainB K (He.ga K "_law_fields") "_law_fields",
  fun K => He.Fa.ok K (.glo "_law_fields"),
  fun K => plainB K (He.ga K "_law_order") "_law_order",
  fun K => He.Fa.ok K (.glo "_law_order"),
  fun K => plainB K (He.ga K "_law_bent") "_law_bent",
  fun K => He.Fa.ok K (.glo "_law_bent"),
  fun K => plainB K (He.ga K "_law_is_order") "_law_is_order",
  fun K => He.Fa.ok K (.glo "_law_is_order"),
  fun K => plainB K (He.ga K "_law_is_plus") "_law_is_plus",
  fun K => He.Fa.ok K (.glo "_law_is_plus"),
  fun K => plainB K (He.ga K "_law_told") "_law_told",
  fun K => He.Fa.ok K (.glo "_law_told"),
  fun K => plainB K (He.ga K "_law_right") "_law_right"]
def cks2 : List Ck := [
  fun K => He.Fa.ok K (.glo "_law_right"),
  fun K => plainB K (He.ga K "law") "law",
  fun K => He.Fa.ok K (.glo "law"),
  fun K => (PySem.W.keepIn K (.ref (He.ga K "parse_integer")) && codI K (He.ga K "parse_integer") "parse_integer" "low" (-999) "high" 999),
  fun K => He.Fa.ok K (.glo "parse_integer"),
  fun K => He.Fa.ok K (.glo "By"),
  fun K => He.Fa.ok K (.cls "By"),
  fun K => He.Fa.ok K (.noat "By" "signed_fields"),
  fun K => He.Fa.ok K (.mkr "By"),
  fun K => He.Fa.ok K (.glo "Plus"),
  fun K => He.Fa.ok K (.cls "Plus"),
  fun K => He.Fa.ok K (.noat "Plus" "field_name"),
  fun K => He.Fa.ok K (.noat "Plus" "summand"),
  fun K => He.Fa.ok K (.mkr "Plus"),
  fun K => plainB K (He.ma K (He.ga K "By") "__init__") "By.__init__",
  fun K => plainB K (He.ma K (He.ga K "Plus") "__init__") "Plus.__init__",
  fun K => plainB K (He.ma K (He.ga K "By") "__str__") "By.__str__",
  fun K => plainB K (He.ma K (He.ga K "Plus") "__str__") "Plus.__str__",
  fun K => plainB K (He.ma K (He.ga K "By") "__eq__") "By.__eq__",
  fun K => plainB K (He.ma K (He.ga K "Plus") "__eq__") "Plus.__eq__",
  fun K => plainB K (stf K (He.ma K (He.ga K "By") "read")) "By.read",
  fun K => plainB K (stf K (He.ma K (He.ga K "Plus") "read")) "Plus.read",
  fun K => eqoB K (He.ga K "By") (He.ma K (He.ga K "By") "__eq__"),
  fun K => strB K (He.ga K "By") (He.ma K (He.ga K "By") "__str__"),
  fun K => smB K (He.ga K "By") "read",
  fun K => owcB K (He.ga K "By"),
  fun K => eqoB K (He.ga K "Plus") (He.ma K (He.ga K "Plus") "__eq__"),
  fun K => strB K (He.ga K "Plus") (He.ma K (He.ga K "Plus") "__str__"),
  fun K => smB K (He.ga K "Plus") "read",
  fun K => owcB K (He.ga K "Plus")]
def cks3 : List Ck := [
  fun K => He.Fa.ok K (.glo "BoardError"),
  fun K => He.Fa.ok K (.glo "InvalidOrder"),
  fun K => plainB K (He.ma K (He.ga K "InvalidOrder") "__init__") "InvalidOrder.__init__",
  fun K => oexB K (He.ga K "InvalidOrder"),
  fun K => exjB K (He.ga K "InvalidOrder") (He.ma K (He.ga K "InvalidOrder") "__init__") "value",
  fun K => decide (PySem.W.exmOne K (.ref (He.ga K "InvalidOrder")) (.ref (He.ga K "BoardError")) = some true),
  fun K => He.Fa.ok K (.glo "TooMany"),
  fun K => plainB K (He.ma K (He.ga K "TooMany") "__init__") "TooMany.__init__",
  fun K => oexB K (He.ga K "TooMany"),
  fun K => exjB K (He.ga K "TooMany") (He.ma K (He.ga K "TooMany") "__init__") "count",
  fun K => decide (PySem.W.exmOne K (.ref (He.ga K "TooMany")) (.ref (He.ga K "BoardError")) = some true),
  fun K => He.Fa.ok K (.glo "InvalidName"),
  fun K => plainB K (He.ma K (He.ga K "InvalidName") "__init__") "InvalidName.__init__",
  fun K => oexB K (He.ga K "InvalidName"),
  fun K => exjB K (He.ga K "InvalidName") (He.ma K (He.ga K "InvalidName") "__init__") "value",
  fun K => decide (PySem.W.exmOne K (.ref (He.ga K "InvalidName")) (.ref (He.ga K "BoardError")) = some true),
  fun K => He.Fa.ok K (.glo "InvalidInteger"),
  fun K => plainB K (He.ma K (He.ga K "InvalidInteger") "__init__") "InvalidInteger.__init__",
  fun K => oexB K (He.ga K "InvalidInteger"),
  fun K => exjB K (He.ga K "InvalidInteger") (He.ma K (He.ga K "InvalidInteger") "__init__") "value",
  fun K => decide (PySem.W.exmOne K (.ref (He.ga K "InvalidInteger")) (.ref (He.ga K "BoardError")) = some true),
  fun K => He.Fa.ok K (.glo "InvalidText"),
  fun K => plainB K (He.ma K (He.ga K "InvalidText") "__init__") "InvalidText.__init__",
  fun K => oexB K (He.ga K "InvalidText"),
  fun K => exjB K (He.ga K "InvalidText") (He.ma K (He.ga K "InvalidText") "__init__") "value",
  fun K => decide (PySem.W.exmOne K (.ref (He.ga K "InvalidText")) (.ref (He.ga K "InvalidText")) = some true),
  fun K => xfB K (He.ga K "InvalidText")]
abbrev cks : List Ck := cks0 ++ cks1 ++ cks2 ++ cks3
def fns0 : List Dp := [
  ⟨fun K => He.ga K "is_integer", "is_integer", "is_integer", sIsInt, []⟩,
  ⟨fun K => He.ga K "is_name", "is_name", "is_name", sIsName, []⟩,
  ⟨fun K => He.ga K "is_decimal", "is_decimal", "is_decimal", N3.sDec, []⟩,
  ⟨fun K => He.ga K "split_words", "split_words", "split_words", N3.sSplit, []⟩,
  ⟨fun K => He.ga K "need_integer", "need_integer", "need_integer", sNeedInt, []⟩,
  ⟨fun K => He.ga K "need_name", "need_name", "need_name", sNeedName, []⟩,
  ⟨fun K => He.ga K "is_signed_field", "is_signed_field", "is_signed_field", sSigned, []⟩,
  ⟨fun K => He.ga K "_law_cell", "_law_cell", "_law_cell", sCell, []⟩,
  ⟨fun K => He.ga K "_law_box", "_law_box", "_law_box", sBox, []⟩,
  ⟨fun K => He.ga K "_law_take", "_law_take", "_law_take", sTake, []⟩,
  ⟨fun K => He.ga K "_law_mixed", "_law_mixed", "_law_mixed", sMixed, []⟩,
  ⟨fun K => He.ga K "_law_names", "_law_names", "_law_names", sNames, []⟩,
  ⟨fun K => He.ga K "_law_number", "_law_number", "_law_number", sNumber, []⟩,
  ⟨fun K => He.ga K "_law_is_name", "_law_is_name", "_law_is_name", sLIsName, []⟩,
  ⟨fun K => He.ga K "_law_int", "_law_int", "_law_int", sLInt, []⟩,
  ⟨fun K => He.ga K "_law_fields", "_law_fields", "_law_fields", sFields, []⟩,
  ⟨fun K => He.ga K "_law_order", "_law_order", "_law_order", sOrder, []⟩,
  ⟨fun K => He.ga K "_law_bent", "_law_bent", "_law_bent", sBent, []⟩,
  ⟨fun K => He.ga K "_law_is_order", "_law_is_order", "_law_is_order", sLOrd, []⟩,
  ⟨fun K => He.ga K "_law_is_plus", "_law_is_plus", "_law_is_plus", sLPlus, []⟩]
def fns1 : List Dp := [
  ⟨fun K => He.ga K "_law_told", "_law_told", "_law_told", sTold, []⟩,
  ⟨fun K => He.ga K "_law_right", "_law_right", "_law_right", sR, []⟩,
  ⟨fun K => He.ga K "law", "law", "law", sLaw, []⟩,
  ⟨fun K => He.ga K "parse_integer", "parse_integer", "parse_integer", N3.sParse, []⟩,
  ⟨fun K => He.ma K (He.ga K "By") "__init__", "__init__", "By.__init__", (sBy 0), []⟩,
  ⟨fun K => He.ma K (He.ga K "Plus") "__init__", "__init__", "Plus.__init__", (sPl 0), []⟩,
  ⟨fun K => He.ma K (He.ga K "By") "__str__", "__str__", "By.__str__", (sBy 8), []⟩,
  ⟨fun K => He.ma K (He.ga K "Plus") "__str__", "__str__", "Plus.__str__", (sPl 5), []⟩,
  ⟨fun K => He.ma K (He.ga K "By") "__eq__", "__eq__", "By.__eq__", (sBy 7), []⟩,
  ⟨fun K => He.ma K (He.ga K "Plus") "__eq__", "__eq__", "Plus.__eq__", (sPl 4), []⟩,
  ⟨fun K => stf K (He.ma K (He.ga K "By") "read"), "read", "By.read", (sBy 11), []⟩,
  ⟨fun K => stf K (He.ma K (He.ga K "Plus") "read"), "read", "Plus.read", (sPl 6), []⟩,
  ⟨fun K => He.ma K (He.ga K "InvalidOrder") "__init__", "__init__", "InvalidOrder.__init__", (sErr 6), []⟩,
  ⟨fun K => He.ma K (He.ga K "TooMany") "__init__", "__init__", "TooMany.__init__", (sErr 8), []⟩,
  ⟨fun K => He.ma K (He.ga K "InvalidName") "__init__", "__init__", "InvalidName.__init__", (sErr 4), []⟩,
  ⟨fun K => He.ma K (He.ga K "InvalidInteger") "__init__", "__init__", "InvalidInteger.__init__", (sErr 3), []⟩,
  ⟨fun K => He.ma K (He.ga K "InvalidText") "__init__", "__init__", "InvalidText.__init__", (sErr 7), []⟩]
abbrev fns : List Dp := fns0 ++ fns1
theorem facts {w : World} {K : PySem.W.Frag} {h : Heap} {mg : Str → Option Value} {fa : Addr} (X : K.In h) (G : h.Ns mainGlobals mg) (hfa : mg "law" = some (.ref fa)) (c : SaysP cks fns K) :
    ∃ fd : FuncData, (∀ (s : Shared) (u : Value), BindsTo s fd ⟨[u], []⟩ [("_law_script", u)]) ∧ ∀ base : Heap, K.In base → base.Ns mainGlobals mg → FnG PX w K mg base CX0 9 fa fd ["_law_script"] (spLaw K) := by
  have m_isinstance : mg "isinstance" = none := He.free_ok X G (c.ck 0 rfl)
  have m_int : mg "int" = none := He.free_ok X G (c.ck 1 rfl)
  have m_bool : mg "bool" = none := He.free_ok X G (c.ck 2 rfl)
  have m_str : mg "str" = none := He.free_ok X G (c.ck 3 rfl)
  have m_len : mg "len" = none := He.free_ok X G (c.ck 4 rfl)
  have m_all : mg "all" = none := He.free_ok X G (c.ck 5 rfl)
  have m_list : mg "list" = none := He.free_ok X G (c.ck 6 rfl)
  have m_range : mg "range" = none := He.free_ok X G (c.ck 7 rfl)
  have m_min : mg "min" = none := He.free_ok X G (c.ck 8 rfl)
  have m_max : mg "max" = none := He.free_ok X G (c.ck 9 rfl)
  have m_tuple : mg "tuple" = none := He.free_ok X G (c.ck 10 rfl)
  obtain ⟨tcLet, gcLet⟩ := He.str_ok X G (x := "LETTERS") (c.ck 11 rfl)
  obtain ⟨tcDi, gcDi⟩ := He.str_ok X G (x := "DIGITS") (c.ck 12 rfl)
  obtain ⟨tcML, gcML⟩ := He.int_ok X G (x := "MOST_LETTERS") (c.ck 13 rfl)
  obtain ⟨tcMD, gcMD⟩ := He.int_ok X G (x := "MOST_DIGITS") (c.ck 14 rfl)
  obtain ⟨tcG, gcG⟩ := He.int_ok X G (x := "GREATEST") (c.ck 15 rfl)
  obtain ⟨tcM3, gcM3⟩ := He.int_ok X G (x := "MOST_IN_ORDER") (c.ck 16 rfl)
  obtain ⟨fd1, F1⟩ : ∃ fd, Fun K "is_integer" "is_integer" sIsInt (He.ga K "is_integer") fd := fun_of (c.at_ 0 rfl) rfl (c.ck 17 rfl)
  have b1 := F1.binds (ps := ["value", "low", "high"]) fun _ _ _ _ _ _ us hl => match us, hl with | [_, _, _], _ => rfl
  have g1 : mg "is_integer" = some (.ref (He.ga K "is_integer")) := He.glo_ok X G (c.ck 18 rfl)
  have k1 := F1.kp
  obtain ⟨fd2, F2⟩ : ∃ fd, Fun K "is_name" "is_name" sIsName (He.ga K "is_name") fd := fun_of (c.at_ 1 rfl) rfl (c.ck 19 rfl)
  have b2 := F2.binds (ps := ["value"]) fun _ _ _ _ _ _ us hl => match us, hl with | [_], _ => rfl
  have g2 : mg "is_name" = some (.ref (He.ga K "is_name")) := He.glo_ok X G (c.ck 20 rfl)
  have k2 := F2.kp
  obtain ⟨fddc, Fdc⟩ : ∃ fd, Fun K "is_decimal" "is_decimal" N3.sDec (He.ga K "is_decimal") fd := fun_of (c.at_ 2 rfl) rfl (c.ck 21 rfl)
  have bdc := Fdc.binds (ps := ["text"]) fun _ _ _ _ _ _ us hl => match us, hl with | [_], _ => rfl
  have gdc : mg "is_decimal" = some (.ref (He.ga K "is_decimal")) := He.glo_ok X G (c.ck 22 rfl)
  have kdc := Fdc.kp
  obtain ⟨fdsp, Fsp⟩ : ∃ fd, Fun K "split_words" "split_words" N3.sSplit (He.ga K "split_words") fd := fun_of (c.at_ 3 rfl) rfl (c.ck 23 rfl)
  have bsp := Fsp.binds (ps := ["text"]) fun _ _ _ _ _ _ us hl => match us, hl with | [_], _ => rfl
  have gsp : mg "split_words" = some (.ref (He.ga K "split_words")) := He.glo_ok X G (c.ck 24 rfl)
  have ksp := Fsp.kp
  obtain ⟨fdni, Fni⟩ : ∃ fd, Fun K "need_integer" "need_integer" sNeedInt (He.ga K "need_integer") fd := fun_of (c.at_ 4 rfl) rfl (c.ck 25 rfl)
  have bni := Fni.binds (ps := ["value", "low", "high"]) fun _ _ _ _ _ _ us hl => match us, hl with | [_, _, _], _ => rfl
  have gni : mg "need_integer" = some (.ref (He.ga K "need_integer")) := He.glo_ok X G (c.ck 26 rfl)
  have kni := Fni.kp
  obtain ⟨fdnm, Fnm⟩ : ∃ fd, Fun K "need_name" "need_name" sNeedName (He.ga K "need_name") fd := fun_of (c.at_ 5 rfl) rfl (c.ck 27 rfl)
  have bnm := Fnm.binds (ps := ["value"]) fun _ _ _ _ _ _ us hl => match us, hl with | [_], _ => rfl
  have gnm : mg "need_name" = some (.ref (He.ga K "need_name")) := He.glo_ok X G (c.ck 28 rfl)
  have knm := Fnm.kp
  obtain ⟨fdsg, Fsg⟩ : ∃ fd, Fun K "is_signed_field" "is_signed_field" sSigned (He.ga K "is_signed_field") fd := fun_of (c.at_ 6 rfl) rfl (c.ck 29 rfl)
  have bsg := Fsg.binds (ps := ["value"]) fun _ _ _ _ _ _ us hl => match us, hl with | [_], _ => rfl
  have gsg : mg "is_signed_field" = some (.ref (He.ga K "is_signed_field")) := He.glo_ok X G (c.ck 30 rfl)
  have ksg := Fsg.kp
  obtain ⟨fd8, F8⟩ : ∃ fd, Fun K "_law_cell" "_law_cell" sCell (He.ga K "_law_cell") fd := fun_of (c.at_ 7 rfl) rfl (c.ck 31 rfl)
  have b8 := F8.binds (ps := ["_law_script", "_law_k"]) fun _ _ _ _ _ _ us hl => match us, hl with | [_, _], _ => rfl
  have g8 : mg "_law_cell" = some (.ref (He.ga K "_law_cell")) := He.glo_ok X G (c.ck 32 rfl)
  have k8 := F8.kp
  obtain ⟨fd9, F9⟩ : ∃ fd, Fun K "_law_box" "_law_box" sBox (He.ga K "_law_box") fd := fun_of (c.at_ 8 rfl) rfl (c.ck 33 rfl)
  have b9 := F9.binds (ps := ["_law_cell_here"]) fun _ _ _ _ _ _ us hl => match us, hl with | [_], _ => rfl
  have g9 : mg "_law_box" = some (.ref (He.ga K "_law_box")) := He.glo_ok X G (c.ck 34 rfl)
  have k9 := F9.kp
  obtain ⟨fdA, FA⟩ : ∃ fd, Fun K "_law_take" "_law_take" sTake (He.ga K "_law_take") fd := fun_of (c.at_ 9 rfl) rfl (c.ck 35 rfl)
  have bA := FA.binds (ps := ["_law_box_here", "_law_many"]) fun _ _ _ _ _ _ us hl => match us, hl with | [_, _], _ => rfl
  have gA : mg "_law_take" = some (.ref (He.ga K "_law_take")) := He.glo_ok X G (c.ck 36 rfl)
  have kA := FA.kp
  obtain ⟨fdB, FB⟩ : ∃ fd, Fun K "_law_mixed" "_law_mixed" sMixed (He.ga K "_law_mixed") fd := fun_of (c.at_ 10 rfl) rfl (c.ck 37 rfl)
  have bB := FB.binds (ps := ["_law_box_here", "_law_some"]) fun _ _ _ _ _ _ us hl => match us, hl with | [_, _], _ => rfl
  have gB : mg "_law_mixed" = some (.ref (He.ga K "_law_mixed")) := He.glo_ok X G (c.ck 38 rfl)
  have kB := FB.kp
  obtain ⟨fdC, FC⟩ : ∃ fd, Fun K "_law_names" "_law_names" sNames (He.ga K "_law_names") fd := fun_of (c.at_ 11 rfl) rfl (c.ck 39 rfl)
  have bC := FC.binds (ps := ["_law_box_here", "_law_many"]) fun _ _ _ _ _ _ us hl => match us, hl with | [_, _], _ => rfl
  have gC : mg "_law_names" = some (.ref (He.ga K "_law_names")) := He.glo_ok X G (c.ck 40 rfl)
  have kC := FC.kp
  obtain ⟨fdD, FD⟩ : ∃ fd, Fun K "_law_number" "_law_number" sNumber (He.ga K "_law_number") fd := fun_of (c.at_ 12 rfl) rfl (c.ck 41 rfl)
  have bD := FD.binds (ps := ["_law_box_here"]) fun _ _ _ _ _ _ us hl => match us, hl with | [_], _ => rfl
  have gD : mg "_law_number" = some (.ref (He.ga K "_law_number")) := He.glo_ok X G (c.ck 42 rfl)
  have kD := FD.kp
  obtain ⟨fdln, Fln⟩ : ∃ fd, Fun K "_law_is_name" "_law_is_name" sLIsName (He.ga K "_law_is_name") fd := fun_of (c.at_ 13 rfl) rfl (c.ck 43 rfl)
  have bln := Fln.binds (ps := ["_law_thing"]) fun _ _ _ _ _ _ us hl => match us, hl with | [_], _ => rfl
  have gln : mg "_law_is_name" = some (.ref (He.ga K "_law_is_name")) := He.glo_ok X G (c.ck 44 rfl)
  have kln := Fln.kp
  obtain ⟨fdli, Fli⟩ : ∃ fd, Fun K "_law_int" "_law_int" sLInt (He.ga K "_law_int") fd := fun_of (c.at_ 14 rfl) rfl (c.ck 45 rfl)
  have bli := Fli.binds (ps := ["_law_word"]) fun _ _ _ _ _ _ us hl => match us, hl with | [_], _ => rfl
  have gli : mg "_law_int" = some (.ref (He.ga K "_law_int")) := He.glo_ok X G (c.ck 46 rfl)
  have kli := Fli.kp
  obtain ⟨fdfd, Ffd⟩ : ∃ fd, Fun K "_law_fields" "_law_fields" sFields (He.ga K "_law_fields") fd := fun_of (c.at_ 15 rfl) rfl (c.ck 47 rfl)
  have bfd := Ffd.binds (ps := ["_law_box_here", "_law_names_here", "_law_most"]) fun _ _ _ _ _ _ us hl => match us, hl with | [_, _, _], _ => rfl
  have gfd : mg "_law_fields" = some (.ref (He.ga K "_law_fields")) := He.glo_ok X G (c.ck 48 rfl)
  have kfd := Ffd.kp
  obtain ⟨fdor, For⟩ : ∃ fd, Fun K "_law_order" "_law_order" sOrder (He.ga K "_law_order") fd := fun_of (c.at_ 16 rfl) rfl (c.ck 49 rfl)
  have bor := For.binds (ps := ["_law_fields_here"]) fun _ _ _ _ _ _ us hl => match us, hl with | [_], _ => rfl
  have gor : mg "_law_order" = some (.ref (He.ga K "_law_order")) := He.glo_ok X G (c.ck 50 rfl)
  have kor := For.kp
  obtain ⟨fdbt, Fbt⟩ : ∃ fd, Fun K "_law_bent" "_law_bent" sBent (He.ga K "_law_bent") fd := fun_of (c.at_ 17 rfl) rfl (c.ck 51 rfl)
  have bbt := Fbt.binds (ps := ["_law_box_here", "_law_text"]) fun _ _ _ _ _ _ us hl => match us, hl with | [_, _], _ => rfl
  have gbt : mg "_law_bent" = some (.ref (He.ga K "_law_bent")) := He.glo_ok X G (c.ck 52 rfl)
  have kbt := Fbt.kp
  obtain ⟨fdlo, Flo⟩ : ∃ fd, Fun K "_law_is_order" "_law_is_order" sLOrd (He.ga K "_law_is_order") fd := fun_of (c.at_ 18 rfl) rfl (c.ck 53 rfl)
  have blo := Flo.binds (ps := ["_law_text"]) fun _ _ _ _ _ _ us hl => match us, hl with | [_], _ => rfl
  have glo : mg "_law_is_order" = some (.ref (He.ga K "_law_is_order")) := He.glo_ok X G (c.ck 54 rfl)
  have klo := Flo.kp
  obtain ⟨fdlp, Flp⟩ : ∃ fd, Fun K "_law_is_plus" "_law_is_plus" sLPlus (He.ga K "_law_is_plus") fd := fun_of (c.at_ 19 rfl) rfl (c.ck 55 rfl)
  have blp := Flp.binds (ps := ["_law_text"]) fun _ _ _ _ _ _ us hl => match us, hl with | [_], _ => rfl
  have glp : mg "_law_is_plus" = some (.ref (He.ga K "_law_is_plus")) := He.glo_ok X G (c.ck 56 rfl)
  have klp := Flp.kp
  obtain ⟨fdto, Fto⟩ : ∃ fd, Fun K "_law_told" "_law_told" sTold (He.ga K "_law_told") fd := fun_of (c.at_ 20 rfl) rfl (c.ck 57 rfl)
  have bto := Fto.binds (ps := ["_law_way", "_law_text"]) fun _ _ _ _ _ _ us hl => match us, hl with | [_, _], _ => rfl
  have gto : mg "_law_told" = some (.ref (He.ga K "_law_told")) := He.glo_ok X G (c.ck 58 rfl)
  have kto := Fto.kp
  obtain ⟨fdri, Fri⟩ : ∃ fd, Fun K "_law_right" "_law_right" sR (He.ga K "_law_right") fd := fun_of (c.at_ 21 rfl) rfl (c.ck 59 rfl)
  have bri := Fri.binds (ps := ["_law_box_here", "_law_names_here"]) fun _ _ _ _ _ _ us hl => match us, hl with | [_, _], _ => rfl
  have gri : mg "_law_right" = some (.ref (He.ga K "_law_right")) := He.glo_ok X G (c.ck 60 rfl)
  have kri := Fri.kp
  obtain ⟨fdL, FL⟩ : ∃ fd, Fun K "law" "law" sLaw (He.ga K "law") fd := fun_of (c.at_ 22 rfl) rfl (c.ck 61 rfl)
  have bL := FL.binds (ps := ["_law_script"]) fun _ _ _ _ _ _ us hl => match us, hl with | [_], _ => rfl
  have gL : mg "law" = some (.ref (He.ga K "law")) := He.glo_ok X G (c.ck 62 rfl)
  have kL := FL.kp
  obtain ⟨fdpi, Fpi⟩ : ∃ fd, FunD K "parse_integer" "parse_integer" (defArgs N3.sParse) (defBody N3.sParse) (defScope N3.sParse) [] [("low", .int (-999)), ("high", .int 999)] (He.ga K "parse_integer") fd := funi_of (c.at_ 23 rfl) rfl (c.ck 63 rfl)
  have gpi : mg "parse_integer" = some (.ref (He.ga K "parse_integer")) := He.glo_ok X G (c.ck 64 rfl)
  have kpi := Fpi.kp
  obtain ⟨dpi, vpi, bpi⟩ := parse_binds Fpi
  have gBy : mg "By" = some (.ref (He.ga K "By")) := He.glo_ok X G (c.ck 65 rfl)
  have cBy : Cls K (He.ga K "By") := He.cls_ok (c.ck 66 rfl)
  have nBy_signed_fields : NoAttr K (He.ga K "By") "signed_fields" := He.noat_ok (c.ck 67 rfl)
  have MBy : Mk K (He.ga K "By") (He.ma K (He.ga K "By") "__init__") := He.mkr_ok (c.ck 68 rfl)
  have gPl : mg "Plus" = some (.ref (He.ga K "Plus")) := He.glo_ok X G (c.ck 69 rfl)
  have cPl : Cls K (He.ga K "Plus") := He.cls_ok (c.ck 70 rfl)
  have nPl_field_name : NoAttr K (He.ga K "Plus") "field_name" := He.noat_ok (c.ck 71 rfl)
  have nPl_summand : NoAttr K (He.ga K "Plus") "summand" := He.noat_ok (c.ck 72 rfl)
  have MPl : Mk K (He.ga K "Plus") (He.ma K (He.ga K "Plus") "__init__") := He.mkr_ok (c.ck 73 rfl)
  obtain ⟨fdbi, Fbi⟩ : ∃ fd, Fun K "__init__" "By.__init__" (sBy 0) (He.ma K (He.ga K "By") "__init__") fd := fun_of (c.at_ 24 rfl) rfl (c.ck 74 rfl)
  obtain ⟨fdqi, Fqi⟩ : ∃ fd, Fun K "__init__" "Plus.__init__" (sPl 0) (He.ma K (He.ga K "Plus") "__init__") fd := fun_of (c.at_ 25 rfl) rfl (c.ck 75 rfl)
  have bqi := Fqi.binds (ps := ["self", "field", "number"]) fun _ _ _ _ _ _ us hl => match us, hl with | [_, _, _], _ => rfl
  obtain ⟨fdbs, Fbs⟩ : ∃ fd, Fun K "__str__" "By.__str__" (sBy 8) (He.ma K (He.ga K "By") "__str__") fd := fun_of (c.at_ 26 rfl) rfl (c.ck 76 rfl)
  have bbs := Fbs.binds (ps := ["self"]) fun _ _ _ _ _ _ us hl => match us, hl with | [_], _ => rfl
  obtain ⟨fdps, Fps⟩ : ∃ fd, Fun K "__str__" "Plus.__str__" (sPl 5) (He.ma K (He.ga K "Plus") "__str__") fd := fun_of (c.at_ 27 rfl) rfl (c.ck 77 rfl)
  have bps := Fps.binds (ps := ["self"]) fun _ _ _ _ _ _ us hl => match us, hl with | [_], _ => rfl
  obtain ⟨fdbe, Fbe⟩ : ∃ fd, Fun K "__eq__" "By.__eq__" (sBy 7) (He.ma K (He.ga K "By") "__eq__") fd := fun_of (c.at_ 28 rfl) rfl (c.ck 78 rfl)
  have bbe := Fbe.binds (ps := ["self", "other"]) fun _ _ _ _ _ _ us hl => match us, hl with | [_, _], _ => rfl
  obtain ⟨fdpe, Fpe⟩ : ∃ fd, Fun K "__eq__" "Plus.__eq__" (sPl 4) (He.ma K (He.ga K "Plus") "__eq__") fd := fun_of (c.at_ 29 rfl) rfl (c.ck 79 rfl)
  have bpe := Fpe.binds (ps := ["self", "other"]) fun _ _ _ _ _ _ us hl => match us, hl with | [_, _], _ => rfl
  obtain ⟨fdbr, Fbr⟩ : ∃ fd, Fun K "read" "By.read" (sBy 11) (stf K (He.ma K (He.ga K "By") "read")) fd := fun_of (c.at_ 30 rfl) rfl (c.ck 80 rfl)
  have bbr := Fbr.binds (ps := ["text"]) fun _ _ _ _ _ _ us hl => match us, hl with | [_], _ => rfl
  obtain ⟨fdpr, Fpr⟩ : ∃ fd, Fun K "read" "Plus.read" (sPl 6) (stf K (He.ma K (He.ga K "Plus") "read")) fd := fun_of (c.at_ 31 rfl) rfl (c.ck 81 rfl)
  have bpr := Fpr.binds (ps := ["text"]) fun _ _ _ _ _ _ us hl => match us, hl with | [_], _ => rfl
  have eqb : EqO K (He.ga K "By") (He.ma K (He.ga K "By") "__eq__") := eqo_ok (c.ck 82 rfl)
  obtain ⟨hsb, isb⟩ := str_ok (c.ck 83 rfl : strB K (He.ga K "By") (He.ma K (He.ga K "By") "__str__") = true)
  have smb : SMet K (He.ga K "By") "read" (He.ma K (He.ga K "By") "read") (stf K (He.ma K (He.ga K "By") "read")) := sm_ok (c.ck 84 rfl)
  have owb : OwC K (He.ga K "By") := owc_ok (c.ck 85 rfl) cBy
  have eqp : EqO K (He.ga K "Plus") (He.ma K (He.ga K "Plus") "__eq__") := eqo_ok (c.ck 86 rfl)
  obtain ⟨hsp, isp⟩ := str_ok (c.ck 87 rfl : strB K (He.ga K "Plus") (He.ma K (He.ga K "Plus") "__str__") = true)
  have smp : SMet K (He.ga K "Plus") "read" (He.ma K (He.ga K "Plus") "read") (stf K (He.ma K (He.ga K "Plus") "read")) := sm_ok (c.ck 88 rfl)
  have owp : OwC K (He.ga K "Plus") := owc_ok (c.ck 89 rfl) cPl
  have gBE : mg "BoardError" = some (.ref (He.ga K "BoardError")) := He.glo_ok X G (c.ck 90 rfl)
  have gxo : mg "InvalidOrder" = some (.ref (He.ga K "InvalidOrder")) := He.glo_ok X G (c.ck 91 rfl)
  obtain ⟨fdxo, Fxo⟩ : ∃ fd, Fun K "__init__" "InvalidOrder.__init__" (sErr 6) (He.ma K (He.ga K "InvalidOrder") "__init__") fd := fun_of (c.at_ 32 rfl) rfl (c.ck 92 rfl)
  have bxo := Fxo.binds (ps := ["self", "value"]) fun _ _ _ _ _ _ us hl => match us, hl with | [_, _], _ => rfl
  have Txo : OexC K (He.ga K "InvalidOrder") := oex_ok (c.ck 93 rfl)
  obtain ⟨ixo, txo, nxo⟩ := exj_ok (c.ck 94 rfl : exjB K (He.ga K "InvalidOrder") (He.ma K (He.ga K "InvalidOrder") "__init__") "value" = true)
  have sxo : PySem.W.exmOne K (.ref (He.ga K "InvalidOrder")) (.ref (He.ga K "BoardError")) = some true := of_decide_eq_true (c.ck 95 rfl)
  have gxm : mg "TooMany" = some (.ref (He.ga K "TooMany")) := He.glo_ok X G (c.ck 96 rfl)
  obtain ⟨fdxm, Fxm⟩ : ∃ fd, Fun K "__init__" "TooMany.__init__" (sErr 8) (He.ma K (He.ga K "TooMany") "__init__") fd := fun_of (c.at_ 33 rfl) rfl (c.ck 97 rfl)
  have bxm := Fxm.binds (ps := ["self", "count"]) fun _ _ _ _ _ _ us hl => match us, hl with | [_, _], _ => rfl
  have Txm : OexC K (He.ga K "TooMany") := oex_ok (c.ck 98 rfl)
  obtain ⟨ixm, txm, nxm⟩ := exj_ok (c.ck 99 rfl : exjB K (He.ga K "TooMany") (He.ma K (He.ga K "TooMany") "__init__") "count" = true)
  have sxm : PySem.W.exmOne K (.ref (He.ga K "TooMany")) (.ref (He.ga K "BoardError")) = some true := of_decide_eq_true (c.ck 100 rfl)
  have gxn : mg "InvalidName" = some (.ref (He.ga K "InvalidName")) := He.glo_ok X G (c.ck 101 rfl)
  obtain ⟨fdxn, Fxn⟩ : ∃ fd, Fun K "__init__" "InvalidName.__init__" (sErr 4) (He.ma K (He.ga K "InvalidName") "__init__") fd := fun_of (c.at_ 34 rfl) rfl (c.ck 102 rfl)
  have bxn := Fxn.binds (ps := ["self", "value"]) fun _ _ _ _ _ _ us hl => match us, hl with | [_, _], _ => rfl
  have Txn : OexC K (He.ga K "InvalidName") := oex_ok (c.ck 103 rfl)
  obtain ⟨ixn, txn, nxn⟩ := exj_ok (c.ck 104 rfl : exjB K (He.ga K "InvalidName") (He.ma K (He.ga K "InvalidName") "__init__") "value" = true)
  have sxn : PySem.W.exmOne K (.ref (He.ga K "InvalidName")) (.ref (He.ga K "BoardError")) = some true := of_decide_eq_true (c.ck 105 rfl)
  have gxi : mg "InvalidInteger" = some (.ref (He.ga K "InvalidInteger")) := He.glo_ok X G (c.ck 106 rfl)
  obtain ⟨fdxi, Fxi⟩ : ∃ fd, Fun K "__init__" "InvalidInteger.__init__" (sErr 3) (He.ma K (He.ga K "InvalidInteger") "__init__") fd := fun_of (c.at_ 35 rfl) rfl (c.ck 107 rfl)
  have bxi := Fxi.binds (ps := ["self", "value"]) fun _ _ _ _ _ _ us hl => match us, hl with | [_, _], _ => rfl
  have Txi : OexC K (He.ga K "InvalidInteger") := oex_ok (c.ck 108 rfl)
  obtain ⟨ixi, txi, nxi⟩ := exj_ok (c.ck 109 rfl : exjB K (He.ga K "InvalidInteger") (He.ma K (He.ga K "InvalidInteger") "__init__") "value" = true)
  have sxi : PySem.W.exmOne K (.ref (He.ga K "InvalidInteger")) (.ref (He.ga K "BoardError")) = some true := of_decide_eq_true (c.ck 110 rfl)
  have gxt : mg "InvalidText" = some (.ref (He.ga K "InvalidText")) := He.glo_ok X G (c.ck 111 rfl)
  obtain ⟨fdxt, Fxt⟩ : ∃ fd, Fun K "__init__" "InvalidText.__init__" (sErr 7) (He.ma K (He.ga K "InvalidText") "__init__") fd := fun_of (c.at_ 36 rfl) rfl (c.ck 112 rfl)
  have bxt := Fxt.binds (ps := ["self", "value"]) fun _ _ _ _ _ _ us hl => match us, hl with | [_, _], _ => rfl
  have Txt : OexC K (He.ga K "InvalidText") := oex_ok (c.ck 113 rfl)
  obtain ⟨ixt, txt, nxt⟩ := exj_ok (c.ck 114 rfl : exjB K (He.ga K "InvalidText") (He.ma K (He.ga K "InvalidText") "__init__") "value" = true)
  have sxt : PySem.W.exmOne K (.ref (He.ga K "InvalidText")) (.ref (He.ga K "InvalidText")) = some true := of_decide_eq_true (c.ck 115 rfl)
  have XF : XfC K (He.ga K "InvalidText") := xfB_ok (c.ck 116 rfl)
  have e := hfa.symm.trans gL
  cases e
  obtain ⟨_, _, _, _, _, _, _, _, _, hfd, _, _⟩ := FL.ex
  refine ⟨fdL, fun s u => by rw [hfd]; exact .of_eq rfl, fun base _ _ => ?_⟩
  have Exo : ErrC PX w K mg base (He.ga K "InvalidOrder") _ _ "value" := ⟨Txo, ixo, txo, bxo, ok_eO Fxo Txo nxo⟩
  have Exm : ErrC PX w K mg base (He.ga K "TooMany") _ _ "count" := ⟨Txm, ixm, txm, bxm, ok_eM Fxm Txm nxm⟩
  have Exn : ErrC PX w K mg base (He.ga K "InvalidName") _ _ "value" := ⟨Txn, ixn, txn, bxn, ok_eN Fxn Txn nxn⟩
  have Exi : ErrC PX w K mg base (He.ga K "InvalidInteger") _ _ "value" := ⟨Txi, ixi, txi, bxi, ok_eI Fxi Txi nxi⟩
  have Ext : ErrC PX w K mg base (He.ga K "InvalidText") _ _ "value" := ⟨Txt, ixt, txt, bxt, ok_eT Fxt Txt nxt⟩
  have XH : L2H.FnH PX w K mg base CX0 1 _ _ ["self", "value"] (spInitF (He.ga K "InvalidText") "value") := ok_eTH Fxt Txt nxt
  have xs : Xs K (He.ga K "BoardError") (He.ga K "InvalidOrder") (He.ga K "TooMany") (He.ga K "InvalidName") (He.ga K "InvalidInteger") := ⟨sxo, sxm, sxn, sxi⟩
  have T1 : FnOk PX w K mg base CX0 1 _ _ ["value", "low", "high"] (spIsIntT K) := ok_isintT F1 m_isinstance m_int m_bool
  have T2 : FnOk PX w K mg base CX0 1 _ _ ["value"] (spIsNameT K) := ok_isnameT F2 gcML gcLet m_isinstance m_str m_len m_all
  have Dd : FnOk PX w K mg base CX0 1 _ _ ["text"] N3.spDec := N3.ok_dec Fdc gcMD gcDi m_len m_all
  have Sw : FnOk PX w K mg base CX0 1 _ _ ["text"] (N3.spWords K) := N3.ok_split Fsp m_isinstance m_str
  have Pi : FnOk PX w K mg base CX0 2 _ _ ["text", "low", "high"] (N3.spParse K) := N3.ok_parse Fpi Dd gdc kdc bdc m_isinstance m_str m_int
  have Sg : FnOk PX w K mg base CX0 2 _ _ ["value"] spSignedT := ok_signedT Fsg k2 b2 g2 T2 m_isinstance m_str
  have Nm : FnOk PX w K mg base (L2N.CX PX w) 3 _ _ ["value"] (spNameX (He.ga K "InvalidName")) := ok_nameX Fnm k2 b2 g2 T2 Exn gxn
  have Ni : FnOk PX w K mg base (L2N.CX PX w) 3 _ _ ["value", "low", "high"] (spIntX (He.ga K "InvalidInteger")) := ok_intX Fni k1 b1 g1 T1 Exi gxi
  have Bi : FnR PX w K mg base (L2N.CX PX w) 3 _ (spByRX (He.ga K "By") (He.ga K "InvalidOrder") (He.ga K "TooMany")) := ok_byX Fbi cBy nBy_signed_fields Sg gsg ksg bsg gcM3 m_len Exo gxo Exm gxm
  have Qi0 : FnOk PX w K mg base (L2N.CX PX w) 4 _ _ ["self", "field", "number"] (spPlIX (He.ga K "Plus") (He.ga K "InvalidName") (He.ga K "InvalidInteger")) := ok_plX Fqi cPl nPl_field_name nPl_summand gcG Nm gnm knm bnm Ni gni kni bni
  have Qi := fnR_of Qi0 bqi
  have Bi4 := Bi.mono (show 3 ≤ 4 by decide)
  have Bs : FnOk PX w K mg base CX0 1 _ _ ["self"] (spByS (He.ga K "By")) := ok_bystr Fbs cBy nBy_signed_fields
  have Ps : FnOk PX w K mg base CX0 1 _ _ ["self"] (spPlS (He.ga K "Plus")) := ok_plstr Fps cPl nPl_field_name nPl_summand
  have Be : FnOk PX w K mg base CX0 1 _ _ ["self", "other"] (spByE (He.ga K "By")) := ok_byeq Fbe owb nBy_signed_fields gBy m_isinstance
  have Pe : FnOk PX w K mg base CX0 1 _ _ ["self", "other"] (spPlE (He.ga K "Plus")) := ok_pleq Fpe owp nPl_field_name nPl_summand gPl m_isinstance
  have Br : FnOk PX w K mg base (L2.CX PX w) 6 _ _ ["text"] (spReadB K (He.ga K "By") (He.ga K "InvalidText")) := ok_byread Fbr Sw gsp ksp bsp MBy Bi4 gBy Ext XH gxt gBE xs
  have Pr : FnOk PX w K mg base (L2.CX PX w) 6 _ _ ["text"] (spReadP K (He.ga K "Plus") (He.ga K "InvalidText")) := ok_plread Fpr Sw gsp ksp bsp Pi gpi kpi vpi bpi MPl Qi gPl Ext XH gxt gBE xs m_len
  have Nto : FnOk PX w K mg base CX0 7 _ _ ["_law_way", "_law_text"] (spTold K) := ok_told Fto gBy gPl smb smp Br bbr Pr bpr hsb isb bbs Bs hsp isp bps Ps gxt XF nxt sxt m_str
  have Nn : FnOk PX w K mg base CX0 3 _ _ ["_law_box_here", "_law_many"] spNames := ok_names FC FA bA gA FB bB gB m_len m_list m_range
  have Nd : FnOk PX w K mg base CX0 2 _ _ ["_law_box_here"] spNumber := ok_number FD FA bA gA
  have Ln : FnOk PX w K mg base CX0 1 _ _ ["_law_thing"] (spIsNameT K) := ok_lisname Fln m_isinstance m_str m_len
  have Li : FnOk PX w K mg base CX0 1 _ _ ["_law_word"] spLInt := ok_lint Fli m_str m_len m_int
  have Lo : FnOk PX w K mg base CX0 2 _ _ ["_law_text"] spLOrd := ok_lord Flo kln bln gln Ln m_len
  have Lp : FnOk PX w K mg base CX0 2 _ _ ["_law_text"] spLPlus := ok_lplus Flp kln bln gln Ln kli bli gli Li m_len
  have Bt : FnOk PX w K mg base CX0 2 _ _ ["_law_box_here", "_law_text"] spBent := ok_bent Fbt FA bA gA m_len
  have Fd : FnOk PX w K mg base CX0 2 _ _ ["_law_box_here", "_law_names_here", "_law_most"] spFields := ok_fields Ffd FA bA gA m_range m_len m_tuple
  have Bi0 : FnR PX w K mg base CX0 3 _ (spByR (He.ga K "By")) := fnR_down Bi (by_same _ _ _)
  have Or : FnOk PX w K mg base CX0 5 _ _ ["_law_fields_here"] (spOrder (He.ga K "By")) := ok_order For MBy Bi0 gBy m_len
  have Nr : FnOk PX w K mg base CX0 8 _ _ ["_law_box_here", "_law_names_here"] spRight := ok_right Fri FA bA gA Nto gto kto bto Lo glo klo blo Lp glp klp blp Bt gbt kbt bbt m_range Fd gfd kfd bfd Or gor kor bor Nd gD kD bD MPl Qi gPl gBy hsb isb bbs Bs hsp isp bps Ps eqb Be bbe eqp Pe bpe smb Br bbr smp Pr bpr m_len m_str
  exact ok_law FL F8 b8 g8 F9 b9 g9 FA bA gA kC bC gC Nn Nr gri kri bri m_range m_max m_min m_len
end G
set_option Elab.async false
set_option linter.all false
set_option maxRecDepth 100000
set_option maxHeartbeats 8000000
/-! XB: the top's run. -/
namespace G
open PySem PySem.Spec PyProof.Rows L2 NdefX StX
abbrev hk : PySem.W.Hook := hookP 5 cks fns
def ob (s : PySem.W.SharedT) : AlP := obsPG 5 cks fns (HandSHeadRun.getT s)
theorem ob_eq (s : PySem.W.SharedT) : ob s = hk.obs s.abs := obsPG_eq (HandSHeadRun.getT_eq s)
def loose0 : List Str := ["_wall", "BoardError", "InvalidInteger", "InvalidName", "InvalidValue", "InvalidOrder", "InvalidText", "TooMany", "LETTERS", "DIGITS", "MOST_LETTERS", "MOST_FIELDS", "MOST_DIGITS", "GREATEST", "is_integer", "is_name", "is_value", "parse_integer", "is_decimal", "split_words", "need_integer", "need_name", "need_value", "need_record", "MOST_IN_ORDER", "MISSING", "By", "Plus", "is_signed_field", "is_negative"]
def loose1 : List Str := ["opposite", "number_for", "fields_of", "_law_cell", "_law_box", "_law_take", "_law_mixed", "_law_names", "_law_number", "_law_is_name", "_law_int", "_law_fields", "_law_order", "_law_bent", "_law_is_order", "_law_is_plus", "_law_told", "_law_right"]
abbrev looseX : List Str := loose0 ++ loose1
theorem run (w : World) : HandSHeadRun.RunEq (PySem.W.OpenLaw.row PySem.Challenge.rw_listviews_k16_texts_of_orders_and_plus) (PySem.W.view PX [53]) hk ob 20000 looseX w := by
  intro os
  kernel_rfl
end G
set_option Elab.async false
set_option linter.all false
set_option maxRecDepth 100000
set_option maxHeartbeats 8000000
/-! XC: the end. -/
open PySem PySem.W PySem.Calls PyProof.Rows
set_option maxRecDepth 100000 in
set_option maxHeartbeats 0 in
theorem PySem.Challenge.cw_listviews_k16_texts_of_orders_and_plus_holds : PySem.Challenge.rw_listviews_k16_texts_of_orders_and_plus.Holds := by
  w_on; o_law
  refine HandSHeadRun.head_any (r := OpenLaw.row PySem.Challenge.rw_listviews_k16_texts_of_orders_and_plus) (q := view (OpenLaw.row PySem.Challenge.rw_listviews_k16_texts_of_orders_and_plus).prog [53]) (H := G.hk) (ob := G.ob) (M := 20000) (loose := G.looseX) (d := HandSHeadRun.topDef (OpenLaw.row PySem.Challenge.rw_listviews_k16_texts_of_orders_and_plus).prog 53) (kwd := []) G.ob_eq
    (by kernel_rfl) (fun s => by kernel_rfl) G.run (by kernel_rfl) (by kernel_rfl) (by kernel_rfl) (by rfl) (by first | assumption | decide +kernel) (by decide +kernel) ⟨rfl, rfl, rfl, rfl, rfl, by decide +kernel⟩ ?hw ?hc
  case hw => w_witness2
  case hc =>
    refine G.walk_goE (l := PySem.Challenge.rw_listviews_k16_texts_of_orders_and_plus) (n := 63) (k := 9) (x := "_law_script") rfl (by decide) (by kernel_rfl) ⟨rfl, by decide, by decide⟩ ?F
    intro w mg fa h Y GX hmg0
    obtain ⟨K, KX, c⟩ := Y
    have hmg : mg ("law" : PySem.Str) = some (.ref fa) := by
      have e : (HandSHeadRun.topDef (OpenLaw.row PySem.Challenge.rw_listviews_k16_texts_of_orders_and_plus).prog 53).name = ("law" : PySem.Str) := by kernel_rfl
      rw [← e]
      exact hmg0
    obtain ⟨fd, hb, hF⟩ := G.facts (w := w) KX GX hmg c
    exact ⟨K, fd, G.spLaw K, KX, hb, fun H a ns hl _ hS => ⟨a, ns, rfl, hS, hl, fun _ => rfl⟩, hF⟩
