import PyProof.Rows.All
import Wide.All
import OpenK.AllK
import Wide.FinOn
import HandS.ForMost
import HandS.ForExc
import HandS.ExcInit
import HandS.ExcField
import HandS.TryMany
import HandS.IsInst
import HandS.Wide
import HandS.Small
import HandS.RaiseMore
import PyProof.ReprRoads
import KE.KSuper
import HandS.ClsMeth
import HandS.Nested
import HandS.More
import PyProof.InstNe
import HandS.SlotsOwn
import HandS.Words
import HandS.NamedTupSort
import KE.KCallOwn
import KE.KOpsOwn
import HandS.Star
import HandS.MethStar
import HandS.StrMore
import HandS.Walk
import HandS.TupAny
import HandS.Defaults
import HandS.MakeKwOnly
import HandS.Property
import HandS.NoneIn
import PyProof.CallFns
import HandS.Style
import KE.KFmtOwn
import HandS.FStr
import HandS.DeepEq
import HandS.Head0
import HandS.Head1
import HandS.Head2
import HandS.HeadHook1
import HandS.HeadHook2
import PySem.Challenge.RW_listviews_k09_operators_and_equal_condit
set_option Elab.async false
set_option linter.all false
set_option maxRecDepth 100000
set_option maxHeartbeats 2000000
/-! G1: what a def keeps where no guard is under way; repr of data at any depth, dicts too. -/
namespace G
open PySem PySem.Spec PyProof.Rows L2

/-! ### how long a shown text is -/
mutual
def mass : PyData → Nat
  | .none => 4
  | .bool _ => 5
  | .int _ => 1921
  | .str x => (reprText x).length
  | .list xs => 3 + massAll xs
  | .tuple xs => 4 + massAll xs
  | .dict kvs => 3 + massKv kvs
def massAll : List PyData → Nat
  | [] => 0
  | x :: xs => mass x + 2 + massAll xs
def massKv : List (PyData × PyData) → Nat
  | [] => 0
  | (k, v) :: r => mass k + mass v + 4 + massKv r
end
theorem text_from_le : ∀ (ts : List Str) (k : Nat) (acc : Str), (textFrom k acc ts).length ≤ acc.length + piled ts
  | [], k, acc => by
    show acc.length ≤ acc.length + 0
    omega
  | t :: r, k, acc => by
    have h1 := text_from_le r (k + 1) (acc ++ (if k > 0 then ", " else "" : String) ++ t)
    rw [strLen_append, strLen_append] at h1
    have h2 : (((if k > 0 then ", " else "" : String) : Str)).length ≤ 2 := by
      split <;> decide
    show (textFrom (k + 1) _ r).length ≤ _
    rw [piled_cons]
    omega
theorem list_text_le (ts : List Str) : (listText ts).length ≤ 3 + piled ts := by
  unfold listText
  rw [strLen_append]
  have h1 := text_from_le ts 0 "["
  have e1 : ((("[" : String) : Str)).length = 1 := rfl
  have e2 : ((("]" : String) : Str)).length = 1 := rfl
  rw [e1] at h1
  rw [e2]
  omega
theorem join_le (ts : List Str) : (Str.join ", " ts).length ≤ piled ts := by
  by_cases h : ts = []
  · subst h
    exact Nat.le_refl 0
  · have := join_length_add ts h
    omega
theorem tuple_text_le (ts : List Str) : (tupleText ts).length ≤ 4 + piled ts := by
  unfold tupleText
  rw [strLen_append, strLen_append]
  have h1 := join_le ts
  have e1 : ((("(" : String) : Str)).length = 1 := rfl
  have e3 : (((if ts.length == 1 then ",)" else ")" : String) : Str)).length ≤ 2 := by split <;> decide
  rw [e1]
  omega
theorem dict_text_le (ts : List Str) : (dictText ts).length ≤ 3 + piled ts := by
  unfold dictText
  rw [strLen_append, strLen_append]
  have h1 := join_le ts
  have e1 : ((("{" : String) : Str)).length = 1 := rfl
  have e3 : ((("}" : String) : Str)).length = 1 := rfl
  rw [e1, e3]
  omega
mutual
theorem shown_le : ∀ d : PyData, d.showable = true → d.shown.length ≤ mass d
  | .none, _ => by decide
  | .bool b, _ => by cases b <;> decide
  | .int i, h => by
    have h' : i.natAbs.log2 < 1920 := by simpa [PyData.showable] using h
    have h2 := int_text_length_le (by decide) h'
    show (Str.ofString (toString i)).length ≤ 1921
    rw [PySem.ofString_length]
    exact h2
  | .str x, _ => by
    simp only [PyData.shown, mass]
    exact Nat.le_refl _
  | .list xs, h => by
    have h' : PyData.showableAll xs = true := by simpa [PyData.showable] using h
    have h1 := list_text_le (PyData.shownAll xs)
    have h2 := shown_all_le xs h'
    simp only [PyData.shown, mass]
    omega
  | .tuple xs, h => by
    have h' : PyData.showableAll xs = true := by simpa [PyData.showable] using h
    have h1 := tuple_text_le (PyData.shownAll xs)
    have h2 := shown_all_le xs h'
    simp only [PyData.shown, mass]
    omega
  | .dict kvs, h => by
    have h' : PyData.showableKv kvs = true := by simpa [PyData.showable] using h
    have h1 := dict_text_le (PyData.shownKv kvs)
    have h2 := shown_kv_le kvs h'
    simp only [PyData.shown, mass]
    omega
theorem shown_all_le : ∀ xs : List PyData, PyData.showableAll xs = true → piled (PyData.shownAll xs) ≤ massAll xs
  | [], _ => by
    simp only [PyData.shownAll, massAll, piled_nil]
    exact Nat.le_refl _
  | x :: xs, h => by
    simp only [PyData.showableAll, Bool.and_eq_true] at h
    have h1 := shown_le x h.1
    have h2 := shown_all_le xs h.2
    simp only [PyData.shownAll, massAll, piled_cons]
    omega
theorem shown_kv_le : ∀ xs : List (PyData × PyData), PyData.showableKv xs = true → piled (PyData.shownKv xs) ≤ massKv xs
  | [], _ => by
    simp only [PyData.shownKv, massKv, piled_nil]
    exact Nat.le_refl _
  | (k, v) :: xs, h => by
    simp only [PyData.showableKv, Bool.and_eq_true] at h
    have h1 := shown_le k h.1.1
    have h2 := shown_le v h.1.2
    have h3 := shown_kv_le xs h.2
    have e : (((": " : String) : Str)).length = 2 := rfl
    simp only [PyData.shownKv, massKv, piled_cons, strLen_append, e]
    omega
end

/-! ### data that stands in the heap: lists, tuples, dicts by int and text keys -/
mutual
inductive Rp (K : PySem.W.Frag) (H : Hp) : V → PyData → Prop
  | non : Rp K H .non .none
  | bl (b : Bool) : Rp K H (.bl b) (.bool b)
  | int (i : Int) : Rp K H (.int i) (.int i)
  | str (x : Str) : Rp K H (.str x) (.str x)
  | lst {a : Addr} {xs : List V} {ds : List PyData} : H a = some (.lst xs) → RpAll K H xs ds → Rp K H (.ref a) (.list ds)
  | tup {a : Addr} {xs : List V} {ds : List PyData} : H a = some (.tup xs) → RpAll K H xs ds → Rp K H (.ref a) (.tuple ds)
  | dic {a : Addr} {kvs : List (Key × V)} {ds : List (PyData × PyData)} : H a = some (.dK kvs) → RpAll K H (kvs.map fun p => kV p.1) (ds.map (·.1)) → RpAll K H (kvs.map (·.2)) (ds.map (·.2)) → Rp K H (.ref a) (.dict ds)
inductive RpAll (K : PySem.W.Frag) (H : Hp) : List V → List PyData → Prop
  | nil : RpAll K H [] []
  | cons {v : V} {vs : List V} {d : PyData} {ds : List PyData} : Rp K H v d → RpAll K H vs ds → RpAll K H (v :: vs) (d :: ds)
end

/-! ### .. and how it is read -/
mutual
/-- no list in it: each address that a reading of it counts is a dict's -/
def okS : PyData → Bool
  | .none | .bool _ | .int _ | .str _ => true
  | .list _ => false
  | .tuple xs => okSAll xs
  | .dict kvs => okSKv kvs
def okSAll : List PyData → Bool
  | [] => true
  | x :: xs => okS x && okSAll xs
def okSKv : List (PyData × PyData) → Bool
  | [] => true
  | (k, v) :: r => okS k && okS v && okSKv r
end
theorem okSKv_split : ∀ {kvs : List (PyData × PyData)}, okSKv kvs = true → okSAll (kvs.map (·.1)) = true ∧ okSAll (kvs.map (·.2)) = true
  | [], _ => ⟨rfl, rfl⟩
  | (k, v) :: r, h => by
    simp only [okSKv, Bool.and_eq_true] at h
    obtain ⟨h1, h2⟩ := okSKv_split h.2
    simp only [List.map_cons, okSAll, Bool.and_eq_true]
    exact ⟨⟨h.1.1, h1⟩, h.1.2, h2⟩
theorem pairs_vals {P : Program} {w : World} : ∀ {kvs : List (Key × V)} {vs : List (Key × Value)} {es : List DictEntry}, KV kvs vs → Pairs (mixKind P w) es vs →
    Vals (kvs.map fun p => kV p.1) (es.map (·.key)) ∧ Vals (kvs.map (·.2)) (es.map (·.val))
  | _, _, _, .nil, .nil => ⟨.nil, .nil⟩
  | _, _, _, .cons r t, .cons hk hv p => by
    obtain ⟨h1, h2⟩ := pairs_vals t p
    refine ⟨.cons ?_ h1, .cons ?_ h2⟩
    · dsimp only
      rw [r.1]
      rcases keyIs_shape hk with ⟨i, tk, e1, e2⟩ | ⟨x, tk, e1, e2⟩
      · rw [e1, e2]
        exact ⟨tk, rfl⟩
      · rw [e1, e2]
        exact ⟨tk, rfl⟩
    · dsimp only
      rw [hv]
      exact r.2
section
variable {X : Cx} {pins : List (Addr × Obj)} {σ : L2.St} {H : Hp} {s : Shared}
mutual
theorem rp_reads (I : Inv X pins σ H s) : ∀ (d : PyData) (v : V) (u : Value), Rp X.K H v d → RelV v u → ∃ as, Reads s.heap u d as ∧ (okS d = true → sysModules ∉ as)
  | .none, _, _, h, r => by
    cases h
    cases r
    exact ⟨_, Reads.none, fun _ => by simp⟩
  | .bool b, _, _, h, r => by
    cases h
    cases r
    exact ⟨_, Reads.bool b, fun _ => by simp⟩
  | .int i, _, _, h, r => by
    cases h
    obtain ⟨t, rfl⟩ := r
    exact ⟨_, Reads.int i t, fun _ => by simp⟩
  | .str x, _, _, h, r => by
    cases h
    obtain ⟨t, rfl⟩ := r
    exact ⟨_, Reads.str x t, fun _ => by simp⟩
  | .list ds, _, _, h, r => by
    cases h with
    | lst hs ha =>
      cases r
      obtain ⟨its, rv, ⟨o, n, ho, hc, _, hd⟩, _⟩ := I.list (.of hs)
      obtain ⟨as, hr, _⟩ := rp_readsAll I ds _ its ha rv
      exact ⟨_, Reads.list ho hc hd hr, fun z => by simp [okS] at z⟩
  | .tuple ds, _, _, h, r => by
    cases h with
    | tup hs ha =>
      cases r
      obtain ⟨its, rv, ⟨o, ho, hc, n, hd⟩, _⟩ := I.tuple (.of hs)
      obtain ⟨as, hr, q⟩ := rp_readsAll I ds _ its ha rv
      exact ⟨_, Reads.tuple ho hc hd hr, fun z => q (by simpa [okS] using z)⟩
  | .dict ds, _, _, h, r => by
    cases h with
    | dic hs hk hv =>
      cases r
      obtain ⟨_, hm, vs, rel, o, es, ep, e1, e2, e3, e4, e5, e6⟩ := I.hok _ _ hs
      obtain ⟨r1, r2⟩ := pairs_vals rel e5
      obtain ⟨as, q1, z1⟩ := rp_readsKeys I ds _ _ hk r1
      obtain ⟨bs, q2, z2⟩ := rp_readsVals I ds _ _ hv r2
      refine ⟨_, Reads.dict e1 e2.1 e3 q1 q2, fun z => ?_⟩
      have hz : okSKv ds = true := by simpa [okS] using z
      obtain ⟨k1, k2⟩ := okSKv_split hz
      have hm' := beq_eq_false_iff_ne.mp hm
      intro hin
      rcases List.mem_cons.mp hin with hx | hx
      · exact hm' hx.symm
      · rcases List.mem_append.mp hx with hx | hx
        · exact z1 k1 hx
        · exact z2 k2 hx
theorem rp_readsAll (I : Inv X pins σ H s) : ∀ (ds : List PyData) (vs : List V) (us : List Value), RpAll X.K H vs ds → Vals vs us → ∃ as, ReadsAll s.heap us ds as ∧ (okSAll ds = true → sysModules ∉ as)
  | [], _, _, h, r => by
    cases h
    cases r
    exact ⟨_, ReadsAll.nil, fun _ => by simp⟩
  | d :: ds, _, _, h, r => by
    cases h with
    | cons h1 h2 =>
      cases r with
      | cons r1 r2 =>
        obtain ⟨as, q1, z1⟩ := rp_reads I d _ _ h1 r1
        obtain ⟨bs, q2, z2⟩ := rp_readsAll I ds _ _ h2 r2
        refine ⟨_, ReadsAll.cons q1 q2, fun z => ?_⟩
        simp only [okSAll, Bool.and_eq_true] at z
        intro hin
        rcases List.mem_append.mp hin with hx | hx
        · exact z1 z.1 hx
        · exact z2 z.2 hx
theorem rp_readsKeys (I : Inv X pins σ H s) : ∀ (ds : List (PyData × PyData)) (vs : List V) (us : List Value), RpAll X.K H vs (ds.map (·.1)) → Vals vs us → ∃ as, ReadsAll s.heap us (ds.map (·.1)) as ∧ (okSAll (ds.map (·.1)) = true → sysModules ∉ as)
  | [], _, _, h, r => by
    cases h
    cases r
    exact ⟨_, ReadsAll.nil, fun _ => by simp⟩
  | (d, _) :: ds, _, _, h, r => by
    cases h with
    | cons h1 h2 =>
      cases r with
      | cons r1 r2 =>
        obtain ⟨as, q1, z1⟩ := rp_reads I d _ _ h1 r1
        obtain ⟨bs, q2, z2⟩ := rp_readsKeys I ds _ _ h2 r2
        refine ⟨_, ReadsAll.cons q1 q2, fun z => ?_⟩
        simp only [List.map_cons, okSAll, Bool.and_eq_true] at z
        intro hin
        rcases List.mem_append.mp hin with hx | hx
        · exact z1 z.1 hx
        · exact z2 z.2 hx
theorem rp_readsVals (I : Inv X pins σ H s) : ∀ (ds : List (PyData × PyData)) (vs : List V) (us : List Value), RpAll X.K H vs (ds.map (·.2)) → Vals vs us → ∃ as, ReadsAll s.heap us (ds.map (·.2)) as ∧ (okSAll (ds.map (·.2)) = true → sysModules ∉ as)
  | [], _, _, h, r => by
    cases h
    cases r
    exact ⟨_, ReadsAll.nil, fun _ => by simp⟩
  | (_, d) :: ds, _, _, h, r => by
    cases h with
    | cons h1 h2 =>
      cases r with
      | cons r1 r2 =>
        obtain ⟨as, q1, z1⟩ := rp_reads I d _ _ h1 r1
        obtain ⟨bs, q2, z2⟩ := rp_readsVals I ds _ _ h2 r2
        refine ⟨_, ReadsAll.cons q1 q2, fun z => ?_⟩
        simp only [List.map_cons, okSAll, Bool.and_eq_true] at z
        intro hin
        rcases List.mem_append.mp hin with hx | hx
        · exact z1 z.1 hx
        · exact z2 z.2 hx
end
end

/-! ### repr of a list of such data -/
/-- a list at the top: its own address is not counted -/
theorem repr_top {prog : Program} {w : World} {A : Around} {E : Value → Shared → Prop} {s : Shared} {Q : Value → Shared → Prop} {a : Addr} {o : Obj} {vs : Array Value} {n : Nat} {xs : List PyData} {as : List Addr}
    (h1 : s.heap.get? a = some o) (h2 : o.cls = .type "list") (h3 : o.data = .seq vs n) (h4 : ReadsAll s.heap vs.toList xs as) (hs : PyData.showableAll xs = true) (hsm : PyData.hasDictAll xs = true → sysModules ∉ as)
    (hg : A.guards = some []) (hu : A.units + ((PyData.list xs).depth + 1) < cLine) (hsz : (listText (PyData.shownAll xs)).length ≤ sizeLine)
    (hQ : ∀ h' u tk, (∀ b o, s.heap.get? b = some o → h'.get? b = some o) → Q (.str (listText (PyData.shownAll xs)) u) { s with heap := h', toks := tk }) :
    wpAny (model prog w) A (call (.builtin "repr") [.ref a]) Q E s := by
  obtain ⟨bs, hb, hk⟩ := ReprAllK.of_readsAll (prog := prog) (w := w) h4 hs hsm (fun t ht => Nat.le_trans (listText_mem_le ht) hsz)
  have hna : a ∉ bs :=
    not_mem_of_deeper (.list h1 h2 h3 h4) (by simp only [PyData.depth]; omega) hb
  simp only [PyData.depth] at hu
  refine call_repr_slot (A := A) (by omega) (idr := "list.__repr__") (T := "list") (show s.TypeIs (.ref a) "list" from ⟨o, h1, h2⟩) F.slot_list_repr.toG ?_
  have hu1 : A.in1.units = A.units + 1 := rfl
  obtain ⟨l⟩ := vs
  cases l with
  | nil =>
    have h4' : ReadsAll s.heap [] xs as := h4
    cases h4'
    have ht := hQ s.heap
    rw [show listText (PyData.shownAll []) = ("[]" : Str) by simp only [PyData.shownAll]; exact listText_nil] at ht
    exact call_list_repr_empty ⟨o, h1, h2⟩ h1 h3 ⟨_, _, rfl, ht _ _ fun _ _ e => e⟩
  | cons x l =>
    refine call_list_reprK h1 h2 h3 hna (by simpa using hk.length_eq) (fun i y e => hk.item i y (by simpa using e)) (by exact hg) (fun b _ => Clear.nil b) (by rw [hu1]; omega) (fun _ _ e => e) (fun h' u tk k => ⟨_, _, rfl, hQ h' u tk k⟩) hsz
/-- repr(xs), xs a list of data -/
def rRepr (K : PySem.W.Frag) : List V → Hp → VK → Prop := fun vs H Q => ∃ (a : Addr) (xs : List V) (ds : List PyData), vs = [.ref a] ∧ H a = some (.lst xs) ∧ RpAll K H xs ds ∧ PyData.showableAll ds = true ∧ (PyData.hasDictAll ds = true → okSAll ds = true) ∧
  (PyData.list ds).depth ≤ 20 ∧ 3 + massAll ds ≤ sizeLine ∧ Q (.str (listText (PyData.shownAll ds))) H
theorem call_repr {X : Cx} (hg : X.A.guards = some []) (hu : X.A.units + 64 < cLine) : CallR X (.builtin "repr") (rRepr X.K) := by
  intro pins s σ H xs us Q I r h
  obtain ⟨a, ys, ds, rfl, ha, hr, hs, hd, hp, hm, q⟩ := h
  obtain rfl := Vals.ref1 r
  obtain ⟨its, rv, ⟨o, n, ho, hc, _, hdt⟩, _⟩ := I.list (.of ha)
  obtain ⟨as, q1, z1⟩ := rp_readsAll I ds _ its hr rv
  have hz := Nat.le_trans (list_text_le _) (Nat.le_trans (Nat.add_le_add_left (shown_all_le ds hs) 3) hm)
  exact repr_top ho hc hdt q1 hs (fun z => z1 (hd z)) hg (by omega) hz fun h' u tk k => ⟨.str _, H, I.kept k, ⟨u, rfl⟩, q⟩
end G
set_option Elab.async false
set_option linter.all false
set_option maxRecDepth 100000
set_option maxHeartbeats 2000000
/-! G2: a def that runs where no guard is under way, and the law's own call. -/
namespace G
open PySem PySem.Spec PyProof.Rows L2
/-- as FnOk, of arounds without guards -/
structure FnG (P : Program) (w : World) (K : PySem.W.Frag) (mg : Str → Option Value) (base : Heap) (CX : CXT) (k : Nat) (f : Addr) (fd : FuncData) (ps : List Str) (sp : Sp) : Prop where
  size : ∀ vs H Q E, sp vs H Q E → vs.length = ps.length
  go : ∀ (A : Around) (outer : List Env) (s : Shared) (H : Hp) (args : Args) (us : List Value) (vs : List V) (Q : VK) (E : XK),
    A.guards = some [] → Room k A → Env0 P w K mg base A outer s H → BindsTo s fd args (ps.zip us) → Vals vs us → sp vs H Q E → codeAny (model P w) A (.call (.ref f) args) (CR CX outer P w H s Q E) s
section
variable {P : Program} {w : World} {K : PySem.W.Frag} {mg : Str → Option Value} {base : Heap} {CX : CXT}
theorem FnG.of_body {x qual : Str} {st : Stmt} {f : Addr} {fd : FuncData} {N ps : List Str} {k : Nat} {sp : Sp} (F : Fun K x qual st f fd) (S : FnScope N ps (defScope st))
    (size : ∀ vs H Q E, sp vs H Q E → vs.length = ps.length)
    (body : ∀ (cdv : Value) (A : Around) (outer : List Env) (s : Shared) (H : Hp) (vs : List V) (Q : VK) (E : XK), A.guards = some [] →
      Room k (A.deeper (envOfC qual (defScope st) s.heap.objs.size f cdv)) → sp vs H Q E →
      ∃ t, PSs (cxOf CX P w K mg base N qual (defScope st) f cdv A outer s H E).nox (defBody st) t ∧ t { nx := fun _ H' => Q .non H', rt := Q } (start N vs) H) :
    FnG P w K mg base CX (k + 1) f fd ps sp := by
  obtain ⟨_, _, _, _, _, _, cdv, _, _, rfl, lk, hcd⟩ := F.ex
  refine ⟨size, fun A outer s H args us vs Q E hg hr e0 hb r h => ?_⟩
  have inS : K.In s.heap := e0.mod.kin.keeps fun b o e => (e0.bs b o e).1
  have noL : s.heap.NoLimit := e0.mod.nolimit.keeps fun b o e => (e0.bs b o e).1
  refine codeAny_call_function hr.depth (inS _ _ lk) rfl S.co S.gen rfl
    (PySem.W.codeRec_of inS hcd) (hb _ _ _ _ ?_)
  refine wpAny_newFunctionEnv_cells S.kind
    (fun ⟨n, v⟩ hy => ?_) fun env he s1 x => ?_
  · rcases S.par n (List.of_mem_zip hy).1 with q | q
    · exact Or.inl q
    · exact Or.inr ⟨q, PySem.W.cellsFrom_some _ _ _ (Or.inl q)⟩
  · subst he
    refine ⟨noL.keeps x.toInCall.keep, codeAny_func ?_⟩
    obtain ⟨t, ht, hq⟩ := body cdv A outer s H vs Q E hg (hr.deeper _) h
    have J := inv_start (CX := CX) (P := P) (w := w) (K := K) (mg := mg) (base := base) (E := E) S hr.hd e0 (size _ _ _ _ h) r x
    refine wpAny_mono (ht.nox.run [] s1 (start N vs) H _ J hq) (fun fl s' z => ?_) fun e s' z => z
    cases fl with
    | ret u =>
      obtain ⟨v, σ', H', J', rv, q⟩ := z
      exact ⟨v, H', J'.os, J'.bare, J'.base, J'.hok, rv, q⟩
    | next =>
      obtain ⟨σ', H', J', q⟩ := z
      exact ⟨.non, H', J'.os, J'.bare, J'.base, J'.hok, rfl, q⟩
    | brk =>
      obtain ⟨_, _, _, q⟩ := z
      exact q.elim
    | cont =>
      obtain ⟨_, _, _, q⟩ := z
      exact q.elim
end
section
variable {X : Cx} {CX : CXT} {k : Nat} {f : Addr} {fd : FuncData} {ps : List Str} {sp : Sp} {dvs : List V} {ds : List Value} {E : XK} {x : Str} {p pos : Pos} {e : Expr} {es : List Expr} {t : TA}
theorem FnG.run {pins : List (Addr × Obj)} {σ : L2.St} {H : Hp} {s : Shared} {Q : VK} {us : List Value} {vs : List V} (F : FnG X.prog X.w X.K X.mg X.base CX k f fd ps sp) (hg : X.A.guards = some []) (hr : Room k X.A) (hb : Binds X.K fd ps ds) (hd : Vals dvs ds)
    (hx : Passes CX X E) (I : Inv X pins σ H s) (r : Vals vs us) (h : sp (vs ++ dvs) H Q E) : wpAny (model X.prog X.w) X.A (call (.ref f) us) (EP X pins σ Q) X.xe s := by
  have both := r.append hd
  have size : (us ++ ds).length = ps.length := both.length.symm.trans (F.size _ _ _ _ h)
  refine wpAny_call (codeAny_mono (F.go X.A X.stack s H ⟨us, []⟩ (us ++ ds) (vs ++ dvs) Q E hg hr I.env0 (hb s us I.kIn size) both h) fun q s' z => ?_)
  match q, z with
  | .error er, z => exact hx pins σ H s er s' I z
  | .ok (.ret u), z => exact I.after z
/-- f(e, ..) -/
theorem pe_callG (F : FnG X.prog X.w X.K X.mg X.base CX k f fd ps sp) (hg : X.A.guards = some []) (hr : Room k X.A) (gl : Gl X x) (hm : X.mg x = some (.ref f)) (hk : PySem.W.keepIn X.K (.ref f) = true) (hb : Binds X.K fd ps ds) (hd : Vals dvs ds)
    (hx : Passes CX X E) (ha : PA X (e :: es) t) (hdb : (x == ("__debug__" : Str)) = false := by decide)
    (he : starEach (e :: es) X.env = (false, eval e X.env) :: starEach es X.env := by rfl) (hpl : (backTo pos (starEach es X.env)).any (·.1) = false := by rfl) : PE X (.Call (.Name x p) (e :: es) [] pos) (tCall sp dvs E t) := by
  constructor
  intro pins s σ H Q I h
  refine wpAny_Call_Name_kw (ld_glob I gl hm ?_ hdb)
  exact PySem.W.callWith_K (h₀ := X.base) I.ok.mod.kin hk
    (thn (ha.run pos pins s σ H _ I h) fun us s1 ⟨vs, H1, I1, r, q⟩ => ⟨I1.kIn, F.run hg hr hb hd hx I1 r q⟩) he hpl
end
/-- True comes out, what stood stands, nothing went in or out -/
def Fine (s : Shared) (r : Result) (s' : Shared) : Prop :=
  r = .ok (.ret (.bool true)) ∧ OldK s.heap s'.heap ∧ s'.os = s.os ∧ AllBare s'.gens
/-- the law's call, from the state that the top leaves -/
theorem law_go {P : Program} {w : World} {K : PySem.W.Frag} {mg mb : Str → Option Value} {k : Nat} {fa a : Addr} {fd : FuncData} {x : Str} {sp : Sp} {s₁ : Shared} {vs : List Value} {ns : List Int}
    (inK : K.In s₁.heap) (gl : s₁.heap.Ns mainGlobals mg)
    (bl : s₁.heap.Ns builtinsNs mb) (boot : ∀ y : Str, y ≠ "__name__" → mb y = bootBuiltins y)
    (lim : s₁.heap.NoLimit) (noG : s₁.gens = #[])
    (script : s₁.heap.get? a = some { cls := .type "list", data := .seq vs.toArray })
    (allInt : IntsAre vs ns) (few : ns.length ≤ sizeLine) (hr : Room k callerA)
    (F : ∀ base : Heap, K.In base → base.Ns mainGlobals mg → FnG P w K mg base CX0 k fa fd [x] sp) (hbind : ∀ (s : Shared) (u : Value), BindsTo s fd ⟨[u], []⟩ [(x, u)])
    (hsp : ∀ H : Hp, Only H → SqL K H a (ns.map V.int) → sp [.ref a] H (fun v _ => v = .bl true) fun _ _ _ => False) :
    codeAny (model P w) callerA (.call (.ref fa) ⟨[.ref a], []⟩)
      (Fine s₁) s₁ := by
  -- nothing but the script is tracked; if the written part holds the script, nothing at all
  have main : ∀ H : Hp, Only H → SqL K H a (ns.map V.int) → HOk P w H s₁.heap → (∀ b, H b ≠ none → b = a ∧ K.lookup a = none) →
      codeAny (model P w) callerA (.call (.ref fa) ⟨[.ref a], []⟩)
      (Fine s₁) s₁ := by
    intro H hO hS hok hA
    have nsK : ∀ {b : Addr} {m : Str → Option Value}, s₁.heap.Ns b m → (hidT s₁.heap H).Ns b m := by
      rintro b m ⟨o, es, ep, e, d, r⟩
      refine ⟨o, es, ep, hidT_get e ?_, d, r⟩
      cases q : H b with
      | none => rfl
      | some u =>
        exfalso
        have eb := (hA b (by rw [q]; simp)).1
        rw [eb, script] at e
        rw [← Option.some.inj e] at d
        cases d
    have inB : K.In (hidT s₁.heap H) := fun b o e => hidT_get (inK b o e) (by
      cases q : H b with
      | none => rfl
      | some u =>
        exfalso
        obtain ⟨e1, e2⟩ := hA b (by rw [q]; simp)
        rw [e1, e2] at e
        cases e)
    obtain ⟨mc, l1, l2⟩ := lim
    have hM : Mod K mg (hidT s₁.heap H) := ⟨inB, nsK gl, ⟨mb, nsK bl, boot⟩, ⟨mc, nsK l1, l2⟩⟩
    have e0 : Env0 P w K mg (hidT s₁.heap H) callerA [] s₁ H := ⟨rfl, hM, fun b o e => of_hidT e, Nat.le_of_eq (hidT_size _ _), trivial, fun b z => absurd (show b ∈ ([] : List Addr) from z) (by simp), hok, .of_eq noG⟩
    have run := (F _ inB (nsK gl)).go callerA [] s₁ H ⟨[.ref a], []⟩ [.ref a] [.ref a] _ _ rfl hr e0 (hbind s₁ (.ref a)) (.cons rfl .nil) (hsp H hO hS)
    refine codeAny_mono run fun r s' h => ?_
    match r, h with
    | .ok (.ret u), h =>
      obtain ⟨v, H', os, bare, un, hok', r', q⟩ := h
      obtain rfl : v = .bl true := q
      obtain rfl : u = Value.bool true := r'
      refine ⟨rfl, OldK.of_keep fun b o e => ?_, os, bare⟩
      rcases hO b with z | ⟨ob, xs, z⟩
      · exact un.keep b o e z (fun z => absurd (show b ∈ ([] : List Addr) from z) (by simp)) (by simp)
      · obtain ⟨e1, _⟩ := hok b _ z
        obtain ⟨e2, _⟩ := hok' b _ (un.frzs b ob _ z)
        rw [e] at e1
        cases e1
        exact e2
  cases hk : K.lookup a with
  | some o =>
    have e := inK a o hk
    rw [script] at e
    cases e
    refine main (fun _ => none) (fun _ => .inl rfl) (.inr ⟨_, vs.toArray, _, hk, rfl, rfl, rfl, ?_, ?_⟩) (fun b u z => nomatch z) fun b z => absurd rfl z
    · rw [List.size_toArray, allInt.length]
      exact few
    · simpa using vals_ints allInt
  | none =>
    let o : Obj := { cls := .type "list", data := .seq vs.toArray }
    let T : HO := .frz o (.lst (ns.map V.int))
    have at_a : upd (fun _ => none) a T a = some T := upd_same
    refine main (upd (fun _ => none) a T) (fun b => ?_) (.inl (.inr ⟨o, at_a⟩)) (fun b u z => ?_) fun b z => ?_
    · by_cases h : b = a
      · exact .inr ⟨o, _, by rw [h]; exact at_a⟩
      · exact .inl (upd_ne h)
    · by_cases h : b = a
      · subst h
        rw [at_a] at z
        cases z
        exact ⟨script, by rw [List.length_map]; exact few, vs, _, vals_ints allInt, script⟩
      · rw [upd_ne h] at z
        cases z
    · by_cases h : b = a
      · exact ⟨h, hk⟩
      · exact absurd (upd_ne h) z
/-- what k_head leaves, by the law's promise -/
theorem walk_go {l : PySem.W.OpenLaw} {n k : Nat} {q : Program} {loose : List Str} {XP : (Str → Option Value) → Heap → Prop} {YP : World → Heap → Prop} {d : DefRec} {K : Params → PySem.W.Frag} {sp : PySem.W.Frag → Sp} {x : Str}
    (most : l.most = some n) (few : n ≤ sizeLine)
    (nodf : d.params.defaults = []) (hr : Room k callerA)
    (hY : ∀ (w : World) (h : Heap), YP w h → (K w.params).In h)
    (F : ∀ (w : World) (mg : Str → Option Value) (fa : Addr) (h : Heap),
      (K w.params).In h → h.Ns mainGlobals mg → mg d.name = some (.ref fa) →
      ∃ fd : FuncData, (∀ (s : Shared) (u : Value), BindsTo s fd ⟨[u], []⟩ [(x, u)]) ∧ ∀ base : Heap, (K w.params).In base → base.Ns mainGlobals mg → FnG l.prog w (K w.params) mg base CX0 k fa fd [x] (sp (K w.params)))
    (hsp : ∀ (K : PySem.W.Frag) (H : Hp) (a : Addr) (ns : List Int), ns.length ≤ n → Only H → SqL K H a (ns.map V.int) → sp K [.ref a] H (fun v _ => v = .bl true) fun _ _ _ => False) :
    PySem.W.WalkO q loose XP YP l.row.toRowW d []
      (fun f vs => PySem.call f vs) := by
  refine Att.attach_call most nodf
    fun w _ s₁ mg mb fa _ _ _ _ a vs ns top Y _ _ _ atF obj allInt len noG => ?_
  have inK := hY w _ Y
  obtain ⟨fd, binds, keeps⟩ := F w mg fa _ inK top.T.g atF
  exact law_go inK top.T.g top.T.b top.T.builtins top.T.nolimit noG obj allInt (Nat.le_trans len few) hr keeps binds
    fun H hO hS => hsp _ H a ns len hO hS
end G
set_option Elab.async false
set_option linter.all false
set_option maxRecDepth 100000
set_option maxHeartbeats 2000000
/-! U1: a method that says super().__init__(..): its own activation is known while it runs. -/
namespace G
open PySem PySem.Spec PyProof.Rows L2 NdefX

/-- one statement, of a body whose activation is on top -/
structure PSa (X : Cx) (body : List Stmt) (st : Stmt) (t : TS) : Prop where
  run : ∀ (pins : List (Addr × Obj)) (s : Shared) (σ : L2.St) (H : Hp) (D : Ends), Inv X pins σ H s → t D σ H → _root_.PySem.wpAt (model X.prog X.w) X.A (.func body X.env) (exec st X.env) (SP X pins D) X.xe s
/-- .. several -/
structure PSsa (X : Cx) (body : List Stmt) (st : List Stmt) (t : TS) : Prop where
  run : ∀ (pins : List (Addr × Obj)) (s : Shared) (σ : L2.St) (H : Hp) (D : Ends), Inv X pins σ H s → t D σ H → _root_.PySem.wpAt (model X.prog X.w) X.A (.func body X.env) (execs st X.env) (SP X pins D) X.xe s
section
variable {X : Cx} {body rest : List Stmt} {st : Stmt} {t u : TS}
theorem psa (h : PS X st t) : PSa X body st t := ⟨fun pins s σ H D I q => wpAt_of_wpAny (h.run pins s σ H D I q)⟩
theorem pssa {sts : List Stmt} (h : PSs X sts t) : PSsa X body sts t := ⟨fun pins s σ H D I q => wpAt_of_wpAny (h.run pins s σ H D I q)⟩
theorem pssa_cons (h1 : PSa X body st t) (h2 : PSsa X body rest u) : PSsa X body (st :: rest) (tSeq t u) := by
  refine ⟨fun pins s σ H D I h => ks_wpAt_execs_cons (ks_wpAt_mono (h1.run pins s σ H { D with nx := u D } I h) (fun f s1 q => ?_) fun _ _ z => z)⟩
  cases f with
  | next =>
    obtain ⟨σ', H', I', q⟩ := q
    exact h2.run pins s1 σ' H' D I' q
  | ret v => exact q
  | brk => exact q
  | cont => exact q
end

/-- what of the text the words super().__init__ rest on, said in the def at f, of the class at D, to an instance of the class at C; f2: the __init__ found -/
structure SupOf (P : Program) (K : PySem.W.Frag) (f cda cc D C f2 : Addr) (x : Str) : Prop where
  fn : ∃ oc od fd sl ar, K.lookup f = some ⟨oc, od, .func fd, sl⟩ ∧ (fd.params.posonlyargs ++ fd.params.args).head? = some ar ∧ ar.arg = x
  code : ∃ oc od vs sl file tf, K.lookup cda = some ⟨oc, od, .fields vs, sl⟩ ∧ vs[2]? = some (.str file tf) ∧ ((P.main.file : Str) == file) = true
  cell : ∃ oc od sl, K.lookup cc = some ⟨oc, od, .cell (some (.ref D)), sl⟩
  isc : ∃ cd, PySem.W.clsIn K D = some cd
  isC : ∃ cd, PySem.W.clsIn K C = some cd
  sub : PySem.W.mroIn K C (.ref D) = some true
  thd : PySem.W.nsIn K cStatics "thirdparty.any" = some none
  sup : PySem.W.ks_superIn K C D "__init__" = some (some (.ref f2))
  ty : PySem.W.typeIn K (.ref f2) = some (.type "function")
  fi : PySem.W.fnIn K f2 = true
  top : (P.main.scope.names.lookup ("super" : Str)).isSome = false

/-- super().__init__(..), the instance in the slot i -/
def tSup (i : Nat) (C : Addr) (sp : Sp) (E : XK) (t : TA) : TS := fun D σ H => ∃ a dx fs, σ[i]? = some (some (.ref a)) ∧ H a = some (.ins C dx fs) ∧
  t σ H fun vs H1 => sp (.ref a :: vs) H1 (fun _ H2 => D.nx σ H2) E

section
variable {X : Cx} {CX : CXT} {k i : Nat} {f cda cc D C f2 : Addr} {x : Str} {sp : Sp} {E : XK} {body : List Stmt} {e : Expr} {es : List Expr} {t : TA} {p0 p1 apos pos spos : Pos} {pl : Sem Bool}
theorem cls_at {h : Heap} {K : PySem.W.Frag} {D : Addr} {cd : ClassData} (I : K.In h) (hD : PySem.W.clsIn K D = some cd) : ∃ o, h.get? D = some o ∧ o.data = .cls cd := by
  unfold PySem.W.clsIn at hD
  split at hD
  · rename_i c d cd' sl ho
    cases hD
    exact ⟨_, I _ _ ho, rfl⟩
  · cases hD
/-- the object super() -/
theorem super_base {pins : List (Addr × Obj)} {s : Shared} {σ : L2.St} {H : Hp} {whole : Sem Value} {a dx : Addr} {fs : List (Str × V)} {Q : Value → Shared → Prop}
    (I : Inv X pins σ H s) (S : SupOf X.prog X.K f cda cc D C f2 x) (hfu : X.env.func = some f) (hco : X.env.code = .ref cda) (hcl : X.env.cells.lookup ("__class__" : Str) = some cc)
    (hks : X.env.kindOf "super" = some .globalImplicit) (hkc : X.env.kindOf "__class__" = some .free) (hkx : X.env.kindOf x = some .local) (hm : X.mg "super" = none) (hN : X.N[i]? = some x)
    (hs : σ[i]? = some (some (.ref a))) (ha : H a = some (.ins C dx fs))
    (h : ∀ s', Inv X pins σ H s' → s'.heap.get? s.heap.objs.size = some { cls := .type "super", dict := none, data := .fields #[.ref D, .ref a, .ref C], slots := #[] } → Q (.ref s.heap.objs.size) s') :
    _root_.PySem.wpAt (model X.prog X.w) X.A (.func body X.env) (attributeBase (.Call (.Name "super" p0) [] [] p1) "__init__" X.env whole) Q X.xe s := by
  obtain ⟨oc, od, fd, sl, ar, lk, hp, hx⟩ := S.fn
  obtain ⟨oc2, od2, vs, sl2, file, tf, lk2, hv, hfile⟩ := S.code
  obtain ⟨oc3, od3, sl3, lk3⟩ := S.cell
  obtain ⟨cdD, hD⟩ := S.isc
  have inK := I.kIn
  obtain ⟨oD, hD1, hD2⟩ := cls_at inK hD
  obtain ⟨mb, b1, b2⟩ := I.mod.blt
  obtain ⟨m, hn, hl⟩ := I.loc
  obtain ⟨u, ru, hlook⟩ := hl i x _ hN hs (.inl hkx)
  obtain rfl : u = Value.ref a := ru
  have hmx : m x = some (.ref a) := by
    rcases hlook with ⟨_, z⟩ | ⟨z, _⟩
    · exact z
    · rw [hkx] at z
      rcases z with z | z <;> cases z
  have hob : s.heap.get? a = some (PySem.W.instObj C dx) := (show ObjOk X.prog X.w H s.heap a (.ins C dx fs) from I.hok a _ ha).2.2.2.1
  refine ks_wpAt_super_base hks hkc (by decide) hfu (inK _ _ lk) rfl hp hco (inK _ _ lk2) rfl hv hfile S.top ?_
  refine PySem.W.ks_loadName_global I.ok.kind hks (Calls.loadGlobal_builtin (by rw [I.ok.glob]; exact I.mod.glob.keeps I.bk) hm (by rw [I.ok.blt]; exact b1.keeps I.bk) ((b2 "super" (by decide)).trans (by first | rfl | decide +kernel)) ⟨rfl, ?_⟩)
  refine wpAny_loadName_free I.ok.kind hkc hcl ⟨_, inK _ _ lk3, rfl⟩ ?_
  rw [hx]
  refine wpAny_loadName_local I.ok.kind hkx hn hmx ?_
  obtain ⟨hh, g, d, tk, os⟩ := s
  refine ks_wpAny_isType_cls hD1 hD2 ⟨rfl, ?_⟩
  refine ks_wpAny_call_super hD1 hD2 hob rfl (fun c z => nomatch z) (PySem.W.looks_mroIn inK S.sub) fun h' e1 kp => ?_
  exact h _ (I.kept (t' := tk) kp) e1
/-- super().__init__(e, ..) -/
theorem psa_super (S : SupOf X.prog X.K f cda cc D C f2 x) (F : FnR X.prog X.w X.K X.mg X.base CX k f2 sp) (hr : Room k X.A) (hx : Passes CX X E) (hfu : X.env.func = some f) (hco : X.env.code = .ref cda) (hcl : X.env.cells.lookup ("__class__" : Str) = some cc)
    (hks : X.env.kindOf "super" = some .globalImplicit) (hkc : X.env.kindOf "__class__" = some .free) (hkx : X.env.kindOf x = some .local) (hm : X.mg "super" = none) (hN : X.N[i]? = some x) (ha : PA X (e :: es) t)
    (hst : starEach (e :: es) X.env = (false, eval e X.env) :: starEach es X.env := by rfl) (hpl : (backTo pos (starEach es X.env)).any (·.1) = false := by rfl)
    (ht : eval (.Call (.Attribute (.Call (.Name "super" p0) [] [] p1) "__init__" apos) (e :: es) [] pos) X.env = (do
      let ov ← attributeBase (.Call (.Name "super" p0) [] [] p1) "__init__" X.env (eval (.Call (.Name "super" p0) [] [] p1) X.env)
      standAt apos.atName
      let (f, first) ← holding [ov] (getMethod ov "__init__" pl)
      callWith pos f first (backTo pos (starEach (e :: es) X.env)) []) := by rfl)
    (hw : swapsWith (.Call (.Attribute (.Call (.Name "super" p0) [] [] p1) "__init__" apos) (e :: es) [] pos) none spos.line X.env = pure false := by rfl) :
    PSa X body (.Expr (.Call (.Attribute (.Call (.Name "super" p0) [] [] p1) "__init__" apos) (e :: es) [] pos) spos) (tSup i C sp E t) := by
  refine ⟨fun pins s σ H Dn I h => ?_⟩
  obtain ⟨a, dx, fs, h1, h2, q⟩ := h
  refine ks_wpAt_Expr_any (ks_wpAt_MethodCall (pl := pl) (super_base I S hfu hco hcl hks hkc hkx hm hN h1 h2 fun s1 I1 hso => ?_) ht) I.quiet hw
  obtain ⟨cdC, hC⟩ := S.isC
  have inK := I1.kIn
  have hob : s1.heap.get? a = some (PySem.W.instObj C dx) := (show ObjOk X.prog X.w H s1.heap a (.ins C dx fs) from I1.hok a _ h2).2.2.2.1
  obtain ⟨oC, hC1, hC2⟩ := cls_at inK hC
  have hne : a ≠ C := fun z => by
    rw [z, hC1] at hob
    rw [Option.some.inj hob] at hC2
    cases hC2
  obtain ⟨of, hof, hofc⟩ : ∃ of, s1.heap.get? f2 = some of ∧ of.cls = .type "function" := by
    have ht' : (X.K.lookup f2).map (·.cls) = some (.type "function") := S.ty
    cases z : X.K.lookup f2 with
    | none =>
      rw [z] at ht'
      cases ht'
    | some of =>
      rw [z] at ht'
      exact ⟨of, inK _ _ z, Option.some.inj ht'⟩
  have hsup := S.sup
  unfold PySem.W.ks_superIn at hsup
  rw [hC] at hsup
  obtain ⟨hh, g, d, tk, os⟩ := s1
  refine ks_wpAny_getMethod_super hso (PySem.W.looks_opaque inK S.thd) (l₀ := cdC.mro) ((PySem.W.looks_clsIn inK hC).andThen .now) rfl inK hsup hof hofc hne (by decide) ?_
  have I2 := ClX.met_new (g := f2) (C := a) I1
  refine ClX.callwith_cm I2 (ClX.base_none I1 (Nat.le_refl _)) S.fi (thn (ha.run pos _ _ σ H _ I2 q) fun us s3 ⟨vs, H3, I3, r3, q3⟩ => ⟨⟨ClX.pin_at I3, I3.kIn⟩, ?_⟩) hst hpl
  refine thn (ClX.run_cm F hr hx I3 r3 q3) fun _ _ y => ?_
  obtain ⟨v, H4, I4, _, q4⟩ := y
  exact ⟨σ, H4, I4, q4⟩
end

/-! ### the method -/
/-- THE RULE: a method that captures __class__ (it says super()), by its body -/
theorem fnx_of {CX : CXT} {P : Program} {w : World} {K : PySem.W.Frag} {mg : Str → Option Value} {base : Heap} {k : Nat} {f cda cc : Addr} {name qual : Str} {params : Arguments} {body : List Stmt} {scope : Scope} {dV kV doc pm ct oc : Value} {an od : Option Addr}
    {osl : Array (Option Value)} {N ps : List Str} {sp : Sp} (lk : K.lookup f = some ⟨oc, od, .func (PySem.W.ksFn name qual params body scope dV kV doc pm an (.ref cda) ct cc), osl⟩) (hcd : PySem.W.codeIn K (.ref cda) qual = true)
    (hcell : ∃ oc od sl v, K.lookup cc = some ⟨oc, od, .cell v, sl⟩) (S : NScope N ps ["__class__"] scope) (len : ∀ vs H Q E, sp vs H Q E → vs.length = ps.length)
    (hbody : ∀ (A : Around) (outer : List Env) (s : Shared) (H : Hp) (vs : List V) (Q : VK) (E : XK), Room k (A.deeper (envF ⟨name, qual, params, body, scope, [("__class__", cc)], cda⟩ f s.heap.objs.size)) → sp vs H Q E →
      ∃ t, PSsa (ncx CX P w K mg base N ⟨name, qual, params, body, scope, [("__class__", cc)], cda⟩ f A outer s H E) body body t ∧ t { nx := fun _ H' => Q .non H', rt := Q } (startF N vs [none]) H) :
    FnOk P w K mg base CX (k + 1) f (PySem.W.ksFn name qual params body scope dV kV doc pm an (.ref cda) ct cc) ps sp := by
  refine ⟨len, fun A outer s H args us vs Q E hr e0 hb r hsp => ?_⟩
  have hl := len _ _ _ _ hsp
  have inK : K.In s.heap := e0.mod.kin.keeps fun b o e => (e0.bs b o e).1
  have lim : s.heap.NoLimit := e0.mod.nolimit.keeps fun b o e => (e0.bs b o e).1
  obtain ⟨oc3, od3, sl3, v3, lk3⟩ := hcell
  have C : CellsAt [(("__class__" : Str), cc)] ["__class__"] [none] s.heap H := by
    have one : ∀ {y : Str} {c : Addr}, List.lookup y [(("__class__" : Str), cc)] = some c → y = "__class__" ∧ c = cc := fun {y c} z => by
      have z2 := PySem.mem_of_lookup z
      rw [List.mem_singleton] at z2
      exact ⟨congrArg Prod.fst z2, congrArg Prod.snd z2⟩
    refine ⟨rfl, fun y c z => ?_, fun y y' c z z' => (one z).1.trans (one z').1.symm, fun i y z => ?_⟩
    · obtain ⟨_, rfl⟩ := one z
      exact ⟨(e0.bs _ _ (e0.mod.kin _ _ lk3)).2, v3, _, inK _ _ lk3, rfl⟩
    · have hy : y = "__class__" := by
        have z2 := List.mem_of_getElem? z
        rw [List.mem_singleton] at z2
        exact z2
      subst hy
      refine ⟨cc, by simp [List.lookup], fun v z => ?_⟩
      cases i with
      | zero => cases z
      | succ j => cases z
  refine codeAny_call_function hr.depth (inK _ _ lk) rfl S.co S.gen rfl (PySem.W.codeRec_of inK hcd) (hb _ _ _ _ ?_)
  refine wpAny_newFunctionEnv S.nocell (fun ⟨n, _⟩ hy => S.par n (List.of_mem_zip hy).1) (fun h₁ hns hsb => ⟨lim.fresh _ hsb, ?_⟩) S.kind
  show codeAny _ _ (.func body (envF ⟨name, qual, params, body, scope, [("__class__", cc)], cda⟩ f s.heap.objs.size)) _ _
  refine ks_codeAny_funcAt ?_
  have kp : ∀ b o, s.heap.get? b = some o → h₁.get? b = some o := fun b o e => hsb.extBut b o (Nat.ne_of_lt (Heap.lt_size e)) (Heap.get?_push_of_some _ e)
  obtain ⟨t, ht, hq⟩ := hbody A outer s H vs Q E (hr.deeper _) hsp
  have I : Inv (ncx CX P w K mg base N ⟨name, qual, params, body, scope, [("__class__", cc)], cda⟩ f A outer s H E) [] (startF N vs [none]) H { s with heap := h₁, toks := s.toks + (ps.zip us).length } := inv_startN S hr.hd e0 hl r C hns kp
  refine ks_wpAt_mono (ht.run [] _ (startF N vs [none]) H _ I hq) (fun fl s' hs => ?_) fun e s' hs => hs
  have fin : ∀ {σ' : L2.St} {H' : Hp} {v : V} {u : Value}, Inv (ncx CX P w K mg base N ⟨name, qual, params, body, scope, [("__class__", cc)], cda⟩ f A outer s H E) [] σ' H' s' → L2.RelV v u → Q v H' → CE outer P w H s Q u s' :=
    fun {σ' H' v u} J rv q => ⟨v, H', J.os, J.bare, J.base, J.hok, rv, q⟩
  cases fl with
  | ret u =>
    obtain ⟨v, σ', H', J, rv, q⟩ := hs
    exact fin J rv q
  | next =>
    obtain ⟨σ', H', J, q⟩ := hs
    exact fin (v := V.non) (u := Value.none) J rfl q
  | brk =>
    obtain ⟨_, _, _, q⟩ := hs
    exact False.elim q
  | cont =>
    obtain ⟨_, _, _, q⟩ := hs
    exact False.elim q
end G
set_option Elab.async false
set_option linter.all false
set_option maxRecDepth 100000
set_option maxHeartbeats 2000000
/-! Q1: == and != by an own __eq__ with both answers, the right side of any kind. -/
namespace G
open PySem PySem.Spec PyProof.Rows L2
open Builtin in
theorem entry_ne {prog : Program} {w : World} {A : Around} {E : Value → Shared → Prop} {s : Shared} {K : PySem.W.Frag} {x C f : Addr} {ox : Obj} {od : Option Obj} {b : Value} {Q : Fin → Shared → Prop}
    (X : K.In s.heap) (I : PySem.W.InstAt s.heap x ox C od) (hu : A.units < cLine) (hs : PySem.W.findIn K (.ref C) "__eq__" = some (some (.ref f))) (hf : PySem.W.isFn K (.ref f) = true)
    (hcall : wpAny (model prog w) A (call (.ref f) [.ref x, b]) (fun v s' => ∃ k, v = .bool k ∧ Q (.done (.ret (.bool (!k)))) s') E s) :
    wpAny (model prog w) A (Builtin.«object.__ne__» ⟨[.ref x, b], []⟩) Q E s := by
  unfold Builtin.«object.__ne__»
  repeat (first
    | with_reducible refine wpAny_cRoomFor hu ?_
    | (refine wpAny_bind (m := callSpecialIfBound? (.ref x) (Str.ofString "__eq__") [b])
        (PySem.W.ifBound_K X I hs hf (wpAny_mono hcall (fun r s' hr => by
          obtain ⟨k, rfl, hq⟩ := hr
          repeat (first | exact hq | exact wpAny_pure hq | exact wpAny_truthy_bool hq | (refine wpAny_bind (m := truthy (.bool _)) (wpAny_truthy_bool ?_)) | wp_step)) fun _ _ e => e)))
    | wp_step)
/-- what == and != ask of the class at C -/
structure EqO (K : PySem.W.Frag) (C f : Addr) : Prop where
  eq : PySem.W.findIn K (.ref C) "__eq__" = some (some (.ref f))
  fn : PySem.W.isFn K (.ref f) = true
  ne : PySem.W.findIn K (.ref C) "__ne__" = some (some (.builtin "object.__ne__"))
  ob : PySem.W.mroIn K C (.type "object") = some true
theorem ne_K {prog : Program} {w : World} {A : Around} {E : Value → Shared → Prop} {s : Shared} {K : PySem.W.Frag} {x C L f : Addr} {h₀ : Heap} {m : Str → Option Value} {ox : Obj} {od : Option Obj} {b tb : Value} {Q : Value → Shared → Prop} (hu : A.units + 1 < cLine) (hFr : Fr h₀ L s.heap m) (X₀ : K.In h₀)
    (I : PySem.W.InstAt s.heap x ox C od) (hb : PySem.W.Looks (model prog w) s.heap (typeOf b) tb) (hn : PySem.W.notFirst K C tb = true) (e : EqO K C f)
    (h : wpAny (model prog w) A.in1 (call (.ref f) [.ref x, b]) (fun v s' => ∃ k, v = .bool k ∧ Q (.bool (!k)) s') E s) : wpAny (model prog w) A (richCompare .NotEq (.ref x) b) Q E s := by
  have X := X₀.keeps hFr.keep
  have sp : PySem.W.Looks (model prog w) s.heap (specialOf (.ref x) "__ne__") (some (.builtin "object.__ne__")) := I.type.andThen (PySem.W.looks_findIn X e.ne)
  have iv : PySem.W.Looks (model prog w) s.heap (isInstance (.ref x) (.type "object")) true := I.type.andThen (PySem.W.looks_mroIn X e.ob)
  have one : wpAny (model prog w) A (tryCompare (.ref x) "__ne__" b) (fun r s' => ∃ v, r = some v ∧ Q v s') E s := by
    unfold tryCompare
    refine wpAny_bind (NtL.csib sp (F.cmp_object.ne.bind _) (wpAny_call (codeAny_call_builtin F.cmp_object.ne.plain F.cmpEntry_ne
      (PySem.W.check_slot F.cmpKind_ne F.cmpSplit_ne iv (F.cmpArgs_ne _ _) (entry_ne (A := A.in1) X I hu e.eq e.fn (wpAny_mono h (fun v s' hv => ?_) fun _ _ z => z))))))
    obtain ⟨k, rfl, hq⟩ := hv
    first | exact ⟨k, rfl, wpAny_pure ⟨_, rfl, hq⟩⟩ | exact ⟨k, rfl, _, rfl, hq⟩
  unfold richCompare
  simp only [oneThing_ref]
  refine wpAny_holding (wpAny_bind (wpAny_cRoomFor (Nat.lt_of_succ_lt hu) ?_))
  rw [cmpInfo_NotEq]
  dsimp only
  refine wpAny_bind (I.type.here (wpAny_bind (hb.here ?_)))
  split
  · rename_i q
    have e : PySem.W.subIn K tb (.ref C) = some false := by
      rcases Bool.or_eq_true_iff.mp hn with e | e
      · rw [beq_iff_eq.mp e] at q; simp at q
      · exact beq_iff_eq.mp e
    refine wpAny_bind ((PySem.W.looks_subIn X e).here ?_)
    simp only [Bool.false_eq_true, if_false]
    refine wpAny_bind (wpAny_mono one (fun r s' z => ?_) fun _ _ e => e)
    obtain ⟨v, rfl, hq⟩ := z
    exact wpAny_pure hq
  · refine wpAny_bind (wpAny_pure ?_)
    simp only [Bool.false_eq_true, if_false]
    refine wpAny_bind (wpAny_mono one (fun r s' z => ?_) fun _ _ e => e)
    obtain ⟨v, rfl, hq⟩ := z
    exact wpAny_pure hq
/-- the kinds of things on the right -/
inductive Oth (H : Hp) : V → Value → Prop where
  | non : Oth H .non (.type "NoneType")
  | int (i : Int) : Oth H (.int i) (.type "int")
  | str (z : Str) : Oth H (.str z) (.type "str")
  | lst {a : Addr} {xs : List V} (e : H a = some (.lst xs)) : Oth H (.ref a) (.type "list")
  | tup {a : Addr} {xs : List V} (e : H a = some (.tup xs)) : Oth H (.ref a) (.type "tuple")
  | ins {a C dx : Addr} {fs : List (Str × V)} (e : H a = some (.ins C dx fs)) : Oth H (.ref a) (.ref C)
theorem insX_at {X : Cx} {pins : List (Addr × Obj)} {σ : L2.St} {H : Hp} {s : Shared} {a C dx : Addr} {fs : List (Str × V)} (I : Inv X pins σ H s) (h : H a = some (.ins C dx fs)) : ∃ ox od, PySem.W.InstAt s.heap a ox C od := by
  obtain ⟨mA, O, _⟩ := ins_get I.hok h
  obtain ⟨od, J, _⟩ := O.look
  exact ⟨_, _, J⟩
theorem oth_looks {X : Cx} {pins : List (Addr × Obj)} {σ : L2.St} {H : Hp} {s : Shared} {x : V} {u t : Value} (I : Inv X pins σ H s) (rx : RelV x u) (o : Oth H x t) (M : Model) : PySem.W.Looks M s.heap (typeOf u) t := by
  cases o with
  | non => cases (show u = Value.none from rx); exact .of_pure rfl
  | int i => obtain ⟨t, q⟩ := (show ∃ t, u = Value.int i t from rx); cases q; exact .of_pure rfl
  | str y => obtain ⟨t, q⟩ := (show ∃ t, u = Value.str y t from rx); cases q; exact .of_pure rfl
  | @lst a xs ea =>
    cases (show u = Value.ref a from rx)
    obtain ⟨_, _, n, _, h1⟩ := (show ObjOk X.prog X.w H s.heap a (.lst xs) from I.hok a _ ea)
    exact (PySem.W.Looks.ld h1).andThen .now
  | @tup a xs ea =>
    cases (show u = Value.ref a from rx)
    obtain ⟨_, _, _, o, h1, h2, _⟩ := (show ObjOk X.prog X.w H s.heap a (.tup xs) from I.hok a _ ea)
    rw [← h2]
    exact (PySem.W.Looks.ld h1).andThen .now
  | @ins a C dx fs ea =>
    cases (show u = Value.ref a from rx)
    obtain ⟨ox, od, J⟩ := insX_at I ea
    exact J.type
section
variable {X : Cx} {C g : Addr} {fd : FuncData} {ps : List Str} {n : Nat} {sp : Sp} {E : XK}
def rEqB (K : PySem.W.Frag) (C : Addr) (sp : Sp) (E : XK) (pos : Bool) : R2 := fun x y H Q => ∃ a dx fs t, x = .ref a ∧ H a = some (.ins C dx fs) ∧ Oth H y t ∧ PySem.W.notFirst K C t = true ∧ sp [x, y] H (fun v H' => ∃ k : Bool, v = .bl k ∧ Q (.bl (cond pos k (!k))) H') E
theorem op_eqB (e : EqO X.K C g) (hb : Binds X.K fd ps []) (F : FnOk X.prog X.w X.K X.mg X.base CX0 n g fd ps sp) (hr : Room n X.A) (hx : Passes CX0 X E) : OpR X (compareOp .Eq) (rEqB X.K C sp E true) := by
  intro pins s σ H x y v u Q I rx ry h
  obtain ⟨a, dx, fs, t, rfl, ha, ho, hn, q⟩ := h
  cases (show v = Value.ref a from rx)
  obtain ⟨ox, od, J⟩ := insX_at I ha
  obtain ⟨m, hF⟩ := I.fr
  refine PySem.W.cmp_K (op := .Eq) hr.units0 hF I.ok.mod.kin J (oth_looks I ry ho _) hn e.eq e.fn ?_
  refine wpAny_mono (run_fn (us := [.ref a, u]) (vs := [.ref a, y]) F hr hb .nil hx I (.cons rfl (.cons ry .nil)) q) (fun w s' z => ?_) fun _ _ x => x
  obtain ⟨z', H', I', rz, k, rfl, qz⟩ := z
  exact SlX.cmpback rz ⟨.bl k, H', I', rz, qz⟩
theorem op_neB (e : EqO X.K C g) (hb : Binds X.K fd ps []) (F : FnOk X.prog X.w X.K X.mg X.base CX0 n g fd ps sp) (hr : Room (n + 1) X.A) : OpR X (compareOp .NotEq) (rEqB X.K C sp E false) := by
  intro pins s σ H x y v u Q I rx ry h
  obtain ⟨a, dx, fs, t, rfl, ha, ho, hn, q⟩ := h
  cases (show v = Value.ref a from rx)
  obtain ⟨ox, od, J⟩ := insX_at I ha
  obtain ⟨m, hF⟩ := I.fr
  refine ne_K (by have := hr.units; omega) hF I.ok.mod.kin J (oth_looks I ry ho _) hn e ?_
  have hl : ([Value.ref a, u] ++ []).length = ps.length := by
    have := F.len _ _ _ _ q
    exact this
  refine wpAny_call (codeAny_mono (F.run X.A.in1 X.stack s H ⟨[.ref a, u], []⟩ ([.ref a, u] ++ []) [.ref a, y] _ E hr.in1 I.env0.in1 (hb s [.ref a, u] I.kIn hl) (.cons rfl (.cons ry .nil)) q) fun r s' hq => ?_)
  cases r with
  | error e => exact False.elim hq
  | ok fl =>
    cases fl with
    | ret u =>
      obtain ⟨v, H', I2, rv, k, rfl, q⟩ := I.after hq
      obtain rfl : u = Value.bool k := rv
      exact ⟨k, rfl, .bl (!k), H', I2, rfl, q⟩
    | next => exact False.elim hq
    | brk => exact False.elim hq
    | cont => exact False.elim hq
end
end G
set_option Elab.async false
set_option linter.all false
set_option maxRecDepth 100000
set_option maxHeartbeats 2000000
/-! Q2: str(x) by an own __str__; keys that differ stay so. -/
namespace G
open PySem PySem.Spec PyProof.Rows L2
section
variable {X : Cx} {C g : Addr} {fd : FuncData} {ps : List Str} {n : Nat} {sp : Sp} {E : XK}
def rStrB (C : Addr) (sp : Sp) (E : XK) : List V → Hp → VK → Prop := fun xs H Q => ∃ a dx fs, xs = [V.ref a] ∧ H a = some (.ins C dx fs) ∧ sp [.ref a] H (fun z H' => ∃ y, z = .str y ∧ Q z H') E
theorem call_strB (hs : PySem.W.findIn X.K (.ref C) "__str__" = some (some (.ref g))) (hf : PySem.W.isFn X.K (.ref g) = true) (hb : Binds X.K fd ps []) (F : FnOk X.prog X.w X.K X.mg X.base CX0 n g fd ps sp) (hr : Room (n + 2) X.A) : CallR X (.type "str") (rStrB C sp E) := by
  intro pins s σ H xs us Q I r h
  obtain ⟨a, dx, fs, rfl, ha, q⟩ := h
  obtain ⟨u, rfl, ru⟩ := r.one
  cases (show u = Value.ref a from ru)
  obtain ⟨ox, od, J⟩ := insX_at I ha
  have hr2 : Room n X.A.in1.in1 := (show Room (n + 1) X.A.in1 from Room.in1 hr).in1
  refine PySem.W.kso_call (by have := hr2.units; omega) I.kIn J hs hf ?_
  have hl : ([Value.ref a] ++ []).length = ps.length := by
    have := F.len _ _ _ _ q
    exact this
  refine wpAny_call (codeAny_mono (F.run X.A.in1.in1 X.stack s H ⟨[Value.ref a], []⟩ ([Value.ref a] ++ []) [V.ref a] _ E hr2 I.env0.in1.in1 (hb s [Value.ref a] I.kIn hl) (show Vals [V.ref a] [Value.ref a] from .cons rfl .nil) q) fun r s' hq => ?_)
  cases r with
  | error e => exact False.elim hq
  | ok fl =>
    cases fl with
    | ret u =>
      obtain ⟨v, H', I2, rv, y, rfl, q⟩ := I.after hq
      obtain ⟨t, rfl⟩ := (show ∃ t, u = Value.str y t from rv)
      exact ⟨.str y, H', I2, ⟨t, rfl⟩, q⟩
    | next => exact False.elim hq
    | brk => exact False.elim hq
    | cont => exact False.elim hq
end
theorem nodup_put {kvs : List (Key × V)} (h : (kvs.map (·.1)).Nodup) (k : Key) (v : V) : ((putK kvs k v).map (·.1)).Nodup := by
  unfold putK
  split
  · rw [List.map_map]
    have e : (kvs.map ((fun p : Key × V => p.1) ∘ fun kv => if kv.1 = k then (kv.1, v) else kv)) = kvs.map (·.1) := List.map_congr_left fun p _ => by
      show (if p.1 = k then (p.1, v) else p).1 = p.1
      split <;> rfl
    rw [e]
    exact h
  · rename_i hn
    rw [List.map_append, List.nodup_append]
    refine ⟨h, by simp, fun x hx y hy => ?_⟩
    rw [List.map_cons, List.map_nil, List.mem_singleton] at hy
    rintro rfl
    obtain ⟨p, hp, e⟩ := List.mem_map.mp hx
    apply hn
    exact List.any_eq_true.mpr ⟨p, hp, decide_eq_true (e.trans hy)⟩
theorem valV_nodup : ∀ {kvs : List (Key × V)}, (kvs.map (·.1)).Nodup → ∀ p ∈ kvs, valV kvs p.1 = some p.2
  | p :: kvs, h, q, hq => by
    rw [List.map_cons, List.nodup_cons] at h
    show Option.map (fun r : Key × V => r.2) (List.find? (fun kv => decide (kv.1 = q.1)) (p :: kvs)) = some q.2
    rcases List.mem_cons.mp hq with rfl | hq'
    · rw [List.find?_cons_of_pos (by simp)]
      rfl
    · have ne : ¬ p.1 = q.1 := fun e => h.1 (by rw [e]; exact List.mem_map.mpr ⟨q, hq', rfl⟩)
      rw [List.find?_cons_of_neg (by simpa using ne)]
      exact valV_nodup h.2 q hq'
end G
set_option Elab.async false
set_option linter.all false
set_option maxRecDepth 100000
set_option maxHeartbeats 2000000
/-! R1: methods, calls and operators of an instance whose class is not known ahead; super().__init__(*xs). -/
namespace G
open PySem PySem.Spec PyProof.Rows L2 NdefX StX

/-- the class at C keeps the promise sp for its method m -/
structure PolyM (P : Program) (w : World) (K : PySem.W.Frag) (mg : Str → Option Value) (base : Heap) (k : Nat) (C : Addr) (m : Str) (sp : Sp) : Prop where
  cl : Cls K C
  ex : ∃ (f : Addr) (fd : FuncData) (ps : List Str), Meth K C m f ∧ Binds K fd ps [] ∧ FnOk P w K mg base CX0 k f fd ps sp
/-- .. for the calls of its instances -/
structure PolyC (P : Program) (w : World) (K : PySem.W.Frag) (mg : Str → Option Value) (base : Heap) (k : Nat) (C : Addr) (sp : Sp) : Prop where
  ex : ∃ (f : Addr) (fd : FuncData) (ps : List Str), CallO K C f ∧ Binds K fd ps [] ∧ FnOk P w K mg base CX0 k f fd ps sp

/-- o.m(e, ..), o an instance of some class that keeps sp -/
def tMethV (X : Cx) (k : Nat) (m : Str) (E : XK) (ta : TE) (t : TA) : TE := fun σ H Q => ta σ H fun x H1 => ∃ (a C dx : Addr) (fs : List (Str × V)) (sp : Sp), x = .ref a ∧ H1 a = some (.ins C dx fs) ∧ PolyM X.prog X.w X.K X.mg X.base k C m sp ∧ fs.lookup m = none ∧ t σ H1 fun vs H2 => sp (.ref a :: vs) H2 Q E
/-- o(e, ..) -/
def tCallV (X : Cx) (k : Nat) (E : XK) (ta : TE) (t : TA) : TE := fun σ H Q => ta σ H fun x H1 => ∃ (a C : Addr) (sp : Sp), x = .ref a ∧ PolyC X.prog X.w X.K X.mg X.base k C sp ∧ t σ H1 fun vs H2 => InsC X H2 a C ∧ sp (.ref a :: vs) H2 Q E
section
variable {X : Cx} {k : Nat} {E : XK} {m : Str} {pos apos : Pos} {e o fe : Expr} {es : List Expr} {ta : TE} {t : TA}
theorem pe_methV {pl : Sem Bool} (he : PE X o ta) (hr : Room k X.A) (hx : Passes CX0 X E) (ha : PA X (e :: es) t)
    (hst : starEach (e :: es) X.env = (false, eval e X.env) :: starEach es X.env := by rfl) (hpl : (backTo pos (starEach es X.env)).any (·.1) = false := by rfl)
    (ht : eval (.Call (.Attribute o m apos) (e :: es) [] pos) X.env = (eval o X.env >>= fun ov => standAt apos.atName >>= fun _ => holding [ov] (getMethod ov m pl) >>= fun q => callWith pos q.1 q.2 (backTo pos (starEach (e :: es) X.env)) (backToKw pos (keywordEach [] X.env))) := by rfl) :
    PE X (.Call (.Attribute o m apos) (e :: es) [] pos) (tMethV X k m E ta t) := by
  refine ⟨fun pins s σ H Q I h => ?_⟩
  refine PySem.W.methodCall_KW (pl := pl) (thn (he.run pins s σ H _ I h) fun u s1 ⟨x, H1, I1, rx, a, C, dx, fs, sp, ex, ea, pm, l, q⟩ => ?_) ht
  subst ex
  obtain rfl : u = Value.ref a := rx
  obtain ⟨f, fd, ps, hm, hb, F⟩ := pm.ex
  refine getmeth_ok I1 ea pm.cl hm l ?_
  refine PySem.W.callWith_K (h₀ := X.base) (first := [.ref a]) I.ok.mod.kin hm.kp (thn (ha.run pos pins s1 σ H1 _ I1 q) fun us s2 ⟨vs, H2, I2, r, q2⟩ => ⟨I2.kIn, ?_⟩) hst hpl
  exact run_fn (us := .ref a :: us) (vs := .ref a :: vs) F hr hb .nil hx I2 (.cons rfl r) (by rw [List.append_nil]; exact q2)
theorem pe_methV0 {pl : Sem Bool} (he : PE X o ta) (hr : Room k X.A) (hx : Passes CX0 X E)
    (ht : eval (.Call (.Attribute o m apos) [] [] pos) X.env = (eval o X.env >>= fun ov => standAt apos.atName >>= fun _ => holding [ov] (getMethod ov m pl) >>= fun q => callWith pos q.1 q.2 (backTo pos (starEach [] X.env)) (backToKw pos (keywordEach [] X.env))) := by rfl) :
    PE X (.Call (.Attribute o m apos) [] [] pos) (tMethV X k m E ta tNil) := by
  refine ⟨fun pins s σ H Q I h => ?_⟩
  refine PySem.W.methodCall_KW (pl := pl) (thn (he.run pins s σ H _ I h) fun u s1 ⟨x, H1, I1, rx, a, C, dx, fs, sp, ex, ea, pm, l, q⟩ => ?_) ht
  subst ex
  obtain rfl : u = Value.ref a := rx
  obtain ⟨f, fd, ps, hm, hb, F⟩ := pm.ex
  refine getmeth_ok I1 ea pm.cl hm l ?_
  exact PySem.W.callWith_K0 (first := [.ref a]) I1.kIn hm.kp (run_fn (us := [.ref a]) (vs := [.ref a]) F hr hb .nil hx I1 (.cons rfl .nil) q)
theorem pe_callV (hf : PE X fe ta) (hr : Room k X.A) (hx : Passes CX0 X E) (ha : PA X (e :: es) t)
    (ht : eval (.Call fe (e :: es) [] pos) X.env = (eval fe X.env >>= fun g => callWith pos g [] (backTo pos (starEach (e :: es) X.env)) (backToKw pos (keywordEach [] X.env))) := by rfl)
    (he : starEach (e :: es) X.env = (false, eval e X.env) :: starEach es X.env := by rfl) (hpl : (backTo pos (starEach es X.env)).any (·.1) = false := by rfl) : PE X (.Call fe (e :: es) [] pos) (tCallV X k E ta t) := by
  refine ⟨fun pins s σ H Q I h => ?_⟩
  refine Call_ (thn (hf.run pins s σ H _ I h) fun u s1 ⟨y, H1, I1, ry, a, C, sp, ey, pc, q⟩ => ?_) ht
  subst ey
  obtain rfl : u = Value.ref a := ry
  obtain ⟨f, fd, ps, c, hb, F⟩ := pc.ex
  refine callO_with (thn (ha.run pos pins s1 σ H1 _ I1 q) fun us s2 ⟨vs, H2, I2, r, hi, q2⟩ => ?_) he hpl
  obtain ⟨ox, od, J, hd⟩ := insC_at I2 hi
  exact ⟨⟨C, ox, od, J, hd⟩, run_callO c (F.raw hb .nil) hr hx I2 hi r (by simpa using q2)⟩
end

/-! ### a sign between two instances of own classes -/
/-- the class at C has the sign's method (and no reflected one) -/
structure OpO (K : PySem.W.Frag) (C : Addr) (op : Operator) (f : Addr) : Prop where
  first : PySem.W.selfFirst K C = true
  at_ : PySem.W.findIn K (.ref C) (PySem.dunder op.info.2) = some (some (.ref f))
  fn : PySem.W.isFn K (.ref f) = true
  ref_ : PySem.W.findIn K (.ref C) (dunderR op.info.2) = some none
theorem bin_own {prog : Program} {w : World} {A : Around} {E : Value → Shared → Prop} {s : Shared} {K : PySem.W.Frag} {x y C C2 f g : Addr} {ox oy : Obj} {od od2 : Option Obj} {op : Operator} {Q : Value → Shared → Prop} (X : K.In s.heap)
    (I : PySem.W.InstAt s.heap x ox C od) (J : PySem.W.InstAt s.heap y oy C2 od2) (o1 : OpO K C op f) (o2 : OpO K C2 op g) (hs : C = C2 ∨ PySem.W.subIn K (.ref C2) (.ref C) = some false)
    (h : wpAny (model prog w) A (call (.ref f) [.ref x, .ref y]) (PySem.W.CmpBack Q) E s) : wpAny (model prog w) A (binaryOp op (.ref x) (.ref y)) Q E s := by
  obtain ⟨cd1, rest1, hc1, hm1⟩ := PySem.W.ksp_first o1.first
  obtain ⟨cd2, rest2, hc2, hm2⟩ := PySem.W.ksp_first o2.first
  have a1 := o1.at_
  have a2 := o2.at_
  have r1 := o1.ref_
  have r2 := o2.ref_
  rcases hi : op.info with ⟨sym, nm⟩
  rw [hi] at a1 a2 r1 r2
  dsimp only at a1 a2 r1 r2
  have one := PySem.W.ksp_try X I a1 o1.fn h
  obtain ⟨hh, gs, d, tt, os⟩ := s
  have L1 : PySem.W.Looks (model prog w) hh (typeOf (.ref x)) (.ref C) := I.type
  have L2 : PySem.W.Looks (model prog w) hh (typeOf (.ref y)) (.ref C2) := J.type
  have L3 : PySem.W.Looks (model prog w) hh (fillsNumberSlot (.ref C) nm) true := PySem.W.fills_K X hc1 hm1 a1
  have L4 : PySem.W.Looks (model prog w) hh (fillsNumberSlot (.ref C2) nm) true := PySem.W.fills_K X hc2 hm2 a2
  have L6 : PySem.W.Looks (model prog w) hh (numberSlotInPython (.ref C) nm) true := PySem.W.ksp_inPy X a1 r1 (.inl rfl)
  have L7 : PySem.W.Looks (model prog w) hh (numberSlotInPython (.ref C2) nm) true := PySem.W.ksp_inPy X a2 r2 (.inl rfl)
  simp only [binaryOp, hi]
  refine wpAny_holding (wpAny_bind ?_)
  unfold binaryOp1
  refine wpAny_bind (L1.at (wpAny_bind (L2.at (wpAny_bind (L3.at ?_)))))
  by_cases e : C = C2
  · have hne : (Value.ref C == Value.ref C2) = true := by
      rw [e]
      exact beq_self_eq_true _
    simp only [hne, if_true]
    ksp_lk
    refine wpAny_mono one (fun r s' hr' => ?_) fun _ _ z => z
    obtain ⟨v, rfl, hq⟩ := hr'
    ksp_lk
    exact hq
  · have hne : (Value.ref C == Value.ref C2) = false := Bool.eq_false_iff.mpr fun q => e (by
      have := beq_iff_eq.mp q
      injection this)
    have hs2 : PySem.W.subIn K (.ref C2) (.ref C) = some false := hs.resolve_left e
    have L5 : PySem.W.Looks (model prog w) hh (isSubtype (.ref C2) (.ref C)) false := PySem.W.looks_subIn X hs2
    simp only [hne, Bool.false_eq_true, if_false]
    ksp_lk
    refine wpAny_mono one (fun r s' hr' => ?_) fun _ _ z => z
    obtain ⟨v, rfl, hq⟩ := hr'
    ksp_lk
    exact hq
theorem insO_at {X : Cx} {pins : List (Addr × Obj)} {σ : L2.St} {H : Hp} {s : Shared} {a C dx : Addr} {fs : List (Str × V)} (I : Inv X pins σ H s) (h : H a = some (.ins C dx fs)) : ∃ ox od, PySem.W.InstAt s.heap a ox C od ∧ ox.data = .plain :=
  insC_at I (.inr ⟨dx, fs, h⟩)
/-- two classes under one sign: what the class at C does with one of the class at C2 -/
structure PolyO (P : Program) (w : World) (K : PySem.W.Frag) (mg : Str → Option Value) (base : Heap) (k : Nat) (C C2 : Addr) (op : Operator) (sp : Sp) : Prop where
  ex : ∃ (f g : Addr) (fd : FuncData) (ps : List Str), OpO K C op f ∧ OpO K C2 op g ∧ (C = C2 ∨ PySem.W.subIn K (.ref C2) (.ref C) = some false) ∧ Binds K fd ps [] ∧ FnOk P w K mg base CX0 k f fd ps sp
def rOwn (X : Cx) (k : Nat) (op : Operator) (sp : Sp) (E : XK) : R2 := fun x y H Q => ∃ a b C C2 dx dy fs gs, x = .ref a ∧ y = .ref b ∧ H a = some (.ins C dx fs) ∧ H b = some (.ins C2 dy gs) ∧ PolyO X.prog X.w X.K X.mg X.base k C C2 op sp ∧
  sp [.ref a, .ref b] H (fun v H' => (∃ r, v = .ref r) ∧ Q v H') E
theorem op_own {X : Cx} {k : Nat} {sp : Sp} {E : XK} (op : Operator) (hr : Room k X.A) (hx : Passes CX0 X E) : OpR X (binaryOp op) (rOwn X k op sp E) := by
  intro pins s σ H x y v u Q I rx ry h
  obtain ⟨a, b, C, C2, dx, dy, fs, gs, rfl, rfl, ha, hb, po, q⟩ := h
  obtain rfl : v = Value.ref a := rx
  obtain rfl : u = Value.ref b := ry
  obtain ⟨f, g, fd, ps, o1, o2, hs, hbd, F⟩ := po.ex
  obtain ⟨ox, od, J1, _⟩ := insO_at I ha
  obtain ⟨oy, od2, J2, _⟩ := insO_at I hb
  refine bin_own I.kIn J1 J2 o1 o2 hs (thn (run_fn (us := [.ref a, .ref b]) (vs := [.ref a, .ref b]) F hr hbd .nil hx I (.cons rfl (.cons rfl .nil)) q) fun r s' z => ?_)
  obtain ⟨v, H', I', rv, ⟨p, rfl⟩, q'⟩ := z
  obtain rfl : r = Value.ref p := rv
  exact ⟨V.ref p, H', I', rfl, q'⟩
/-! ### ~x -/
structure PolyU (P : Program) (w : World) (K : PySem.W.Frag) (mg : Str → Option Value) (base : Heap) (k : Nat) (C : Addr) (sp : Sp) : Prop where
  ex : ∃ (f : Addr) (fd : FuncData) (ps : List Str), PySem.W.findIn K (.ref C) "__invert__" = some (some (.ref f)) ∧ PySem.W.isFn K (.ref f) = true ∧ Binds K fd ps [] ∧ FnOk P w K mg base CX0 k f fd ps sp
def rInv (X : Cx) (k : Nat) (sp : Sp) (E : XK) : V → Hp → VK → Prop := fun x H Q => ∃ a C dx fs, x = .ref a ∧ H a = some (.ins C dx fs) ∧ PolyU X.prog X.w X.K X.mg X.base k C sp ∧ sp [.ref a] H Q E
theorem inv_own {M : Model} {A : Around} {E : Value → Shared → Prop} {s : Shared} {K : PySem.W.Frag} {x C f : Addr} {ox : Obj} {od : Option Obj} {Q : Value → Shared → Prop} (X : K.In s.heap) (I : PySem.W.InstAt s.heap x ox C od)
    (hs : PySem.W.findIn K (.ref C) "__invert__" = some (some (.ref f))) (hf : PySem.W.isFn K (.ref f) = true) (h : wpAny M A (call (.ref f) [.ref x]) Q E s) : wpAny M A (unaryOp .Invert (.ref x)) Q E s := by
  unfold unaryOp
  refine wpAny_holding (wpAny_bind (PySem.W.special_fn X I hs (beq_iff_eq.mp hf) (thn h fun _ _ z => ?_)))
  exact wpAny_pure z
theorem un_own {X : Cx} {k : Nat} {sp : Sp} {E : XK} (hr : Room k X.A) (hx : Passes CX0 X E) : UnR X (unaryOp .Invert) (rInv X k sp E) := by
  intro pins s σ H x v Q I rx h
  obtain ⟨a, C, dx, fs, rfl, ha, pu, q⟩ := h
  obtain rfl : v = Value.ref a := rx
  obtain ⟨f, fd, ps, h1, h2, hb, F⟩ := pu.ex
  obtain ⟨ox, od, J, _⟩ := insO_at I ha
  exact inv_own I.kIn J h1 h2 (run_fn (us := [.ref a]) (vs := [.ref a]) F hr hb .nil hx I (.cons rfl .nil) q)
end G
set_option Elab.async false
set_option linter.all false
set_option maxRecDepth 100000
set_option maxHeartbeats 2000000
/-! R2: super().__init__(*xs). -/
namespace G
open PySem PySem.Spec PyProof.Rows L2 NdefX StX
/-- super().name as a value: a bound method, new -/
theorem super_attr {prog : Program} {w : World} {A : Around} {E : Value → Shared → Prop} {h : Heap} {g : Array GenState} {d : Drawn} {t : Nat} {os : OsState} {so D x C f : Addr} {of : Obj} {l₀ l : List Value} {K : PySem.W.Frag} {name : Str} {b : Bool} {Q : Value → Shared → Prop}
    (a1 : h.get? so = some { cls := .type "super", dict := none, data := .fields #[.ref D, .ref x, .ref C], slots := #[] }) (a2 : PySem.W.Looks (model prog w) h (opaqueClassAbove (.ref C)) none) (a3 : PySem.W.Looks (model prog w) h (mroOf (.ref C)) l₀)
    (a4 : (l₀.dropWhile (· != .ref D)).drop 1 = l) (X : K.In h) (a5 : PySem.W.alongIn K name l = some (some (.ref f))) (a6 : h.get? f = some of) (a7 : of.cls = .type "function") (a8 : x ≠ C) (a9 : (name == ("__class__" : Str)) = false)
    (q : Q (.ref h.objs.size) ⟨h.push { cls := .type "method", data := .fields #[.ref f, .ref x] }, g, d, t + 1, os⟩) : wpAny (model prog w) A (getAttr (.ref so) name b) Q E ⟨h, g, d, t, os⟩ := by
  have lk := PySem.F.ks_slot_super_ga.lookup
  have ty : ∀ k, (⟨h, g, d, k, os⟩ : Shared).TypeIs (.ref so) "super" := fun _ => ⟨_, a1, rfl⟩
  unfold getAttr getAttrBy
  refine wpAny_bind (wpAny_mkText (wpAny_holding (wpAny_bind (wpAny_typeOf (ty _) (wpAny_bind (wpAny_of_eq lk ?_))))))
  unfold getAttrByItsOwn hookBefore callGetattribute boundAndCalled
  refine wpAny_bind (wpAny_of_eq (show (if onTheHeap (.type "super") then typeLookup (.type "super") "__getattr__" else pure none) = pure none by rfl) ?_)
  refine wpAny_bind (wpAny_attempt (wpAny_holding ?_))
  have off : (b && onTheHeap (Value.builtin "super.__getattribute__")) = false := by
    rw [show onTheHeap (Value.builtin "super.__getattribute__") = false from rfl]
    exact Bool.and_false b
  rw [off, if_neg Bool.false_ne_true]
  refine wpAny_bind (wpAny_of_eq (PySem.F.ks_slot_super_ga.bind _) ?_)
  refine thn (Q := fun v s' => v = .ref h.objs.size ∧ s' = ⟨h.push { cls := .type "method", data := .fields #[.ref f, .ref x] }, g, d, t + 1, os⟩) (wpAny_mono (wpAny_call_entry (E := fun _ _ => False) PySem.F.ks_slot_super_ga (ty _) PySem.F.ks_entry_super_ga
    (ks_wpAny_super_ga a1 a2 a3 a4 X a5 a6 a7 a8 a9 ⟨_, rfl, rfl, rfl⟩) (PySem.F.ks_gaArgs_super _ _)) (fun _ _ z => z) fun _ _ z => z.elim) fun v s' z => ?_
  obtain ⟨rfl, rfl⟩ := z
  exact wpAny_pure q
/-- o.m(*e), whatever o is -/
theorem star_call {M : Model} {A : Around} {c : Code} {E : Value → Shared → Prop} {s : Shared} {env : Env} {o e : Expr} {m : Str} {p apos pos : Pos} {Q : Value → Shared → Prop} (hst : starEach [.Starred e p] env = [(true, eval e env)])
    (h : _root_.PySem.wpAt M A c (attributeBase o m env (eval o env)) (fun ov s₁ => wpAny M A (getAttr ov m true) (fun f s₂ => wpAny M A (callWith pos f [] (backTo pos [(true, eval e env)]) []) Q E s₂) E s₁) E s) :
    _root_.PySem.wpAt M A c (eval (.Call (.Attribute o m apos) [.Starred e p] [] pos) env) Q E s := by
  have form : methodCallForm ([Expr.Starred e p].length + ([] : List Keyword).length) (backTo pos [(true, eval e env)]) [] = false := rfl
  have where_ : methodCallPos false o env apos pos = pure pos := rfl
  have who : ∀ ov, calleeOf false o env ov m = (getAttr ov m true >>= fun v => pure (v, [])) := fun _ => rfl
  have kws : backToKw pos (keywordEach [] env) = [] := rfl
  rw [arm_eval_Call, hst, kws]
  refine _root_.PySem.wpAt_bind (ks_wpAt_mono h (fun ov s₁ z => wpAt_of_wpAny (wpAny_bind (wpAny_standAt ?_))) fun _ _ z => z)
  unfold methodCall
  rw [form, where_, who]
  refine wpAny_bind (wpAny_holding (wpAny_bind (thn z fun f s₂ y => wpAny_pure ?_)))
  exact wpAny_bind (wpAny_pure y)
/-- super().__init__(*xs), the instance in the slot i -/
def tSupS (K : PySem.W.Frag) (i : Nat) (C : Addr) (sp : Sp) (E : XK) (te : TE) : TS := fun D σ H => ∃ a dx fs, σ[i]? = some (some (.ref a)) ∧ H a = some (.ins C dx fs) ∧
  te σ H fun y H1 => ∃ t vs, y = .ref t ∧ (SqT K H1 t vs ∨ SqL K H1 t vs) ∧ sp (.ref a :: vs) H1 (fun _ H2 => D.nx σ H2) E
theorem psa_superS {X : Cx} {CX : CXT} {k i : Nat} {f cda cc D C f2 : Addr} {x : Str} {sp : Sp} {E : XK} {body : List Stmt} {e : Expr} {te : TE} {p0 p1 p2 apos pos spos : Pos}
    (S : SupOf X.prog X.K f cda cc D C f2 x) (F : FnR X.prog X.w X.K X.mg X.base CX k f2 sp) (hr : Room k X.A) (hx : Passes CX X E) (hfu : X.env.func = some f) (hco : X.env.code = .ref cda) (hcl : X.env.cells.lookup ("__class__" : Str) = some cc)
    (hks : X.env.kindOf "super" = some .globalImplicit) (hkc : X.env.kindOf "__class__" = some .free) (hkx : X.env.kindOf x = some .local) (hm : X.mg "super" = none) (hN : X.N[i]? = some x) (he : PE X e te)
    (hst : starEach [.Starred e p2] X.env = [(true, eval e X.env)] := by rfl)
    (hw : swapsWith (.Call (.Attribute (.Call (.Name "super" p0) [] [] p1) "__init__" apos) [.Starred e p2] [] pos) none spos.line X.env = pure false := by rfl) :
    PSa X body (.Expr (.Call (.Attribute (.Call (.Name "super" p0) [] [] p1) "__init__" apos) [.Starred e p2] [] pos) spos) (tSupS X.K i C sp E te) := by
  refine ⟨fun pins s σ H Dn I h => ?_⟩
  obtain ⟨a, dx, fs, h1, h2, q⟩ := h
  refine ks_wpAt_Expr_any (star_call hst (super_base I S hfu hco hcl hks hkc hkx hm hN h1 h2 fun s1 I1 hso => ?_)) I.quiet hw
  obtain ⟨cdC, hC⟩ := S.isC
  have inK := I1.kIn
  have hob : s1.heap.get? a = some (PySem.W.instObj C dx) := (show ObjOk X.prog X.w H s1.heap a (.ins C dx fs) from I1.hok a _ h2).2.2.2.1
  obtain ⟨oC, hC1, hC2⟩ := cls_at inK hC
  have hne : a ≠ C := fun z => by
    rw [z, hC1] at hob
    rw [Option.some.inj hob] at hC2
    cases hC2
  obtain ⟨of, hof, hofc⟩ : ∃ of, s1.heap.get? f2 = some of ∧ of.cls = .type "function" := by
    have ht' : (X.K.lookup f2).map (·.cls) = some (.type "function") := S.ty
    cases z : X.K.lookup f2 with
    | none =>
      rw [z] at ht'
      cases ht'
    | some of =>
      rw [z] at ht'
      exact ⟨of, inK _ _ z, Option.some.inj ht'⟩
  have hsup := S.sup
  unfold PySem.W.ks_superIn at hsup
  rw [hC] at hsup
  obtain ⟨hh, g, d, tk, os⟩ := s1
  refine super_attr hso (PySem.W.looks_opaque inK S.thd) (l₀ := cdC.mro) ((PySem.W.looks_clsIn inK hC).andThen .now) rfl inK hsup hof hofc hne (by decide) ?_
  have I2 := ClX.met_new (g := f2) (C := a) I1
  refine PySem.W.ks_call (P := PySem.W.MethP X.K _ f2 (.ref a)) rfl (PySem.W.keeps_M S.fi) (PySem.W.ks_lone (thn (he.run _ _ σ H _ I2 q) fun v s3 ⟨y, H3, I3, ry, t, vs, ey, ht, hsp⟩ => ?_))
  subst ey
  obtain rfl : v = Value.ref t := ry
  refine StX.star_any I3 ht fun us s5 I5 rv => ?_
  refine ⟨⟨ClX.pin_at I5, I5.kIn⟩, ?_⟩
  refine thn (ClX.run_cm F hr hx I5 rv hsp) fun _ _ y => ?_
  obtain ⟨v', H4, I4, _, q4⟩ := y
  exact ⟨σ, H4, I4, q4⟩
end G
set_option Elab.async false
set_option linter.all false
set_option maxRecDepth 100000
set_option maxHeartbeats 2000000
/-! G3: a cell, its box, a draw from it. -/
namespace G
open PySem PySem.Spec PyProof.Rows L2
def topS (i : Nat) : Stmt := PySem.Challenge.pw_listviews_k09_operators_and_equal_condit.main.body.getD i (.Pass ⟨0, 0, 0, 0⟩)
abbrev sCell : Stmt := topS 46
abbrev sBox : Stmt := topS 47
abbrev sTake : Stmt := topS 48
theorem scCell : FnScope ["_law_script", "_law_k"] ["_law_script", "_law_k"] (defScope sCell) := ⟨rfl, rfl, rfl, by decide +kernel, rfl, by decide +kernel, by decide +kernel⟩
theorem scBox : FnScope ["_law_cell_here"] ["_law_cell_here"] (defScope sBox) := ⟨rfl, rfl, rfl, by decide +kernel, rfl, by decide +kernel, by decide +kernel⟩
theorem scTake : FnScope ["_law_box_here", "_law_many", "_law_digit", "_law_mixed_here"] ["_law_box_here", "_law_many"] (defScope sTake) := ⟨rfl, rfl, rfl, by decide +kernel, rfl, by decide +kernel, by decide +kernel⟩
/-- all but b stands as it stood -/
def But (b : Addr) (H H' : Hp) : Prop := ∀ c o, c ≠ b → H c = some o → H' c = some o
theorem But.refl (b : Addr) (H : Hp) : But b H H := fun _ _ _ h => h
theorem But.trans {b : Addr} {H H1 H2 : Hp} (x : But b H H1) (y : But b H1 H2) : But b H H2 := fun c o n h => y c o n (x c o n h)
theorem But.upd {b : Addr} {H : Hp} {o : HO} : But b H (upd H b o) := fun c u n h => by
  rw [upd_ne n]
  exact h
theorem But.new {b p : Addr} {H : Hp} {o : HO} (h : H p = none) : But b H (L2.upd H p o) := fun c u n e => by
  rw [upd_ne (ne_of_none e h)]
  exact e
theorem But.same {b : Addr} {H H' : Hp} (h : Same H H') : But b H H' := fun c o _ e => h c o e
theorem Same.new {p : Addr} {H : Hp} {o : HO} (h : H p = none) : Same H (upd H p o) := fun c u e => by
  rw [upd_ne (ne_of_none e h)]
  exact e
/-- a box from which at most n draws were made -/
def BoxAt (H : Hp) (b : Addr) (n : Nat) : Prop := ∃ x y z : Int, H b = some (.lst [.int x, .int y, .int z]) ∧ 0 ≤ x ∧ 0 ≤ y ∧ y < 2147483629 ∧ 0 ≤ z ∧ z ≤ n
theorem BoxAt.mono {H : Hp} {b : Addr} {n m : Nat} (h : BoxAt H b n) (le : n ≤ m) : BoxAt H b m := by
  obtain ⟨x, y, z, e, h1, h2, h3, h4, h5⟩ := h
  exact ⟨x, y, z, e, h1, h2, h3, h4, by omega⟩
theorem BoxAt.keep {H H' : Hp} {b : Addr} {n : Nat} (h : BoxAt H b n) (s : ∀ o, H b = some o → H' b = some o) : BoxAt H' b n := by
  obtain ⟨x, y, z, e, r⟩ := h
  exact ⟨x, y, z, s _ e, r⟩
/-- a draw is one of so many -/
theorem draw_at {r m : Int} {n : Nat} (h0 : 0 ≤ r) (h1 : r < m) (e : m = n) : ∃ j : Nat, r = j ∧ j < n := ⟨r.toNat, by omega, by omega⟩
def spCell' (K : PySem.W.Frag) : Sp := fun vs H Q _ => ∃ (a : Addr) (ns : List Int) (z : Int), vs = [.ref a, .int z] ∧ SqL K H a (ns.map V.int) ∧ 0 ≤ z ∧ z < 1000 ∧ ∀ i : Int, Q (.int i) H
def spBox : Sp := fun vs H Q _ => ∃ i : Int, vs = [.int i] ∧ ∀ (b : Addr) (H' : Hp), H b = none → Same H H' → BoxAt H' b 0 → Q (.ref b) H'
def spTake : Sp := fun vs H Q _ => ∃ (b : Addr) (m : Int) (n : Nat), vs = [.ref b, .int m] ∧ BoxAt H b n ∧ n ≤ 100000 ∧ 0 < m ∧ m < 2 ^ 200 ∧
  ∀ (r : Int) (H' : Hp), 0 ≤ r → r < m → BoxAt H' b (n + 1) → But b H H' → Q (.int r) H'
section
variable {P : Program} {w : World} {K : PySem.W.Frag} {mg : Str → Option Value} {base : Heap}
theorem ok_cell {f : Addr} {fd : FuncData} (F : Fun K "_law_cell" "_law_cell" sCell f fd) (ml : mg "len" = none) : FnOk P w K mg base CX0 1 f fd ["_law_script", "_law_k"] (spCell' K) := by
  refine F.ok scCell (fun vs H Q E h => ?_) (fun cdv A outer s H vs Q E hr h => ?_)
  · obtain ⟨a, ns, j, rfl, _⟩ := h
    rfl
  · obtain ⟨a, ns, z, rfl, hS, z0, z1, q⟩ := h
    obtain ⟨j, rfl, hj⟩ := draw_at (n := 1000) z0 z1 rfl
    refine ⟨_, pss_cons (ps_if (pt_cmpR op_lt (pv 1) (pe_callB call_len_seq (by rfl) ml PySem.boot_len (pa_cons (pv 0) pa_nil)) (nomark _))
        (pss_one (ps_ret (pe_ix ix_list (pv 0) (pv 1) (fun _ _ => rfl)))) pss_nil)
      (pss_one (ps_ret (pe_op op_add (pe_op op_mul pe_int (pv 1)) pe_int))), ?_⟩
    refine ⟨_, rfl, _, rfl, a, _, rfl, .inl hS, _, _, rfl, rfl, _, rfl, ite2 (fun e => ?_) (fun _ => ?_)⟩
    · have e1 : (j : Int) < ((ns.map V.int).length : Nat) := of_decide_eq_true e
      have e2 : j < ns.length := by
        rw [List.length_map] at e1
        omega
      exact ⟨_, rfl, _, rfl, a, _, _, .int ns[j], rfl, rfl, hS, atI_nat (by rw [List.getElem?_map, List.getElem?_eq_getElem e2] <;> rfl), q _⟩
    · exact ⟨_, rfl, _, _, rfl, rfl, .inl ⟨by decide, by decide⟩, _, _, rfl, rfl, q _⟩
theorem ok_box {f : Addr} {fd : FuncData} (F : Fun K "_law_box" "_law_box" sBox f fd) (mm : mg "max" = none) : FnOk P w K mg base CX0 1 f fd ["_law_cell_here"] spBox := by
  refine F.ok scBox (fun vs H Q E h => ?_) (fun cdv A outer s H vs Q E hr h => ?_)
  · obtain ⟨i, rfl, _⟩ := h
    rfl
  · obtain ⟨i, rfl, q⟩ := h
    refine ⟨_, pss_one (ps_ret (pe_lst (pa_cons (pe_callB (call_max2 rfl) (by rfl) mm (by decide +kernel) (pa_cons pe_int (pa_cons (pe_op op_sub (pv 0) (pe_op op_pow pe_int pe_int)) pa_nil)))
      (pa_cons (pe_op op_mod (pv 0) pe_int) (pa_cons pe_int pa_nil))))), ?_⟩
    refine ⟨_, rfl, _, _, rfl, rfl, ⟨by decide, by decide, by decide⟩, _, _, rfl, rfl, _, _, rfl, _, rfl, _, _, rfl, rfl, (by show (0 : Int) < 2147483629; decide), (by show 3 ≤ sizeLine; decide), fun b hb => ?_⟩
    refine q b _ hb (Same.new hb) ⟨_, _, _, upd_same, ?_, Int.emod_nonneg _ (by decide), Int.emod_lt_of_pos _ (by decide), Int.le_refl _, Int.le_refl _⟩
    split <;> omega
theorem emod_in (a m : Int) (h : 0 < m) : 0 ≤ a % m ∧ a % m < m := ⟨Int.emod_nonneg _ (by omega), Int.emod_lt_of_pos _ h⟩
theorem ok_take {f : Addr} {fd : FuncData} (F : Fun K "_law_take" "_law_take" sTake f fd) : FnOk P w K mg base CX0 1 f fd ["_law_box_here", "_law_many"] spTake := by
  refine F.ok scTake (fun vs H Q E h => ?_) (fun cdv A outer s H vs Q E hr h => ?_)
  · obtain ⟨b, m, n, rfl, _⟩ := h
    rfl
  · obtain ⟨b, m, n, rfl, ⟨x, y, z, hb, hx, hy, hy2, hz, hzn⟩, hn, hm, hm2, q⟩ := h
    refine ⟨_, pss_cons (ps_if (pt_cmpR op_gt (pe_ix ix_list (pv 0) pe_int (fun _ _ => rfl)) pe_int (nomark _))
        (pss_cons (ps_set (i := 2) scTake.nd rfl (.inl rfl) (pe_op op_mod (pe_ix ix_list (pv 0) pe_int (fun _ _ => rfl)) (pv 1)))
        (pss_cons (ps_asg (pe_op op_fdivW (pe_ix ix_list (pv 0) pe_int (fun _ _ => rfl)) (pv 1)) (pg_sub (pv 0) pe_int set_list))
        (pss_one (ps_ret (pv 2))))) pss_nil)
      (pss_cons (ps_asg (pe_op op_add (pe_ix ix_list (pv 0) pe_int (fun _ _ => rfl)) pe_int) (pg_sub (pv 0) pe_int set_list))
      (pss_cons (ps_set (i := 3) scTake.nd rfl (.inl rfl) (pe_op op_mod (pe_op op_pow (pe_op op_add (pe_op op_add (pe_ix ix_list (pv 0) pe_int (fun _ _ => rfl)) (pe_op op_mul pe_int (pe_ix ix_list (pv 0) pe_int (fun _ _ => rfl)))) pe_int) pe_int) pe_int))
      (pss_cons (ps_set (i := 3) scTake.nd rfl (.inl rfl) (pe_op op_mod (pe_op op_pow (pe_op op_add (pv 3) (pe_op op_mul pe_int (pe_ix ix_list (pv 0) pe_int (fun _ _ => rfl)))) pe_int) pe_int))
      (pss_one (ps_ret (pe_op op_mod (pe_op op_fdivW (pv 3) pe_int) (pv 1))))))), ?_⟩
    -- if box[0] > 0
    refine ⟨_, rfl, b, _, 0, .int x, rfl, rfl, .of hb, rfl, _, _, rfl, rfl, _, rfl, ite2 (fun e => ?_) (fun _ => ?_)⟩
    · refine ⟨_, rfl, b, _, 0, .int x, rfl, rfl, .of hb, rfl, _, rfl, _, _, rfl, rfl, hm, ?_⟩
      refine ⟨_, rfl, b, _, 0, .int x, rfl, rfl, .of hb, rfl, _, rfl, _, _, rfl, rfl, wide_div hm (b := 200) (by omega) (by decide) (by decide), ?_⟩
      refine ⟨_, rfl, b, _, 0, 0, rfl, rfl, hb, rfl, _, rfl, ?_⟩
      have r := emod_in x m hm
      exact q _ _ r.1 r.2 ⟨_, _, _, upd_same, Int.ediv_nonneg hx (by omega), hy, hy2, hz, by omega⟩ But.upd
    · refine ⟨_, rfl, b, _, 2, .int z, rfl, rfl, .of hb, rfl, _, _, rfl, rfl, ?_⟩
      refine ⟨_, rfl, b, _, 2, 2, rfl, rfl, hb, rfl, ?_⟩
      have hb' : (upd H b (.lst [.int x, .int y, .int (z + 1)])) b = some (.lst [.int x, .int y, .int (z + 1)]) := upd_same
      refine ⟨_, rfl, b, _, 1, .int y, rfl, rfl, .of hb', rfl, _, rfl, b, _, 2, .int (z + 1), rfl, rfl, .of hb', rfl, _, _, rfl, rfl, .inl ⟨by decide, by decide⟩, _, _, rfl, rfl, _, _, rfl, rfl,
        _, _, rfl, rfl, ⟨by decide, by decide, by omega⟩, _, _, rfl, rfl, (by show (0 : Int) < 2147483647; decide), ?_⟩
      generalize h1 : ((y + 7417 * (z + 1) + 211) ^ (5 : Int).toNat : Int) = t1
      have r1 := emod_in t1 2147483647 (by decide)
      refine ⟨_, rfl, _, rfl, b, _, 2, .int (z + 1), rfl, rfl, .of hb', rfl, _, _, rfl, rfl, .inl ⟨by decide, by decide⟩, _, _, rfl, rfl, _, _, rfl, rfl, ⟨by decide, by decide, by omega⟩, _, _, rfl, rfl, (by show (0 : Int) < 2147483587; decide), ?_⟩
      generalize h2 : ((t1 % 2147483647 + 104729 * (z + 1)) ^ (3 : Int).toNat : Int) = t2
      refine ⟨_, rfl, _, _, rfl, rfl, wide_div (by decide) (b := 200) (by decide) (by decide) (by decide), _, rfl, _, _, rfl, rfl, hm, ?_⟩
      have r := emod_in (t2 % 2147483587 / 16) m hm
      exact q _ _ r.1 r.2 ⟨_, _, _, upd_same, hx, hy, hy2, by omega, by omega⟩ But.upd
end
end G
set_option Elab.async false
set_option linter.all false
set_option maxRecDepth 100000
set_option maxHeartbeats 2000000
/-! G5: what data in the heap keeps, its type, == of it. -/
namespace G
open PySem PySem.Spec PyProof.Rows L2
section
variable {K : PySem.W.Frag} {H H' : Hp}
mutual
theorem rp_same (s : Same H H') : ∀ (d : PyData) (v : V), Rp K H v d → Rp K H' v d
  | .none, _, h => by
    cases h
    exact .non
  | .bool b, _, h => by
    cases h
    exact .bl b
  | .int i, _, h => by
    cases h
    exact .int i
  | .str x, _, h => by
    cases h
    exact .str x
  | .list ds, _, h => by
    cases h with
    | lst e r => exact .lst (s _ _ e) (rp_sameAll s ds _ r)
  | .tuple ds, _, h => by
    cases h with
    | tup e r => exact .tup (s _ _ e) (rp_sameAll s ds _ r)
  | .dict ds, _, h => by
    cases h with
    | dic e r q => exact .dic (s _ _ e) (rp_sameK s ds _ r) (rp_sameV s ds _ q)
theorem rp_sameAll (s : Same H H') : ∀ (ds : List PyData) (vs : List V), RpAll K H vs ds → RpAll K H' vs ds
  | [], _, h => by
    cases h
    exact .nil
  | d :: ds, _, h => by
    cases h with
    | cons a b => exact .cons (rp_same s d _ a) (rp_sameAll s ds _ b)
theorem rp_sameK (s : Same H H') : ∀ (ds : List (PyData × PyData)) (vs : List V), RpAll K H vs (ds.map (·.1)) → RpAll K H' vs (ds.map (·.1))
  | [], _, h => by
    cases h
    exact .nil
  | (d, _) :: ds, _, h => by
    cases h with
    | cons a b => exact .cons (rp_same s d _ a) (rp_sameK s ds _ b)
theorem rp_sameV (s : Same H H') : ∀ (ds : List (PyData × PyData)) (vs : List V), RpAll K H vs (ds.map (·.2)) → RpAll K H' vs (ds.map (·.2))
  | [], _, h => by
    cases h
    exact .nil
  | (_, d) :: ds, _, h => by
    cases h with
    | cons a b => exact .cons (rp_same s d _ a) (rp_sameV s ds _ b)
end
theorem rp_len : ∀ {ds : List PyData} {vs : List V}, RpAll K H vs ds → vs.length = ds.length
  | [], _, h => by
    cases h
    rfl
  | _ :: ds, _, h => by
    cases h with
    | cons a b =>
      rw [List.length_cons, List.length_cons, rp_len b]
theorem rp_at : ∀ {ds : List PyData} {vs : List V} {i : Nat} {v : V}, RpAll K H vs ds → vs[i]? = some v → ∃ d, ds[i]? = some d ∧ Rp K H v d
  | [], _, i, v, h, e => by
    cases h
    simp at e
  | d :: ds, _, i, v, h, e => by
    cases h with
    | cons a b =>
      cases i with
      | zero =>
        have e' := Option.some.inj e
        subst e'
        exact ⟨d, rfl, a⟩
      | succ j => exact rp_at (ds := ds) (i := j) b (by simpa using e)
theorem rp_app : ∀ {ds : List PyData} {vs : List V} {v : V} {d : PyData}, RpAll K H vs ds → Rp K H v d → RpAll K H (vs ++ [v]) (ds ++ [d])
  | [], _, _, _, h, r => by
    cases h
    exact .cons r .nil
  | _ :: ds, _, _, _, h, r => by
    cases h with
    | cons a b => exact .cons a (rp_app b r)
theorem rp_set : ∀ {ds : List PyData} {vs : List V} {v : V} {d : PyData} (i : Nat), RpAll K H vs ds → Rp K H v d → RpAll K H (vs.set i v) (ds.set i d)
  | [], _, _, _, _, h, r => by
    cases h
    exact .nil
  | _ :: ds, _, _, _, i, h, r => by
    cases h with
    | cons a b =>
      cases i with
      | zero => exact .cons r b
      | succ j => exact .cons a (rp_set j b r)
theorem rp_ints : ∀ (is : List Int), RpAll K H (is.map V.int) (is.map PyData.int)
  | [] => .nil
  | i :: is => .cons (.int i) (rp_ints is)
mutual
theorem rp_dp : ∀ (d : PyData) (v : V), d.hasDict = false → Rp K H v d → Dp K H v d
  | .none, _, _, h => by
    cases h
    exact .non
  | .bool b, _, _, h => by
    cases h
    exact .bl b
  | .int i, _, _, h => by
    cases h
    exact .int i
  | .str x, _, _, h => by
    cases h
    exact .str x
  | .list ds, _, n, h => by
    cases h with
    | lst e r => exact .lst (.of e) (rp_dpAll ds _ (by simpa [PyData.hasDict] using n) r)
  | .tuple ds, _, n, h => by
    cases h with
    | tup e r => exact .tup (.of e) (rp_dpAll ds _ (by simpa [PyData.hasDict] using n) r)
  | .dict ds, _, n, h => by simp [PyData.hasDict] at n
theorem rp_dpAll : ∀ (ds : List PyData) (vs : List V), PyData.hasDictAll ds = false → RpAll K H vs ds → DpAll K H vs ds
  | [], _, _, h => by
    cases h
    exact .nil
  | d :: ds, _, n, h => by
    simp only [PyData.hasDictAll, Bool.or_eq_false_iff] at n
    cases h with
    | cons a b => exact .cons (rp_dp d _ n.1 a) (rp_dpAll ds _ n.2 b)
end
/-- the name of a thing's type -/
def tyN : PyData → String
  | .none => "NoneType"
  | .bool _ => "bool"
  | .int _ => "int"
  | .str _ => "str"
  | .list _ => "list"
  | .tuple _ => "tuple"
  | .dict _ => "dict"
theorem rp_ty {v : V} {d : PyData} (h : Rp K H v d) : TyX K H v (.type (tyN d)) := by
  cases h with
  | non => exact .base .non
  | bl b => exact .base (.bl b)
  | int i => exact .base (.int i)
  | str x => exact .base (.str x)
  | lst e r => exact .base (.lst e)
  | tup e r => exact .base (.tup e)
  | dic e r q => exact .base (.dK e)
end
/-- H without what stands at b -/
def hide (b : Addr) (H : Hp) : Hp := fun a => if a = b then none else H a
theorem hide_same (b : Addr) (H : Hp) : Same (hide b H) H := fun a o e => by
  by_cases h : a = b
  · rw [show hide b H a = none from if_pos h] at e
    cases e
  · rwa [show hide b H a = H a from if_neg h] at e
theorem hide_ne {b a : Addr} {H : Hp} (h : a ≠ b) : hide b H a = H a := if_neg h
theorem hide_at {b : Addr} {H : Hp} : hide b H b = none := if_pos rfl
theorem hide_but {b : Addr} {H H' : Hp} (h : But b H H') : Same (hide b H) (hide b H') := fun a o e => by
  have n : a ≠ b := fun z => by
    rw [z, hide_at] at e
    cases e
  rw [hide_ne n] at e ⊢
  exact h a o n e
theorem hide_upd {b : Addr} {H : Hp} {o : HO} : hide b (upd H b o) = hide b H := by
  funext a
  by_cases h : a = b
  · rw [h, hide_at, hide_at]
  · rw [hide_ne h, hide_ne h, upd_ne h]
/-- what is new is not in what stood -/
theorem hide_new {b : Addr} {H : Hp} (h : H b = none) : Same H (hide b H) := fun a o e => by
  rw [hide_ne (ne_of_none e h)]
  exact e
theorem hide_mono {b : Addr} {H H' : Hp} (h : Same H H') : Same (hide b H) (hide b H') := hide_but fun c o _ e => h c o e
theorem hide_hide {b c : Addr} {H : Hp} : hide b (hide c H) = hide c (hide b H) := by
  funext a
  unfold hide
  split <;> split <;> rfl
end G
set_option Elab.async false
set_option linter.all false
set_option maxRecDepth 100000
set_option maxHeartbeats 2000000
/-! V3: the items of a list, in a drawn order. -/
namespace G
open PySem PySem.Spec PyProof.Rows L2
abbrev sMixed : Stmt := topS 49
theorem scMixed : FnScope ["_law_box_here", "_law_some", "_law_left", "_law_found"] ["_law_box_here", "_law_some"] (defScope sMixed) := ⟨rfl, rfl, rfl, by decide +kernel, rfl, by decide +kernel, by decide +kernel⟩
/-- data that == takes: no dict, texts that can be compared, not too deep -/
def lay (d : PyData) : Prop := d.hasDict = false ∧ d.canLay0 = true ∧ d.depth ≤ 60
theorem lay_all : ∀ {ds : List PyData}, (∀ d ∈ ds, lay d) → PyData.hasDictAll ds = false ∧ PyData.canLayAll0 ds = true ∧ PyData.depthAll ds ≤ 60
  | [], _ => ⟨rfl, rfl, Nat.zero_le _⟩
  | d :: ds, h => by
    obtain ⟨a1, a2, a3⟩ := h d List.mem_cons_self
    obtain ⟨b1, b2, b3⟩ := lay_all (ds := ds) fun e he => h e (List.mem_cons_of_mem _ he)
    refine ⟨?_, ?_, ?_⟩
    · rw [PyData.hasDictAll, a1, b1]
      rfl
    · rw [PyData.canLayAll0, a2, b2]
      rfl
    · rw [PyData.depthAll]
      exact Nat.max_le.mpr ⟨a3, b3⟩
theorem lay_shaped {d : PyData} (h : lay d) : SeqAt.shaped d = true := by
  unfold SeqAt.shaped
  rw [h.2.1, decide_eq_true (Nat.le_trans h.2.2 (by decide))]
  rfl
theorem lay_list {ds : List PyData} (h : ∀ d ∈ ds, lay d) : SeqAt.shaped (.list ds) = true := by
  obtain ⟨_, b2, b3⟩ := lay_all h
  unfold SeqAt.shaped
  rw [PyData.canLay0, b2, decide_eq_true (show (PyData.list ds).depth ≤ 64 by rw [PyData.depth]; omega)]
  rfl
/-- values and what they show -/
abbrev Vd := V × PyData
theorem rp_pairs {K : PySem.W.Frag} {H : Hp} : ∀ {qs : List Vd}, (∀ p ∈ qs, Rp K H p.1 p.2) → RpAll K H (qs.map (·.1)) (qs.map (·.2))
  | [], _ => .nil
  | p :: qs, h => .cons (h p List.mem_cons_self) (rp_pairs fun q hq => h q (List.mem_cons_of_mem _ hq))
theorem dp_pairs {K : PySem.W.Frag} {H : Hp} {qs : List Vd} (h : ∀ p ∈ qs, Rp K H p.1 p.2) (l : ∀ p ∈ qs, lay p.2) : DpAll K H (qs.map (·.1)) (qs.map (·.2)) :=
  rp_dpAll _ _ (lay_all (ds := qs.map (·.2)) fun d hd => by
    obtain ⟨p, hp, rfl⟩ := List.mem_map.mp hd
    exact l p hp).1 (rp_pairs h)
theorem erase_map {α β : Type} (f : α → β) : ∀ (l : List α) (j : Nat), (l.map f).eraseIdx j = (l.eraseIdx j).map f
  | [], _ => rfl
  | _ :: _, 0 => rfl
  | x :: l, j + 1 => by
    show f x :: (l.map f).eraseIdx j = f x :: (l.eraseIdx j).map f
    rw [erase_map f l j]
theorem erase_perm {α : Type} : ∀ {l : List α} {j : Nat} (h : j < l.length), ([l[j]] ++ l.eraseIdx j).Perm l
  | _ :: _, 0, _ => .refl _
  | x :: l, j + 1, h => by
    have hj : j < l.length := by simpa using h
    have ih := erase_perm hj
    show (l[j] :: x :: l.eraseIdx j).Perm (x :: l)
    exact (List.Perm.swap x _ _).trans (List.Perm.cons x ih)
/-- some: any order of its items, in a new list -/
def spMixed (K : PySem.W.Frag) : Sp := fun vs H Q _ => ∃ (b a : Addr) (n : Nat) (ps : List Vd), vs = [.ref b, .ref a] ∧ BoxAt H b n ∧ n + ps.length ≤ 100000 ∧ (SqL K H a (ps.map (·.1)) ∨ SqT K H a (ps.map (·.1))) ∧
  (∀ p ∈ ps, lay p.2 ∧ ∀ H', But b H H' → Rp K H' p.1 p.2) ∧
  ∀ (p : Addr) (H' : Hp) (qs : List Vd), qs.Perm ps → H p = none → H' p = some (.lst (qs.map (·.1))) → BoxAt H' b (n + ps.length) → But b H H' → Q (.ref p) H'
theorem eqv_nil (ds : List PyData) : PyData.eqv (.list ds) (.list []) = ds.isEmpty := by
  cases ds with
  | nil => rfl
  | cons d ds => rfl
section
variable {P : Program} {w : World} {K : PySem.W.Frag} {mg : Str → Option Value} {base : Heap}
theorem ok_mixed {f fT : Addr} {fd fdT : FuncData} (F : Fun K "_law_mixed" "_law_mixed" sMixed f fd) (T : Fun K "_law_take" "_law_take" sTake fT fdT) (bT : Binds K fdT ["_law_box_here", "_law_many"] []) (gT : mg "_law_take" = some (.ref fT))
    (ml : mg "len" = none) (mL : mg "list" = none) : FnOk P w K mg base CX0 2 f fd ["_law_box_here", "_law_some"] (spMixed K) := by
  refine F.ok scMixed (fun vs H Q E h => ?_) (fun cdv A outer s H vs Q E hr h => ?_)
  · obtain ⟨b, a, n, ps, rfl, _⟩ := h
    rfl
  · obtain ⟨b, a, n, ps, rfl, B, hn, hS, hp, q⟩ := h
    have big : ∀ {k : Nat}, k ≤ 100000 → k < sizeLine := fun {k} h => by
      rw [sizeLine_eq]
      omega
    refine ⟨_, pss_cons (ps_par (i := 2) (j := 3) (by rfl) scMixed.nd rfl rfl (by decide) rfl rfl (pa_cons (pe_callTy call_list_of (by rfl) mL (by decide +kernel) (pa_cons (pv 1) pa_nil)) (pa_cons (pe_lst pa_nil) pa_nil)) (by rfl))
      (pss_cons (ps_while PassesOwn.never (pt_cmpR (op_neD hr.units) (pv 2) (pe_lst pa_nil) (nomark _))
        (pss_one (ps_expr (pe_bm PySem.F.plainAttrs_list PySem.F.slot_list_append PySem.F.type_list_append mt_append (pv 3) (pa_cons
          (pe_bm PySem.F.plainAttrs_list PySem.F.slot_list_pop PySem.F.type_list_pop mt_popAt (pv 2)
            (pa_cons (pe_call (ok_take T) hr rfl gT T.kp bT .nil pass0 (pa_cons (pv 0) (pa_cons (pe_callB call_len_seq (by rfl) ml PySem.boot_len (pa_cons (pv 2) pa_nil)) pa_nil))) pa_nil)) pa_nil)))))
      (pss_one (ps_ret (pv 3)))), ?_⟩
    refine ⟨_, rfl, a, _, rfl, hS, fun l hl => ⟨by decide, fun p hp0 => ⟨_, _, rfl, ?_⟩⟩⟩
    have nlp : l ≠ p := fun z => by
      rw [z, upd_same] at hp0
      cases hp0
    have hpn : H p = none := (upd_ne nlp.symm).symm.trans hp0
    have nbl : b ≠ l := by
      obtain ⟨_, _, _, e, _⟩ := B
      exact ne_of_none e hl
    have nbp : b ≠ p := by
      obtain ⟨_, _, _, e, _⟩ := B
      exact ne_of_none e hpn
    refine ⟨fun m σ H1 => ∃ qs rs : List Vd, m = qs.length ∧ σ = [some (.ref b), some (.ref a), some (.ref l), some (.ref p)] ∧ H1 l = some (.lst (qs.map (·.1))) ∧ H1 p = some (.lst (rs.map (·.1))) ∧
        (rs ++ qs).Perm ps ∧ BoxAt H1 b (n + rs.length) ∧ But b H H1, ⟨ps.length, ps, [], rfl, rfl, ?_, upd_same, .refl _, ?_, ?_⟩, ?_⟩
    · rw [upd_ne nlp, upd_same]
    · exact (B.keep fun o e => by rw [upd_ne nbp, upd_ne nbl]; exact e).mono (Nat.le_add_right _ _)
    · exact (But.new hl).trans (But.new hp0)
    · rintro m σ H1 ⟨qs, rs, rfl, rfl, el, ep, pm, B1, s1⟩
      have hq : ∀ x ∈ qs, x ∈ ps := fun x hx => pm.mem_iff.mp (List.mem_append_right _ hx)
      have hlen : rs.length + qs.length = ps.length := by
        rw [← List.length_append]
        exact pm.length_eq
      refine ⟨_, rfl, by decide, fun t ht => ?_⟩
      have nlt : l ≠ t := ne_of_none el ht
      have s2 : But b H (upd H1 t (.lst [])) := s1.trans (But.new ht)
      refine ⟨.list (qs.map fun x : Vd => x.2), .list [], .lst (xs := qs.map fun x : Vd => x.1) (.of (by rw [upd_ne nlt]; exact el)) (dp_pairs (fun x hx => (hp x (hq x hx)).2 _ s2) fun x hx => (hp x (hq x hx)).1), .lst (.of upd_same) .nil, lay_list (fun d hd => ?_), by rfl, _, rfl, ?_⟩
      · obtain ⟨x, hx, rfl⟩ := List.mem_map.mp hd
        exact (hp x (hq x hx)).1
      · rw [eqv_nil]
        cases qs with
        | nil =>
          refine iteF ?_
          refine ⟨_, rfl, ?_⟩
          rw [List.append_nil] at pm
          refine q p _ rs pm hpn ?_ ?_ s2
          · rw [upd_ne (ne_of_none ep ht)]
            exact ep
          · have e : rs.length = ps.length := pm.length_eq
            rw [← e]
            exact B1.keep fun o e => by rw [upd_ne (ne_of_none e ht)]; exact e
        | cons y ys =>
          refine iteT ?_
          have hlen' : rs.length + (ys.length + 1) = ps.length := hlen
          refine ⟨fun σ' H' => ∃ m', m' < (y :: ys).length ∧ ∃ qs rs : List Vd, m' = qs.length ∧ σ' = [some (.ref b), some (.ref a), some (.ref l), some (.ref p)] ∧ H' l = some (.lst (qs.map (·.1))) ∧ H' p = some (.lst (rs.map (·.1))) ∧
            (rs ++ qs).Perm ps ∧ BoxAt H' b (n + rs.length) ∧ But b H H', fun _ _ h => h, ?_⟩
          have ep2 : upd H1 t (.lst []) p = some (.lst (rs.map (·.1))) := by
            rw [upd_ne (ne_of_none ep ht)]
            exact ep
          have el2 : upd H1 t (.lst []) l = some (.lst ((y :: ys).map (·.1))) := by
            rw [upd_ne nlt]
            exact el
          have B2 : BoxAt (upd H1 t (.lst [])) b (n + rs.length) := B1.keep fun o e => by rw [upd_ne (ne_of_none e ht)]; exact e
          refine ⟨_, rfl, .inl ⟨rfl, _, .of ep2⟩, _, rfl, .inl ⟨rfl, _, .of el2⟩, _, rfl, _, rfl, l, _, rfl, .inl (.of el2), b, _, n + rs.length, rfl, B2, by omega, ?_, ?_, fun r H3 r0 r1 B3 s3 => ?_⟩
          · rw [List.length_map]
            show (0 : Int) < ((ys.length + 1 : Nat) : Int)
            omega
          · rw [List.length_map]
            show ((ys.length + 1 : Nat) : Int) < _
            have : ys.length + 1 ≤ 100000 := by omega
            omega
          · obtain ⟨j, rfl, hj⟩ := draw_at r0 r1 (n := (y :: ys).length) (by rw [List.length_map])
            have el3 : H3 l = some (.lst ((y :: ys).map (·.1))) := s3 _ _ nbl.symm el2
            have ep3 : H3 p = some (.lst (rs.map (·.1))) := s3 _ _ nbp.symm ep2
            have hjm : j < ((y :: ys).map (·.1)).length := by
              rw [List.length_map]
              exact hj
            have hj5 : j < 100000 := by
              have e : (y :: ys).length = ys.length + 1 := rfl
              omega
            refine ⟨l, _, (j : Int), j, ((y :: ys)[j]).1, rfl, rfl, el3, by omega, by omega, ?_, ?_, ?_⟩
            · have := PySem.seqIndex_of (k := (j : Int)) (n := ((y :: ys).map (·.1)).length) (by omega) (by omega)
              rw [this]
              rfl
            · rw [List.getElem?_map, List.getElem?_eq_getElem hj]
              rfl
            · refine ⟨p, _, _, rfl, rfl, by rw [upd_ne nlp.symm]; exact ep3, ?_, ?_⟩
              · rw [List.length_map]
                exact big (by omega)
              · refine ⟨((y :: ys).eraseIdx j).length, ?_, (y :: ys).eraseIdx j, rs ++ [(y :: ys)[j]], rfl, rfl, ?_, ?_, ?_, ?_, ?_⟩
                · rw [List.length_eraseIdx, if_pos hj]
                  show (ys.length + 1) - 1 < ys.length + 1
                  omega
                · rw [upd_ne nlp, upd_same, erase_map]
                · rw [upd_same, List.map_append]
                  rfl
                · rw [List.append_assoc]
                  refine List.Perm.trans (List.Perm.append_left rs ?_) pm
                  exact erase_perm hj
                · rw [List.length_append, List.length_singleton]
                  exact B3.keep fun o e => by rw [upd_ne nbp, upd_ne nbl]; exact e
                · intro c o nc e
                  have e3 := (s2.trans s3) c o nc e
                  rw [upd_ne (ne_of_none e hpn), upd_ne (ne_of_none e hl)]
                  exact e3
end
end G
set_option Elab.async false
set_option linter.all false
set_option maxRecDepth 100000
set_option maxHeartbeats 2000000
/-! V4: drawn names. -/
namespace G
open PySem PySem.Spec PyProof.Rows L2
abbrev sNames : Stmt := topS 50
abbrev nNames : List Str := ["_law_box_here", "_law_many", "_law_letters", "_law_way", "_law_cut", "_law_begin", "_law_step", "_law_stem", "_law_k", "_law_found", "_law_letter", "_law_name"]
theorem scNames : FnScope nNames ["_law_box_here", "_law_many"] (defScope sNames) := ⟨rfl, rfl, rfl, by decide +kernel, rfl, by decide +kernel, by decide +kernel⟩
abbrev cs (z : Str) : List Nat := z.cps.toList
theorem cs_len (z : Str) : (cs z).length = z.length := by simp [cs, Str.length]
theorem cs_app (a b : Str) : cs (a ++ b) = cs a ++ cs b := TL.tl_append a b
theorem app_len (a b : Str) : (a ++ b).length = a.length + b.length := strLen_append a b
theorem small_size {n : Nat} (h : n ≤ 7000) : n ≤ sizeLine := by
  rw [sizeLine_eq]
  omega
theorem box_new {H : Hp} {b p : Addr} {n : Nat} {o : HO} (B : BoxAt H b n) (h : H p = none) : BoxAt (upd H p o) b n := B.keep fun o' e => Same.new h b o' e
theorem box_ne {H : Hp} {b p : Addr} {n : Nat} (B : BoxAt H b n) (h : H p = none) : p ≠ b := fun z => by
  obtain ⟨_, _, _, e, _⟩ := B
  rw [← z, h] at e
  cases e
theorem box_upd {H : Hp} {b p : Addr} {n : Nat} {o : HO} (B : BoxAt H b n) (h : p ≠ b) : BoxAt (upd H p o) b n := by
  obtain ⟨x, y, z, e, r⟩ := B
  exact ⟨x, y, z, (upd_ne h.symm).trans e, r⟩
/-- a store at what was new -/
theorem but_upd {b p : Addr} {H H1 : Hp} {o : HO} (k : But b H H1) (h : H p = none) : But b H (upd H1 p o) := fun c u n e => by
  rw [upd_ne (ne_of_none e h)]
  exact k c u n e
theorem free_of {b p : Addr} {H H' : Hp} (k : But b H H') (n : p ≠ b) (h : H' p = none) : H p = none := by
  cases e : H p with
  | none => rfl
  | some o =>
    rw [k p o n e] at h
    cases h
/-! ### names -/
def LowZ (z : Str) : Prop := ∀ c ∈ cs z, 97 ≤ c ∧ c ≤ 122
def NameZ (z : Str) : Prop := LowZ z ∧ 1 ≤ z.length ∧ z.length ≤ 8
def NameI (y : Str) (i : Nat) : Prop := LowZ y ∧ 1 ≤ y.length ∧ y.length ≤ 8 ∧ (26 ≤ i → y.length ≤ 7)
theorem LowZ.app {a b : Str} (h1 : LowZ a) (h2 : LowZ b) : LowZ (a ++ b) := fun c hc => by
  rw [cs_app] at hc
  rcases List.mem_append.mp hc with h | h
  · exact h1 c h
  · exact h2 c h
theorem LowZ.cut {a : Str} (h : LowZ a) (lo hi : Option Int) : LowZ (cutS a lo hi) := fun c hc => by
  have hc' : c ∈ ((cs a).drop _).take _ := hc
  exact h c (List.mem_of_mem_drop (List.mem_of_mem_take hc'))
theorem low_one {c : Nat} (h : 97 ≤ c ∧ c ≤ 122) : LowZ ⟨#[c]⟩ := fun x hx => by
  have : x ∈ [c] := hx
  rw [List.mem_singleton.mp this]
  exact h
theorem LowZ.lay {z : Str} (h : LowZ z) : lay (.str z) := by
  refine ⟨rfl, ?_, Nat.zero_le _⟩
  show z.cps.all (· < 0x110000) = true
  rw [Array.all_eq_true]
  intro i hi
  have := h z.cps[i] (by simp [cs])
  exact decide_eq_true (by omega)
abbrev abc : Str := "abcdefghijklmnopqrstuvwxyz"
theorem abc_low : LowZ abc := by
  have h : ((cs abc).all fun c => decide (97 ≤ c ∧ c ≤ 122)) = true := by decide +kernel
  exact fun c hc => of_decide_eq_true (List.all_eq_true.mp h c hc)
theorem abc_at {j : Nat} (hj : j < 26) : ∃ c, abc.cps[j]? = some c ∧ 97 ≤ c ∧ c ≤ 122 := by
  have h1 : j < abc.cps.size := hj
  refine ⟨abc.cps[j], by simp [h1], abc_low _ ?_⟩
  simp [cs]
theorem cut_first (z : Str) (k : Nat) : cs (cutS z none (some (k : Int))) = (cs z).take k := by
  show ((cs z).drop (HT.sIx z.length 0 none)).take (HT.sIx z.length z.length (some (k : Int)) - HT.sIx z.length 0 none) = _
  rw [HT.sIx_none, HT.sIx_nat z.length z.length k, List.drop_zero, ← cs_len, Nat.sub_zero]
  by_cases h : k ≤ (cs z).length
  · rw [Nat.min_eq_left h]
  · rw [Nat.min_eq_right (by omega), List.take_length, List.take_of_length_le (by omega)]
theorem cut_len (z : Str) (k : Nat) : (cutS z none (some (k : Int))).length = min k z.length := by
  rw [← cs_len, cut_first, List.length_take, cs_len]
def spNames : Sp := fun vs H Q _ => ∃ (b : Addr) (m n : Nat), vs = [.ref b, .int (m : Int)] ∧ BoxAt H b n ∧ n ≤ 50000 ∧ m ≤ 100 ∧
  ∀ (p : Addr) (H' : Hp) (zs : List Str), zs.length = m → (∀ z ∈ zs, NameZ z) → H p = none → H' p = some (.lst (zs.map V.str)) → BoxAt H' b (n + 11 + m) → But b H H' → Q (.ref p) H'
section
variable {P : Program} {w : World} {K : PySem.W.Frag} {mg : Str → Option Value} {base : Heap}
theorem ok_names {f fT fM : Addr} {fd fdT fdM : FuncData} (F : Fun K "_law_names" "_law_names" sNames f fd) (T : Fun K "_law_take" "_law_take" sTake fT fdT) (bT : Binds K fdT ["_law_box_here", "_law_many"] []) (gT : mg "_law_take" = some (.ref fT))
    (M : Fun K "_law_mixed" "_law_mixed" sMixed fM fdM) (bM : Binds K fdM ["_law_box_here", "_law_some"] []) (gM : mg "_law_mixed" = some (.ref fM)) (ml : mg "len" = none) (mL : mg "list" = none) (mr : mg "range" = none) :
    FnOk P w K mg base CX0 3 f fd ["_law_box_here", "_law_many"] spNames := by
  have GT : FnOk P w K mg base CX0 1 fT fdT ["_law_box_here", "_law_many"] spTake := ok_take T
  have GM : FnOk P w K mg base CX0 2 fM fdM ["_law_box_here", "_law_some"] (spMixed K) := ok_mixed M T bT gT ml mL
  refine F.ok scNames (fun vs H Q E h => ?_) (fun cdv A outer s H vs Q E hr h => ?_)
  · obtain ⟨b, m, n, rfl, _⟩ := h
    rfl
  · obtain ⟨b, m, n, rfl, B, hn, hm, q⟩ := h
    have hr1 := hr.mono (show 1 ≤ 2 by decide)
    obtain ⟨ts, psl, qsl⟩ : ∃ t, PSs (cxOf CX0 P w K mg base nNames "_law_names" (defScope sNames) f cdv A outer s H E).nox ((defBody sNames).drop 5) t ∧
        ∀ (way cut bg st : Nat) (z : Str) (x8 : Option V) (H1 : Hp), cut ≤ 7 → (26 < m → cut ≤ 6) → bg < 26 → st ≤ 17 → LowZ z → z.length = 7 → BoxAt H1 b (n + 11) → But b H H1 → t { nx := fun _ H' => Q .non H', rt := Q } [some (.ref b), some (.int (m : Int)), some (.str abc), some (.int (way : Int)), some (.int (cut : Int)), some (.int (bg : Int)), some (.int (st : Int)), some (.str z), x8, none, none, none] H1 := by
      refine ⟨_, pss_cons (ps_set (i := 9) scNames.nd rfl (.inl rfl) (pe_lst pa_nil))
      (pss_cons (ps_for PassesOwn.never rfl (pi_range1 rfl mr (pa_cons (pv 1) pa_nil)) (pg_name (i := 8) scNames.nd rfl (.inl rfl))
        (pss_cons (ps_set (i := 10) scNames.nd rfl (.inl rfl) (pe_item_str (pv 2) (pe_op op_mod (pe_op op_add (pv 5) (pe_op op_mul (pv 6) (pv 8))) pe_int) (fun _ _ => rfl)))
        (pss_cons (ps_set (i := 11) scNames.nd rfl (.inl rfl) (pe_op op_add_str (pe_slice sl_str (pv 7) po_none (po_some (pv 4))) (pv 10)))
        (pss_cons (ps_if (PW.pt (pw_and (pt_cmpR op_eq (pv 3) pe_int (nomark _)) (pw_and1 (pt_cmpR op_lt (pv 1) pe_int (nomark _)))))
          (pss_one (ps_set (i := 11) scNames.nd rfl (.inl rfl) (pe_op op_add_str (pv 10) (pe_slice sl_str (pv 7) po_none (po_some (pe_op op_mod (pe_op op_add (pv 4) (pe_op op_mul pe_int (pv 8))) pe_int)))))) pss_nil)
        (pss_one (ps_expr (pe_bm PySem.F.plainAttrs_list PySem.F.slot_list_append PySem.F.type_list_append mt_append (pv 9) (pa_cons
          (pe_ifExp (pt_cmpR op_lt (pv 8) pe_int (nomark _)) (pv 11) (pe_op op_add_str (pv 11) (pe_item_str (pv 2) (pe_op op_fdiv (pv 8) pe_int) (fun _ _ => rfl)))) pa_nil))))))))
      (pss_one (ps_ret (pv 9)))), ?_⟩
      intro way cut bg st z x8 H1 hcut hcut2 hbg hst hz hl B1 k1
      refine ⟨Nat.zero_le _, fun D hD => ?_⟩
      have nD := box_ne B1 hD
      have fD := free_of k1 nD hD
      refine ⟨_, rfl, _, rfl, by omega, by omega, ?_⟩
      rw [Int.toNat_natCast m]
      refine for_range (lo := 0) (n := m) (fun i σ H2 => ∃ (zs : List Str) (x8 x10 x11 : Option V), σ = [some (.ref b), some (.int (m : Int)), some (.str abc), some (.int (way : Int)), some (.int (cut : Int)), some (.int (bg : Int)), some (.int (st : Int)), some (.str z), x8, some (.ref D), x10, x11] ∧
        H2 D = some (.lst (zs.map V.str)) ∧ zs.length = i ∧ (∀ y ∈ zs, NameZ y) ∧ BoxAt H2 b (n + 11) ∧ But b H H2) ?_ ?_ ?_
      · exact ⟨[], x8, none, none, rfl, upd_same, rfl, (fun y h => nomatch h), box_new B1 hD, but_upd k1 fD⟩
      · rintro i σ H2 hi ⟨zs, x8, x10, x11, rfl, e2, hlz, hy, B2, k2⟩
        have r := emod_in ((bg : Int) + (st : Int) * (0 + (i : Int))) 26 (by decide)
        obtain ⟨j, ej, hj⟩ := draw_at r.1 r.2 (n := 26) rfl
        obtain ⟨c, hc, c97⟩ := abc_at hj
        refine ⟨_, rfl, _, rfl, _, rfl, _, rfl, _, _, rfl, rfl, .inl ⟨by omega, by omega⟩, _, _, rfl, rfl, _, _, rfl, rfl, (by show (0 : Int) < 26; decide), _, _, c, rfl, rfl, r.1, by omega, (show _ < ((26 : Nat) : Int) by omega), (by rw [ej]; exact hc), ?_⟩
        have lo := low_one c97
        have len1 : (⟨#[c]⟩ : Str).length = 1 := rfl
        generalize (⟨#[c]⟩ : Str) = lt at lo len1
        have cl := cut_len z cut
        refine ⟨_, rfl, _, rfl, _, rfl, z, rfl, small_size (by omega), _, rfl, _, _, rfl, rfl, small_size (by omega), ?_⟩
        have Y0 : LowZ (cutS z none (some (cut : Int)) ++ lt) ∧ 1 ≤ (cutS z none (some (cut : Int)) ++ lt).length ∧ (cutS z none (some (cut : Int)) ++ lt).length ≤ 8 ∧ (26 ≤ i → (cutS z none (some (cut : Int)) ++ lt).length ≤ 7) := by
          rw [app_len]
          exact ⟨(hz.cut _ _).app lo, by omega, by omega, fun _ => by omega⟩
        have r8 := emod_in ((cut : Int) + 3 * (0 + (i : Int))) 8 (by decide)
        refine ⟨_, rfl, rfl, _, rfl, ite2 (fun _ => ?_) (fun _ => ?_)⟩
        · refine ⟨_, rfl, _, _, rfl, rfl, _, rfl, ite2 (fun h27 => ?_) (fun _ => ?_)⟩
          · have hm27 : (m : Int) < 27 := of_decide_eq_true h27
            obtain ⟨j8, ej8, hj8⟩ := draw_at r8.1 r8.2 (n := 8) rfl
            have cl8 := cut_len z j8
            refine ⟨_, rfl, _, rfl, _, rfl, _, rfl, _, _, rfl, rfl, .inl ⟨by decide, by decide⟩, _, _, rfl, rfl, _, _, rfl, rfl, (by show (0 : Int) < 8; decide), _, rfl, z, rfl, small_size (by omega), _, _, rfl, rfl, ?_, ?_⟩
            · rw [ej8, len1]
              exact small_size (by omega)
            have Y : NameI (lt ++ cutS z none (some (((cut : Int) + 3 * (0 + (i : Int))) % 8))) i := by
              unfold NameI
              rw [ej8, app_len]
              exact ⟨lo.app (hz.cut _ _), by omega, by omega, fun h => by omega⟩
            revert Y
            generalize (lt ++ cutS z none (some (((cut : Int) + 3 * (0 + (i : Int))) % 8))) = y
            intro Y
            obtain ⟨y1, y2, y3, y4⟩ := Y
            have done : ∀ (u : Str) (x8 x10 x11 : Option V), NameZ u → ∃ (zs' : List Str) (x8' x10' x11' : Option V), [some (V.ref b), some (.int (m : Int)), some (.str abc), some (.int (way : Int)), some (.int (cut : Int)), some (.int (bg : Int)), some (.int (st : Int)), some (.str z), x8, some (.ref D), x10, x11] = [some (.ref b), some (.int (m : Int)), some (.str abc), some (.int (way : Int)), some (.int (cut : Int)), some (.int (bg : Int)), some (.int (st : Int)), some (.str z), x8', some (.ref D), x10', x11'] ∧
                upd H2 D (.lst (zs.map V.str ++ [.str u])) D = some (.lst (zs'.map V.str)) ∧ zs'.length = i + 1 ∧ (∀ y ∈ zs', NameZ y) ∧ BoxAt (upd H2 D (.lst (zs.map V.str ++ [.str u]))) b (n + 11) ∧ But b H (upd H2 D (.lst (zs.map V.str ++ [.str u]))) := fun u x8 x10 x11 hu => by
              refine ⟨zs ++ [u], x8, x10, x11, rfl, ?_, ?_, fun v hv => ?_, box_upd B2 nD, but_upd k2 fD⟩
              · rw [upd_same, List.map_append]
                rfl
              · rw [List.length_append, hlz]
                rfl
              · rcases List.mem_append.mp hv with hv | hv
                · exact hy v hv
                · rw [List.mem_singleton.mp hv]
                  exact hu
            have room : (zs.map V.str).length < sizeLine := by
              rw [List.length_map]
              exact small1000 (by omega)
            refine ⟨_, rfl, .inl ⟨rfl, _, .of e2⟩, _, rfl, _, _, rfl, rfl, _, rfl, ite2 (fun h26 => ?_) (fun h26 => ?_)⟩
            · exact ⟨_, rfl, D, _, _, rfl, rfl, e2, room, done y _ _ _ ⟨y1, y2, y3⟩⟩
            · have h26' : ¬ ((0 + (i : Int)) < 26) := fun h => h26 (decide_eq_true h)
              have yl := y4 (by omega)
              have hd : (0 + (i : Int)) / 26 = ((i / 26 : Nat) : Int) := by omega
              obtain ⟨c2, hc2, c297⟩ := abc_at (j := i / 26) (by omega)
              refine ⟨_, rfl, _, rfl, _, rfl, _, _, rfl, rfl, ⟨by decide, by decide⟩, _, _, c2, rfl, rfl, by omega, by omega, (show _ < ((26 : Nat) : Int) by omega), (by rw [hd]; exact hc2), _, _, rfl, rfl, ?_, D, _, _, rfl, rfl, e2, room, ?_⟩
              · show y.length + 1 ≤ sizeLine
                exact small_size (by omega)
              · have l2 : (y ++ (⟨#[c2]⟩ : Str)).length = y.length + 1 := app_len y ⟨#[c2]⟩
                exact done (y ++ ⟨#[c2]⟩) _ _ _ ⟨y1.app (low_one c297), by omega, by omega⟩
          · have Y : NameI (cutS z none (some (cut : Int)) ++ lt) i := Y0
            revert Y
            generalize (cutS z none (some (cut : Int)) ++ lt) = y
            intro Y
            obtain ⟨y1, y2, y3, y4⟩ := Y
            have done : ∀ (u : Str) (x8 x10 x11 : Option V), NameZ u → ∃ (zs' : List Str) (x8' x10' x11' : Option V), [some (V.ref b), some (.int (m : Int)), some (.str abc), some (.int (way : Int)), some (.int (cut : Int)), some (.int (bg : Int)), some (.int (st : Int)), some (.str z), x8, some (.ref D), x10, x11] = [some (.ref b), some (.int (m : Int)), some (.str abc), some (.int (way : Int)), some (.int (cut : Int)), some (.int (bg : Int)), some (.int (st : Int)), some (.str z), x8', some (.ref D), x10', x11'] ∧
                upd H2 D (.lst (zs.map V.str ++ [.str u])) D = some (.lst (zs'.map V.str)) ∧ zs'.length = i + 1 ∧ (∀ y ∈ zs', NameZ y) ∧ BoxAt (upd H2 D (.lst (zs.map V.str ++ [.str u]))) b (n + 11) ∧ But b H (upd H2 D (.lst (zs.map V.str ++ [.str u]))) := fun u x8 x10 x11 hu => by
              refine ⟨zs ++ [u], x8, x10, x11, rfl, ?_, ?_, fun v hv => ?_, box_upd B2 nD, but_upd k2 fD⟩
              · rw [upd_same, List.map_append]
                rfl
              · rw [List.length_append, hlz]
                rfl
              · rcases List.mem_append.mp hv with hv | hv
                · exact hy v hv
                · rw [List.mem_singleton.mp hv]
                  exact hu
            have room : (zs.map V.str).length < sizeLine := by
              rw [List.length_map]
              exact small1000 (by omega)
            refine ⟨_, rfl, .inl ⟨rfl, _, .of e2⟩, _, rfl, _, _, rfl, rfl, _, rfl, ite2 (fun h26 => ?_) (fun h26 => ?_)⟩
            · exact ⟨_, rfl, D, _, _, rfl, rfl, e2, room, done y _ _ _ ⟨y1, y2, y3⟩⟩
            · have h26' : ¬ ((0 + (i : Int)) < 26) := fun h => h26 (decide_eq_true h)
              have yl := y4 (by omega)
              have hd : (0 + (i : Int)) / 26 = ((i / 26 : Nat) : Int) := by omega
              obtain ⟨c2, hc2, c297⟩ := abc_at (j := i / 26) (by omega)
              refine ⟨_, rfl, _, rfl, _, rfl, _, _, rfl, rfl, ⟨by decide, by decide⟩, _, _, c2, rfl, rfl, by omega, by omega, (show _ < ((26 : Nat) : Int) by omega), (by rw [hd]; exact hc2), _, _, rfl, rfl, ?_, D, _, _, rfl, rfl, e2, room, ?_⟩
              · show y.length + 1 ≤ sizeLine
                exact small_size (by omega)
              · have l2 : (y ++ (⟨#[c2]⟩ : Str)).length = y.length + 1 := app_len y ⟨#[c2]⟩
                exact done (y ++ ⟨#[c2]⟩) _ _ _ ⟨y1.app (low_one c297), by omega, by omega⟩
        · have Y : NameI (cutS z none (some (cut : Int)) ++ lt) i := Y0
          revert Y
          generalize (cutS z none (some (cut : Int)) ++ lt) = y
          intro Y
          obtain ⟨y1, y2, y3, y4⟩ := Y
          have done : ∀ (u : Str) (x8 x10 x11 : Option V), NameZ u → ∃ (zs' : List Str) (x8' x10' x11' : Option V), [some (V.ref b), some (.int (m : Int)), some (.str abc), some (.int (way : Int)), some (.int (cut : Int)), some (.int (bg : Int)), some (.int (st : Int)), some (.str z), x8, some (.ref D), x10, x11] = [some (.ref b), some (.int (m : Int)), some (.str abc), some (.int (way : Int)), some (.int (cut : Int)), some (.int (bg : Int)), some (.int (st : Int)), some (.str z), x8', some (.ref D), x10', x11'] ∧
              upd H2 D (.lst (zs.map V.str ++ [.str u])) D = some (.lst (zs'.map V.str)) ∧ zs'.length = i + 1 ∧ (∀ y ∈ zs', NameZ y) ∧ BoxAt (upd H2 D (.lst (zs.map V.str ++ [.str u]))) b (n + 11) ∧ But b H (upd H2 D (.lst (zs.map V.str ++ [.str u]))) := fun u x8 x10 x11 hu => by
            refine ⟨zs ++ [u], x8, x10, x11, rfl, ?_, ?_, fun v hv => ?_, box_upd B2 nD, but_upd k2 fD⟩
            · rw [upd_same, List.map_append]
              rfl
            · rw [List.length_append, hlz]
              rfl
            · rcases List.mem_append.mp hv with hv | hv
              · exact hy v hv
              · rw [List.mem_singleton.mp hv]
                exact hu
          have room : (zs.map V.str).length < sizeLine := by
            rw [List.length_map]
            exact small1000 (by omega)
          refine ⟨_, rfl, .inl ⟨rfl, _, .of e2⟩, _, rfl, _, _, rfl, rfl, _, rfl, ite2 (fun h26 => ?_) (fun h26 => ?_)⟩
          · exact ⟨_, rfl, D, _, _, rfl, rfl, e2, room, done y _ _ _ ⟨y1, y2, y3⟩⟩
          · have h26' : ¬ ((0 + (i : Int)) < 26) := fun h => h26 (decide_eq_true h)
            have yl := y4 (by omega)
            have hd : (0 + (i : Int)) / 26 = ((i / 26 : Nat) : Int) := by omega
            obtain ⟨c2, hc2, c297⟩ := abc_at (j := i / 26) (by omega)
            refine ⟨_, rfl, _, rfl, _, rfl, _, _, rfl, rfl, ⟨by decide, by decide⟩, _, _, c2, rfl, rfl, by omega, by omega, (show _ < ((26 : Nat) : Int) by omega), (by rw [hd]; exact hc2), _, _, rfl, rfl, ?_, D, _, _, rfl, rfl, e2, room, ?_⟩
            · show y.length + 1 ≤ sizeLine
              exact small_size (by omega)
            · have l2 : (y ++ (⟨#[c2]⟩ : Str)).length = y.length + 1 := app_len y ⟨#[c2]⟩
              exact done (y ++ ⟨#[c2]⟩) _ _ _ ⟨y1.app (low_one c297), by omega, by omega⟩
      · rintro σ H2 ⟨zs, x8, x10, x11, rfl, e2, hlz, hy, B2, k2⟩
        exact ⟨_, rfl, q D H2 zs hlz hy fD e2 (B2.mono (by omega)) k2⟩
    obtain ⟨tl, pl, ql⟩ : ∃ t, PSs (cxOf CX0 P w K mg base nNames "_law_names" (defScope sNames) f cdv A outer s H E).nox ((defBody sNames).drop 2) t ∧
        ∀ (way cut bg : Nat) (H1 : Hp), cut ≤ 7 → (26 < m → cut ≤ 6) → bg < 26 → BoxAt H1 b (n + 3) → But b H H1 → t { nx := fun _ H' => Q .non H', rt := Q } [some (.ref b), some (.int (m : Int)), some (.str abc), some (.int (way : Int)), some (.int (cut : Int)), some (.int (bg : Int)), none, none, none, none, none, none] H1 := by
      refine ⟨_, pss_cons (ps_asg (pe_tup (pa_cons (pe_ix ix_list (pe_lst (pa_cons pe_int (pa_cons pe_int (pa_cons pe_int (pa_cons pe_int (pa_cons pe_int (pa_cons pe_int (pa_cons pe_int (pa_cons pe_int pa_nil)))))))))
          (pe_call GT hr1 rfl gT T.kp bT .nil pass0 (pa_cons (pv 0) (pa_cons pe_int pa_nil))) (fun _ _ => rfl)) (pa_cons pe_str pa_nil)))
        (pg_tup (by rfl) (pgs_cons (pg_name (i := 6) scNames.nd rfl (.inl rfl)) (pgs_cons (pg_name (i := 7) scNames.nd rfl (.inr rfl)) pgs_nil))))
      (pss_cons (ps_for PassesOwn.never rfl (pi_range1 rfl mr (pa_cons pe_int pa_nil)) (pg_name (i := 8) scNames.nd rfl (.inl rfl))
        (pss_one (ps_set (i := 7) scNames.nd rfl (.inr rfl) (pe_op op_add_str (pv 7) (pe_item_str (pv 2) (pe_call GT hr1 rfl gT T.kp bT .nil pass0 (pa_cons (pv 0) (pa_cons pe_int pa_nil))) (fun _ _ => rfl))))))
      (pss_cons (ps_if (PW.pt (pw_and (pt_cmpR op_eq (pv 3) pe_int (nomark _)) (pw_and1 (pt_cmpR op_lt (pv 1) pe_int (nomark _)))))
        (pss_one (ps_ret (pe_call GM hr rfl gM M.kp bM .nil pass0 (pa_cons (pv 0) (pa_cons (pe_lc (own := [("_law_k", 8)]) (g := gName 8) (tt := tYes) (by rfl) scNames.nd (pi_range1 rfl mr (pa_cons (pv 1) pa_nil))
          (blkOk_by (own := [("_law_k", 8)]) (N := nNames) (sc := defScope sNames) (by decide +kernel)) (fun _ _ _ _ _ => pg_name (i := 8) scNames.nd rfl (.inl rfl)) (fun _ _ _ _ _ => pts_nil)
          (fun _ _ _ _ _ => pe_slice sl_str (pe_op op_add_str (pv 7) (pe_item_str (pv 2) (pv 5) (fun _ _ => rfl))) po_none (po_some (pe_op op_add (pv 8) pe_int)))) pa_nil))))) pss_nil)
      psl)), ?_⟩
      intro way cut bg H1 hcut hcut2 hbg B1 k1
      refine ⟨(by show 8 ≤ sizeLine; decide), fun p1 hp1 => ?_⟩
      have np1 := box_ne B1 hp1
      refine ⟨_, rfl, b, 8, n + 3, rfl, box_new B1 hp1, by omega, by decide, by decide, fun r H2 r0 r1 B2 k2 => ?_⟩
      obtain ⟨j, rfl, hj⟩ := draw_at (n := 8) r0 r1 rfl
      have e2 := k2 _ _ np1 upd_same
      have kk2 : But b H H2 := (k1.trans (But.new hp1)).trans k2
      obtain ⟨st, hst, hst17⟩ : ∃ st : Nat, ([.int 1, .int 3, .int 5, .int 7, .int 9, .int 11, .int 15, .int 17] : List V)[j]? = some (.int (st : Int)) ∧ st ≤ 17 := by
        match j, hj with
        | 0, _ => exact ⟨1, rfl, by decide⟩
        | 1, _ => exact ⟨3, rfl, by decide⟩
        | 2, _ => exact ⟨5, rfl, by decide⟩
        | 3, _ => exact ⟨7, rfl, by decide⟩
        | 4, _ => exact ⟨9, rfl, by decide⟩
        | 5, _ => exact ⟨11, rfl, by decide⟩
        | 6, _ => exact ⟨15, rfl, by decide⟩
        | 7, _ => exact ⟨17, rfl, by decide⟩
      refine ⟨p1, _, _, .int (st : Int), rfl, rfl, .of e2, atI_nat hst, (by show 2 ≤ sizeLine; decide), fun p2 hp2 => ?_⟩
      have np2 := box_ne B2 hp2
      refine ⟨p2, _, rfl, .of upd_same, rfl, _, _, rfl, _, _, rfl, rfl, ?_⟩
      have B3 : BoxAt (upd H2 p2 (.tup [.int (st : Int), .str ""])) b (n + 4) := box_new B2 hp2
      have k3 : But b H (upd H2 p2 (.tup [.int (st : Int), .str ""])) := kk2.trans (But.new hp2)
      generalize upd H2 p2 (.tup [.int (st : Int), .str ""]) = H3 at B3 k3
      -- the stem
      refine ⟨_, rfl, by decide, by decide, ?_⟩
      refine for_range (lo := 0) (n := 7) (fun i σ H4 => ∃ (z : Str) (x8 : Option V), σ = [some (.ref b), some (.int (m : Int)), some (.str abc), some (.int (way : Int)), some (.int (cut : Int)), some (.int (bg : Int)), some (.int (st : Int)), some (.str z), x8, none, none, none] ∧ LowZ z ∧ z.length = i ∧ BoxAt H4 b (n + 4 + i) ∧ But b H H4) ?_ ?_ ?_
      · exact ⟨"", none, rfl, (fun c h => nomatch h), rfl, B3, k3⟩
      · rintro i σ H4 hi ⟨z, x8, rfl, hz, hl, B4, k4⟩
        refine ⟨_, rfl, _, rfl, _, rfl, b, 26, n + 4 + i, rfl, B4, by omega, by decide, by decide, fun r H5 r0 r1 B5 k5 => ?_⟩
        obtain ⟨j, rfl, hj⟩ := draw_at (n := 26) r0 r1 rfl
        obtain ⟨c, hc, c97⟩ := abc_at hj
        refine ⟨_, _, c, rfl, rfl, by omega, by omega, (show ((j : Nat) : Int) < ((26 : Nat) : Int) by omega), hc, ?_⟩
        refine ⟨_, _, rfl, rfl, ?_, ?_⟩
        · show z.length + 1 ≤ sizeLine
          rw [sizeLine_eq]
          omega
        · refine ⟨z ++ ⟨#[c]⟩, _, rfl, hz.app (low_one c97), ?_, B5, k4.trans k5⟩
          rw [app_len, hl]
          rfl
      · rintro σ H4 ⟨z, x8, rfl, hz, hl, B4, k4⟩
        -- from here on two ways
        have namesOf : ∀ (zs : List Str) (qs : List Vd), qs.Perm (zs.map fun z => (V.str z, PyData.str z)) → (∀ z ∈ zs, NameZ z) →
            ∃ ys : List Str, qs.map (·.1) = ys.map V.str ∧ ys.length = zs.length ∧ ∀ y ∈ ys, NameZ y := fun zs qs pm hz => by
          have each : ∀ x ∈ qs, ∃ y, x = (V.str y, PyData.str y) ∧ NameZ y := fun x hx => by
            obtain ⟨y, hy, e⟩ := List.mem_map.mp (pm.mem_iff.mp hx)
            exact ⟨y, e.symm, hz y hy⟩
          have hlen : qs.length = zs.length := by
            rw [pm.length_eq, List.length_map]
          rw [← hlen]
          clear pm hlen
          induction qs with
          | nil => exact ⟨[], rfl, rfl, fun y hy => nomatch hy⟩
          | cons x qs ih =>
            obtain ⟨y, rfl, hy⟩ := each x List.mem_cons_self
            obtain ⟨ys, e1, e2, e3⟩ := ih fun x hx => each x (List.mem_cons_of_mem _ hx)
            refine ⟨y :: ys, ?_, congrArg (· + 1) e2, fun u hu => ?_⟩
            · rw [List.map_cons, e1]
              rfl
            · rcases List.mem_cons.mp hu with rfl | hu
              · exact hy
              · exact e3 u hu
        have mInt : (m : Int).toNat = m := Int.toNat_natCast m
        refine ⟨_, rfl, rfl, _, rfl, ite2 (fun _ => ?_) (fun _ => ?_)⟩
        · refine ⟨_, rfl, _, _, rfl, rfl, _, rfl, ite2 (fun h9 => ?_) (fun _ => ?_)⟩
          · have hm9 : (m : Int) < 9 := of_decide_eq_true h9
            refine ⟨_, rfl, _, rfl, _, rfl, by omega, by omega, fun D hD => ?_⟩
            have nD := box_ne B4 hD
            have fD := free_of k4 nD hD
            rw [mInt]
            refine lc_range (lo := 0) (n := m) (fun i H5 => ∃ ys : List Str, H5 D = some (.lst (ys.map V.str)) ∧ ys.length = i ∧ (∀ y ∈ ys, NameZ y) ∧ BoxAt H5 b (n + 11) ∧ But b H H5) ?_ ?_ ?_
            · exact ⟨[], upd_same, rfl, (fun y h => nomatch h), box_new B4 hD, but_upd k4 fD⟩
            · rintro i H5 hi ⟨ys, e5, hl5, hy, B5, k5⟩
              refine ⟨rfl, ?_⟩
              unfold tYes
              dsimp only
              rw [if_pos rfl]
              obtain ⟨c, hc, c97⟩ := abc_at hbg
              refine ⟨_, rfl, _, rfl, _, rfl, _, _, c, rfl, rfl, by omega, by omega, (show ((bg : Nat) : Int) < ((26 : Nat) : Int) by omega), hc, _, _, rfl, rfl, ?_, ?_⟩
              · show z.length + 1 ≤ sizeLine
                rw [sizeLine_eq]
                omega
              have lz : (z ++ ⟨#[c]⟩).length = 8 := by
                rw [app_len, hl]
                rfl
              refine ⟨_, rfl, _, _, rfl, rfl, _, rfl, _, rfl, small_size (by omega), ?_⟩
              have e0 : (0 + (i : Int) + 1 : Int) = ((i + 1 : Nat) : Int) := by omega
              rw [e0]
              have cl := cut_len (z ++ ⟨#[c]⟩) (i + 1)
              refine ⟨_, e5, ?_, ys ++ [cutS (z ++ ⟨#[c]⟩) none (some ((i + 1 : Nat) : Int))], ?_, ?_, ?_, ?_, ?_⟩
              · rw [List.length_map]
                exact small1000 (by omega)
              · rw [upd_same, List.map_append]
                rfl
              · rw [List.length_append, hl5]
                rfl
              · intro y h
                rcases List.mem_append.mp h with h | h
                · exact hy y h
                · rw [List.mem_singleton.mp h]
                  exact ⟨(hz.app (low_one c97)).cut _ _, by omega, by omega⟩
              · exact box_upd B5 nD
              · exact but_upd k5 fD
            · rintro H5 ⟨ys, e5, hl5, hy, B5, k5⟩
              refine ⟨b, D, n + 11, ys.map fun z => (V.str z, PyData.str z), rfl, B5, ?_, .inl (.of ?_), ?_, fun p H6 qs pm np e6 B6 k6 => ?_⟩
              · rw [List.length_map]
                omega
              · rw [e5, List.map_map]
                rfl
              · intro x hx
                obtain ⟨y, hyy, rfl⟩ := List.mem_map.mp hx
                exact ⟨(hy y hyy).1.lay, fun H' _ => .str y⟩
              · obtain ⟨us, u1, u2, u3⟩ := namesOf ys qs pm hy
                rw [u1] at e6
                rw [List.length_map, hl5] at B6
                exact q p H6 us (u2.trans hl5) u3 (free_of k5 (box_ne B5 np) np) e6 B6 (k5.trans k6)
          · exact qsl way cut bg st z x8 H4 hcut hcut2 hbg hst17 hz hl B4 k4
        · exact qsl way cut bg st z x8 H4 hcut hcut2 hbg hst17 hz hl B4 k4
    refine ⟨_, pss_cons (ps_set (i := 2) scNames.nd rfl (.inr rfl) pe_str)
      (pss_cons (ps_asg (pe_tup (pa_cons (pe_call GT hr1 rfl gT T.kp bT .nil pass0 (pa_cons (pv 0) (pa_cons pe_int pa_nil)))
          (pa_cons (pe_call GT hr1 rfl gT T.kp bT .nil pass0 (pa_cons (pv 0) (pa_cons (pe_ifExp (pt_cmpR op_lt (pv 1) pe_int (nomark _)) pe_int pe_int) pa_nil)))
          (pa_cons (pe_call GT hr1 rfl gT T.kp bT .nil pass0 (pa_cons (pv 0) (pa_cons pe_int pa_nil))) pa_nil))))
        (pg_tup (by rfl) (pgs_cons (pg_name (i := 3) scNames.nd rfl (.inl rfl)) (pgs_cons (pg_name (i := 4) scNames.nd rfl (.inl rfl)) (pgs_cons (pg_name (i := 5) scNames.nd rfl (.inr rfl)) pgs_nil))))) pl), ?_⟩
    refine ⟨_, rfl, b, 4, n, rfl, B, by omega, by decide, by decide, fun way H1 w0 w1 B1 k1 => ?_⟩
    obtain ⟨way, rfl, _⟩ := draw_at (n := 4) w0 w1 rfl
    refine ⟨_, rfl, _, rfl, _, _, rfl, rfl, _, rfl, ite2 (fun hm27 => ?_) (fun hm27 => ?_)⟩
    · refine ⟨b, 8, n + 1, rfl, B1, by omega, by decide, by decide, fun cut H2 c0 c1 B2 k2 => ?_⟩
      obtain ⟨cut, rfl, hcut⟩ := draw_at (n := 8) c0 c1 rfl
      refine ⟨_, rfl, b, 26, n + 2, rfl, B2, by omega, by decide, by decide, fun bg H3 g0 g1 B3 k3 => ?_⟩
      obtain ⟨bg, rfl, hbg⟩ := draw_at (n := 26) g0 g1 rfl
      refine ⟨(by show 3 ≤ sizeLine; decide), fun p hp => ⟨p, _, rfl, .of upd_same, rfl, _, _, rfl, _, _, rfl, _, _, rfl, rfl, ?_⟩⟩
      have hm' : (m : Int) < 27 := of_decide_eq_true hm27
      exact ql way cut bg _ (by omega) (by omega) hbg (box_new B3 hp) (((k1.trans k2).trans k3).trans (But.new hp))
    · refine ⟨b, 7, n + 1, rfl, B1, by omega, by decide, by decide, fun cut H2 c0 c1 B2 k2 => ?_⟩
      obtain ⟨cut, rfl, hcut⟩ := draw_at (n := 7) c0 c1 rfl
      refine ⟨_, rfl, b, 26, n + 2, rfl, B2, by omega, by decide, by decide, fun bg H3 g0 g1 B3 k3 => ?_⟩
      obtain ⟨bg, rfl, hbg⟩ := draw_at (n := 26) g0 g1 rfl
      refine ⟨(by show 3 ≤ sizeLine; decide), fun p hp => ⟨p, _, rfl, .of upd_same, rfl, _, _, rfl, _, _, rfl, _, _, rfl, rfl, ?_⟩⟩
      exact ql way cut bg _ (by omega) (by omega) hbg (box_new B3 hp) (((k1.trans k2).trans k3).trans (But.new hp))
end
end G
set_option Elab.async false
set_option linter.all false
set_option maxRecDepth 100000
set_option maxHeartbeats 2000000
/-! V5: a drawn number, a drawn value of some fields. -/
namespace G
open PySem PySem.Spec PyProof.Rows L2
abbrev sNumber : Stmt := topS 51
theorem scNumber : FnScope ["_law_box_here", "_law_some"] ["_law_box_here"] (defScope sNumber) := ⟨rfl, rfl, rfl, by decide +kernel, rfl, by decide +kernel, by decide +kernel⟩
def spNumber : Sp := fun vs H Q _ => ∃ (b : Addr) (n : Nat), vs = [.ref b] ∧ BoxAt H b n ∧ n ≤ 90000 ∧ ∀ (i : Int) (H' : Hp), -999 ≤ i → i ≤ 999 → BoxAt H' b (n + 3) → But b H H' → Q (.int i) H'
/-- some of the fields, each with a number -/
def ValN (zs : List Str) (kvs : List (Key × V)) : Prop := ∀ p ∈ kvs, ∃ z i, p = (Sum.inr z, V.int i) ∧ z ∈ zs ∧ -999 ≤ i ∧ i ≤ 999
/-- an order of texts is made of these texts -/
theorem texts_of : ∀ {zs : List Str} {qs : List Vd}, qs.Perm (zs.map fun z => (V.str z, PyData.str z)) → ∃ ys : List Str, qs.map (·.1) = ys.map V.str ∧ ys.length = zs.length ∧ ∀ y ∈ ys, y ∈ zs := by
  intro zs qs pm
  have each : ∀ x ∈ qs, ∃ y, x = (V.str y, PyData.str y) ∧ y ∈ zs := fun x hx => by
    obtain ⟨y, hy, e⟩ := List.mem_map.mp (pm.mem_iff.mp hx)
    exact ⟨y, e.symm, hy⟩
  have hlen : qs.length = zs.length := by
    rw [pm.length_eq, List.length_map]
  rw [← hlen]
  clear pm hlen
  induction qs with
  | nil => exact ⟨[], rfl, rfl, fun y hy => nomatch hy⟩
  | cons x qs ih =>
    obtain ⟨y, rfl, hy⟩ := each x List.mem_cons_self
    obtain ⟨ys, e1, e2, e3⟩ := ih fun x hx => each x (List.mem_cons_of_mem _ hx)
    refine ⟨y :: ys, ?_, congrArg (· + 1) e2, fun u hu => ?_⟩
    · rw [List.map_cons, e1]
      rfl
    · rcases List.mem_cons.mp hu with rfl | hu
      · exact hy
      · exact e3 u hu
theorem mem_putK {kvs : List (Key × V)} {k : Key} {v : V} {p : Key × V} (h : p ∈ putK kvs k v) : p = (k, v) ∨ p ∈ kvs := by
  unfold putK at h
  split at h
  · obtain ⟨q, hq, e⟩ := List.mem_map.mp h
    by_cases z : q.1 = k
    · rw [if_pos z] at e
      left
      rw [← e, z]
    · rw [if_neg z] at e
      right
      rw [← e]
      exact hq
  · rcases List.mem_append.mp h with h | h
    · exact .inr h
    · exact .inl (List.mem_singleton.mp h)
theorem putK_pos (kvs : List (Key × V)) (k : Key) (v : V) : 1 ≤ (putK kvs k v).length := by
  unfold putK
  split
  · rename_i h
    obtain ⟨x, hx, _⟩ := List.any_eq_true.mp h
    rw [List.length_map]
    exact List.length_pos_of_mem hx
  · rw [List.length_append]
    exact Nat.le_add_left 1 _
theorem ValN.put {zs : List Str} {kvs : List (Key × V)} (h : ValN zs kvs) {z : Str} {i : Int} (hz : z ∈ zs) (h1 : -999 ≤ i) (h2 : i ≤ 999) : ValN zs (putK kvs (Sum.inr z) (.int i)) := fun p hp => by
  rcases mem_putK hp with e | hp
  · exact ⟨z, i, e, hz, h1, h2⟩
  · exact h p hp
theorem cutV_first (xs : List V) (k : Nat) (h : k ≤ xs.length) : cutV xs none (some (k : Int)) = xs.take k := by
  unfold cutV
  rw [HT.sIx_none, HT.sIx_nat, List.drop_zero, Nat.min_eq_left h, Nat.sub_zero]
section
variable {P : Program} {w : World} {K : PySem.W.Frag} {mg : Str → Option Value} {base : Heap}
theorem ok_number {f fT : Addr} {fd fdT : FuncData} (F : Fun K "_law_number" "_law_number" sNumber f fd) (T : Fun K "_law_take" "_law_take" sTake fT fdT) (bT : Binds K fdT ["_law_box_here", "_law_many"] []) (gT : mg "_law_take" = some (.ref fT)) :
    FnOk P w K mg base CX0 2 f fd ["_law_box_here"] spNumber := by
  have GT : FnOk P w K mg base CX0 1 fT fdT ["_law_box_here", "_law_many"] spTake := ok_take T
  refine F.ok scNumber (fun vs H Q E h => ?_) (fun cdv A outer s H vs Q E hr h => ?_)
  · obtain ⟨b, n, rfl, _⟩ := h
    rfl
  · obtain ⟨b, n, rfl, B, hn, q⟩ := h
    refine ⟨_, pss_cons (ps_set (i := 1) scNumber.nd rfl (.inl rfl) (pe_lst (pa_cons pe_int (pa_cons pe_int (pa_cons (pe_un un_neg pe_int) (pa_cons pe_int (pa_cons pe_int (pa_cons (pe_un un_neg pe_int)
        (pa_cons (pe_op op_sub (pe_call GT hr rfl gT T.kp bT .nil pass0 (pa_cons (pv 0) (pa_cons pe_int pa_nil))) pe_int) (pa_cons (pe_op op_sub (pe_call GT hr rfl gT T.kp bT .nil pass0 (pa_cons (pv 0) (pa_cons pe_int pa_nil))) pe_int) pa_nil))))))))))
      (pss_one (ps_ret (pe_ix ix_list (pv 1) (pe_call GT hr rfl gT T.kp bT .nil pass0 (pa_cons (pv 0) (pa_cons pe_int pa_nil))) (fun _ _ => rfl)))), ?_⟩
    refine ⟨_, rfl, _, rfl, _, rfl, b, 21, n, rfl, B, by omega, by decide, by decide, fun r1 H1 a0 a1 B1 k1 => ⟨_, _, rfl, rfl, _, rfl, b, 1999, n + 1, rfl, B1, by omega, by decide, by decide, fun r2 H2 c0 c1 B2 k2 => ⟨_, _, rfl, rfl, (by show 8 ≤ sizeLine; decide), fun p hp => ?_⟩⟩⟩
    have np := box_ne B2 hp
    refine ⟨_, rfl, _, rfl, b, 8, n + 2, rfl, box_new B2 hp, by omega, by decide, by decide, fun r3 H3 d0 d1 B3 k3 => ?_⟩
    obtain ⟨j, rfl, hj⟩ := draw_at (n := 8) d0 d1 rfl
    have e3 := k3 _ _ np upd_same
    obtain ⟨i, hi, h1, h2⟩ : ∃ i : Int, ([.int 0, .int 1, .int (-1), .int 2, .int 999, .int (-999), .int (r1 - 10), .int (r2 - 999)] : List V)[j]? = some (.int i) ∧ -999 ≤ i ∧ i ≤ 999 := by
      match j, hj with
      | 0, _ => exact ⟨0, rfl, by decide, by decide⟩
      | 1, _ => exact ⟨1, rfl, by decide, by decide⟩
      | 2, _ => exact ⟨-1, rfl, by decide, by decide⟩
      | 3, _ => exact ⟨2, rfl, by decide, by decide⟩
      | 4, _ => exact ⟨999, rfl, by decide, by decide⟩
      | 5, _ => exact ⟨-999, rfl, by decide, by decide⟩
      | 6, _ => exact ⟨r1 - 10, rfl, by omega, by omega⟩
      | 7, _ => exact ⟨r2 - 999, rfl, by omega, by omega⟩
    exact ⟨p, _, _, .int i, rfl, rfl, .of e3, atI_nat hi, q i H3 h1 h2 B3 (((k1.trans k2).trans (But.new hp)).trans k3)⟩
end
end G
set_option Elab.async false
set_option linter.all false
set_option maxRecDepth 100000
set_option maxHeartbeats 4000000
/-! S1: t[:0:-1], t + u and slices of tuples with one continuation. -/
namespace G
open PySem PySem.Spec PyProof.Rows L2 HT
section
variable {prog : Program} {w : World} {A : Around} {E : Value → Shared → Prop} {s : Shared}
theorem back_adjust (n : Nat) (h : 0 < n) : Builtin.Slice.sliceAdjust none (some 0) (-1) (n : Int) = ((n : Int) - 1, 0) := by
  unfold Builtin.Slice.sliceAdjust
  simp
  try omega
theorem back_places (n : Nat) (h : 0 < n) : Builtin.Slice.slicePlaces ((n : Int) - 1) 0 (-1) = n - 1 := by
  unfold Builtin.Slice.slicePlaces
  rw [if_neg (by decide)]
  split
  · rw [show (-(-1) : Int) = 1 by decide, Int.ediv_one]
    omega
  · omega
theorem sliceApplied_back {sl : Addr} {k z lo hi : Int} {t t2 : Tok} {n : Nat} {Q : Int × Int × Nat → Shared → Prop} (hs : s.heap.IsSliceOf sl .none (.int z t2) (.int k t)) (h0 : (k == 0) = false) (ha : Builtin.Slice.sliceAdjust none (some z) k (n : Int) = (lo, hi))
    (h : Q (lo, k, Builtin.Slice.slicePlaces lo hi k) s) : wpAny (model prog w) A (Builtin.Slice.sliceApplied (.ref sl) (pure (n : Int))) Q E s := by
  obtain ⟨os, hos, hcs, hds⟩ := id hs
  unfold Builtin.Slice.sliceApplied Builtin.Slice.sliceFields
  refine wpAny_bind (wpAny_bind (wpAny_field hos hds (x := .none) rfl (wpAny_bind (wpAny_field hos hds (x := .int z t2) rfl (wpAny_bind (wpAny_field hos hds (x := .int k t) rfl (wpAny_pure ?_)))))))
  refine wpAny_bind (slicePart_int ?_)
  show wpAny _ _ (if (k == 0) = true then _ else _) _ _ s
  rw [h0, if_neg (by decide)]
  refine wpAny_bind (slicePart_none (wpAny_bind (slicePart_int (wpAny_bind (wpAny_pure ?_)))))
  show wpAny _ _ (match Builtin.Slice.sliceAdjust none (some z) k (n : Int) with | (lo, hi) => pure (lo, k, Builtin.Slice.slicePlaces lo hi k)) _ _ s
  rw [ha]
  exact wpAny_pure h
theorem pick_back0 (xs : Array Value) (h : 0 < xs.size) : ((List.range (xs.size - 1)).filterMap fun (m : Nat) => xs[(((xs.size : Nat) : Int) - 1 + (m : Int) * (-1)).toNat]?) = (xs.toList.drop 1).reverse := by
  have e : ∀ k, k ≤ xs.size → ((List.range k).filterMap fun (m : Nat) => xs[(((xs.size : Nat) : Int) - 1 + (m : Int) * (-1)).toNat]?) = xs.toList.reverse.take k := by
    intro k
    induction k with
    | zero => intro _; simp
    | succ k ih =>
      intro hk
      rw [List.range_succ, List.filterMap_append, ih (by omega), List.take_add_one]
      congr 1
      have e1 : (((xs.size : Nat) : Int) - 1 + (k : Int) * (-1)).toNat = xs.size - 1 - k := by omega
      have hk2 : xs.size - 1 - k < xs.size := by omega
      simp only [List.filterMap_cons, List.filterMap_nil]
      rw [e1, Array.getElem?_eq_getElem hk2, List.getElem?_reverse (by simpa using (show k < xs.size by omega))]
      simp [hk2]
  rw [e _ (by omega), List.take_reverse, Array.length_toList]
  congr 2
  omega
theorem getItem_tuple_back0 {t sl : Addr} {items : Array Value} {u u2 : Tok} {Q : Value → Shared → Prop} (ht : IsTup s.heap t items) (hp : 0 < items.size) (hs : s.heap.IsSliceOf sl .none (.int 0 u2) (.int (-1) u))
    (h : Q (.ref s.heap.objs.size) { s with heap := s.heap.push { cls := .type "tuple", data := .seq (items.toList.drop 1).reverse.toArray } }) (hsz : items.size ≤ sizeLine) : wpAny (model prog w) A (getItem (.ref t) (.ref sl)) Q E s := by
  have hok : sizeOk (.seq (items.toList.drop 1).reverse.toArray) := by
    show (items.toList.drop 1).reverse.toArray.size ≤ sizeLine
    rw [List.size_toArray, List.length_reverse, List.length_drop, Array.length_toList]
    omega
  obtain ⟨os, hos, hcs, hds⟩ := id hs
  have hTs : s.TypeIs (.ref sl) "slice" := ⟨os, hos, hcs⟩
  unfold getItem
  try with_reducible refine wpAny_holding ?_
  first | refine wpAny_bind (wpAny_pure ?_) | skip
  refine wpAny_bind (wpAny_sequenceKey ht.typeIs (by decide) ?_)
  refine wpAny_bind (wpAny_callSpecial?_slot (name := Str.ofString "__getitem__") ht.typeIs PyProof.Rows.slot_tuple_getitem
    (wpAny_call_entry PyProof.Rows.slot_tuple_getitem ht.typeIs entry_tuple_getitem ?_ (args_tuple_getitem _ _)))
  show wpAny _ _ (Builtin.Tuple.tupleItemsOf (.ref t) >>= _) _ _ s
  refine wpAny_bind (tupleItemsOf_ ht ?_)
  refine wpAny_bind (wpAny_typeOf hTs ?_)
  rw [if_pos (by decide)]
  refine wpAny_bind (sliceApplied_back hs rfl (back_adjust _ hp) ?_)
  rw [back_places _ hp]
  have hno : ¬ ((((items.size : Nat) : Int) - 1 == 0 && (-1 : Int) == 1 && (items.size - 1) == items.size) = true) := by
    rw [show ((-1 : Int) == 1) = false by decide, Bool.and_false, Bool.false_and]
    exact Bool.false_ne_true
  show wpAny _ _ (if (((items.size : Nat) : Int) - 1 == 0 && (-1 : Int) == 1 && (items.size - 1) == items.size) = true then _ else _) _ _ s
  rw [if_neg hno, pick_back0 items hp]
  first
    | exact wpAny_bind (m := Builtin.Tuple.tupleExact _) (wpAny_newObj_type (wpAny_pure ⟨_, rfl, wpAny_pure h⟩) hok)
    | exact wpAny_bind (m := Builtin.Tuple.tupleExact _) (wpAny_newObj_type (wpAny_bind (wpAny_pure (wpAny_pure ⟨_, rfl, wpAny_pure h⟩))) hok)
    | exact wpAny_bind (wpAny_bind (m := Builtin.Tuple.tupleExact _) (wpAny_newObj_type (wpAny_pure (wpAny_pure ⟨_, rfl, wpAny_pure h⟩)) hok))
    | exact wpAny_bind (wpAny_bind (m := Builtin.Tuple.tupleExact _) (wpAny_newObj_type (wpAny_pure ⟨_, rfl, wpAny_pure h⟩) hok))
end
def tBack (K : PySem.W.Frag) (te : TE) (tu tp : TO) : TE := fun σ H Q => te σ H fun x H1 => tu σ H1 fun o1 H2 => tp σ H2 fun o H3 => ∃ a x0 xs, x = .ref a ∧ SqT K H3 a (x0 :: xs) ∧ o1 = some 0 ∧ o = some (-1) ∧ ∀ p, H3 p = none → Q (.ref p) (upd H3 p (.tup xs.reverse))
theorem pe_back {X : Cx} {e hi st : Expr} {te : TE} {tu tp : TO} {p3 pos : Pos} (he : PE X e te) (hhi : PO X (some hi) tu) (hst : PO X (some st) tp)
    (hsub : ∀ a l : Addr, subscripted (.Slice none (some hi) (some st) p3) false (.ref a) (.ref l) = operate [.ref a, .ref l] (getItem (.ref a) (.ref l)) := by intro _ _; with_unfolding_all rfl) :
    PE X (.Subscript e (.Slice none (some hi) (some st) p3) pos) (tBack X.K te tu tp) := by
  refine ⟨fun pins s σ H Q I h => ?_⟩
  refine Subscript_ (thn (he.run pins s σ H _ I h) fun v s1 ⟨x, H1, I1, r1, q1⟩ => ?_)
  refine wpAny_Slice (thn (po_none.run pins s1 σ H1 (fun o H2 => o = none ∧ H2 = H1) I1 ⟨rfl, rfl⟩) fun vl s2 ⟨l, H2, I2, pl, el, e2⟩ => ?_)
  subst el e2
  refine thn (hhi.run pins s2 σ H2 _ I2 q1) fun vu s3 ⟨o1, H3, I3, pu, q2⟩ => ?_
  refine thn (hst.run pins s3 σ H3 _ I3 q2) fun vs s4 ⟨o, H4, I4, ps, a, x0, xs, ex, hx, e1, e2, q⟩ => ?_
  subst ex e1 e2
  cases r1
  cases pl
  have I5 : Inv X pins σ H4 { s4 with heap := s4.heap.push { cls := .type "slice", data := .fields #[.none, vu, vs] } } := I4.kept (t' := s4.toks) fun b ob q => Heap.get?_push_of_some _ q
  obtain ⟨its, r, ht, hz⟩ := I5.tuple hx
  have hlen : its.toArray.size = (x0 :: xs).length := by rw [List.size_toArray]; exact r.length.symm
  show wpAny (model X.prog X.w) X.A (subscriptTail e (.Slice none (some hi) (some st) p3) (.ref a) (.ref s4.heap.objs.size)) (EP X pins σ Q) X.xe { s4 with heap := s4.heap.push { cls := .type "slice", data := .fields #[.none, vu, vs] } }
  refine tail_any (ops := [.ref a, .ref s4.heap.objs.size]) ht.typeIs (PyProof.Rows.slot_tuple_getitem.lookup) ?_ (hsub _ _)
  cases pu with
  | int i0 t0 =>
    cases ps with
    | int i t =>
      refine getItem_tuple_back0 ht (by rw [hlen]; exact Nat.succ_pos _) (Heap.IsSliceOf.new _ _ _ _) ?_ (by rw [hlen]; exact hz)
      have r' : Vals (x0 :: xs) its := r
      cases r' with
      | @cons _ u _ us ru rs =>
        refine ⟨.ref _, _, I5.laid (t' := s4.toks) (o := .tup xs.reverse) (fun b ob q => Heap.get?_push_of_some _ q) (Nat.le_refl _) ?_, rfl, q _ (I5.hok.fresh (Nat.le_refl _))⟩
        refine ⟨?_, _, Vals.reverse rs, IsTup.new _ _⟩
        rw [List.length_reverse]
        have : (x0 :: xs).length ≤ sizeLine := hz
        rw [List.length_cons] at this
        omega
theorem catA_go {K : PySem.W.Frag} {H : Hp} {a b : Addr} {xs ys : List V} {Q : VK} (ea : H a = some (.tup xs)) (eb : H b = some (.tup ys)) (hz : xs.length + ys.length ≤ sizeLine) (q : ∀ r H', Same H H' → H' r = some (.tup (xs ++ ys)) → Q (.ref r) H') : rCatA K (.ref a) (.ref b) H Q := by
  refine ⟨a, b, xs, ys, rfl, rfl, .of ea, .of eb, hz, fun z => ?_, fun _ z => ?_, fun _ _ p hp => ?_⟩
  · subst z
    exact q b H (Same.refl _) eb
  · subst z
    refine q a H (Same.refl _) ?_
    rw [List.append_nil]
    exact ea
  · exact q p _ (Same.new hp) upd_same
theorem cutV_whole {xs : List V} {lo hi : Option Int} (h : HT.sIx xs.length 0 lo = 0 ∧ HT.sIx xs.length xs.length hi = xs.length) : cutV xs lo hi = xs := by
  unfold cutV
  rw [h.1, h.2, List.drop_zero, Nat.sub_zero, List.take_length]
theorem slA_go {K : PySem.W.Frag} {H : Hp} {a : Addr} {xs : List V} {lo hi : Option Int} {Q : VK} (ea : H a = some (.tup xs)) (q : ∀ r H', Same H H' → H' r = some (.tup (cutV xs lo hi)) → Q (.ref r) H') : rSlA K (.ref a) lo hi H Q := by
  refine ⟨a, xs, rfl, .of ea, fun z => ?_, fun _ p hp => q p _ (Same.new hp) upd_same⟩
  refine q a H (Same.refl _) ?_
  rw [cutV_whole z]
  exact ea
theorem cutV_from (xs : List V) (k : Nat) : cutV xs (some (k : Int)) none = xs.drop k := by
  unfold cutV
  rw [HT.sIx_none, HT.sIx_nat]
  rcases Nat.lt_or_ge k xs.length with h | h
  · rw [Nat.min_eq_left (Nat.le_of_lt h)]
    exact List.take_of_length_le (by rw [List.length_drop]; exact Nat.le_refl _)
  · rw [Nat.min_eq_right h, Nat.sub_self, List.take_zero, List.drop_of_length_le h]
theorem cutV_first2 (xs : List V) (k : Nat) : cutV xs none (some (k : Int)) = xs.take k := by
  unfold cutV
  rw [HT.sIx_none, HT.sIx_nat, List.drop_zero, Nat.sub_zero]
  rcases Nat.lt_or_ge k xs.length with h | h
  · rw [Nat.min_eq_left (Nat.le_of_lt h)]
  · rw [Nat.min_eq_right h, List.take_length, List.take_of_length_le h]
theorem cutV_one (x : V) (r : List V) : cutV (x :: r) (some 1) (some 2) = r.take 1 := by
  unfold cutV
  rw [show ((1 : Int)) = ((1 : Nat) : Int) from rfl, show ((2 : Int)) = ((2 : Nat) : Int) from rfl, HT.sIx_nat, HT.sIx_nat]
  cases r with
  | nil => rfl
  | cons y r =>
    rw [List.length_cons, List.length_cons, Nat.min_eq_left (by omega), Nat.min_eq_left (by omega)]
    rfl
end G
set_option Elab.async false
set_option linter.all false
set_option maxRecDepth 100000
set_option maxHeartbeats 2000000
/-! P0: isinstance by the kind of a thing. -/
namespace G
open PySem PySem.Spec PyProof.Rows L2
def isI : PyData → Bool
  | .int _ => true
  | .bool _ => true
  | _ => false
def isB : PyData → Bool
  | .bool _ => true
  | _ => false
def isTup : PyData → Bool
  | .tuple _ => true
  | _ => false
def isLst : PyData → Bool
  | .list _ => true
  | _ => false
def isDic : PyData → Bool
  | .dict _ => true
  | _ => false
theorem kit_i {K : PySem.W.Frag} : ∀ d : PyData, PySem.W.kitOne K (.type (tyN d)) (.type "int") = some (isI d)
  | .none => kit_ty (a := "NoneType") (b := "int") (r := false) (by decide +kernel)
  | .bool _ => kit_ty (a := "bool") (b := "int") (r := true) (by decide +kernel)
  | .int _ => kit_ty (a := "int") (b := "int") (r := true) (by decide +kernel)
  | .str _ => kit_ty (a := "str") (b := "int") (r := false) (by decide +kernel)
  | .list _ => kit_ty (a := "list") (b := "int") (r := false) (by decide +kernel)
  | .tuple _ => kit_ty (a := "tuple") (b := "int") (r := false) (by decide +kernel)
  | .dict _ => kit_ty (a := "dict") (b := "int") (r := false) (by decide +kernel)
theorem kit_b {K : PySem.W.Frag} : ∀ d : PyData, PySem.W.kitOne K (.type (tyN d)) (.type "bool") = some (isB d)
  | .none => kit_ty (a := "NoneType") (b := "bool") (r := false) (by decide +kernel)
  | .bool _ => kit_ty (a := "bool") (b := "bool") (r := true) (by decide +kernel)
  | .int _ => kit_ty (a := "int") (b := "bool") (r := false) (by decide +kernel)
  | .str _ => kit_ty (a := "str") (b := "bool") (r := false) (by decide +kernel)
  | .list _ => kit_ty (a := "list") (b := "bool") (r := false) (by decide +kernel)
  | .tuple _ => kit_ty (a := "tuple") (b := "bool") (r := false) (by decide +kernel)
  | .dict _ => kit_ty (a := "dict") (b := "bool") (r := false) (by decide +kernel)
theorem kit_t {K : PySem.W.Frag} : ∀ d : PyData, PySem.W.kitOne K (.type (tyN d)) (.type "tuple") = some (isTup d)
  | .none => kit_ty (a := "NoneType") (b := "tuple") (r := false) (by decide +kernel)
  | .bool _ => kit_ty (a := "bool") (b := "tuple") (r := false) (by decide +kernel)
  | .int _ => kit_ty (a := "int") (b := "tuple") (r := false) (by decide +kernel)
  | .str _ => kit_ty (a := "str") (b := "tuple") (r := false) (by decide +kernel)
  | .list _ => kit_ty (a := "list") (b := "tuple") (r := false) (by decide +kernel)
  | .tuple _ => kit_ty (a := "tuple") (b := "tuple") (r := true) (by decide +kernel)
  | .dict _ => kit_ty (a := "dict") (b := "tuple") (r := false) (by decide +kernel)
theorem kit_l {K : PySem.W.Frag} : ∀ d : PyData, PySem.W.kitOne K (.type (tyN d)) (.type "list") = some (isLst d)
  | .none => kit_ty (a := "NoneType") (b := "list") (r := false) (by decide +kernel)
  | .bool _ => kit_ty (a := "bool") (b := "list") (r := false) (by decide +kernel)
  | .int _ => kit_ty (a := "int") (b := "list") (r := false) (by decide +kernel)
  | .str _ => kit_ty (a := "str") (b := "list") (r := false) (by decide +kernel)
  | .list _ => kit_ty (a := "list") (b := "list") (r := true) (by decide +kernel)
  | .tuple _ => kit_ty (a := "tuple") (b := "list") (r := false) (by decide +kernel)
  | .dict _ => kit_ty (a := "dict") (b := "list") (r := false) (by decide +kernel)
theorem kit_d {K : PySem.W.Frag} : ∀ d : PyData, PySem.W.kitOne K (.type (tyN d)) (.type "dict") = some (isDic d)
  | .none => kit_ty (a := "NoneType") (b := "dict") (r := false) (by decide +kernel)
  | .bool _ => kit_ty (a := "bool") (b := "dict") (r := false) (by decide +kernel)
  | .int _ => kit_ty (a := "int") (b := "dict") (r := false) (by decide +kernel)
  | .str _ => kit_ty (a := "str") (b := "dict") (r := false) (by decide +kernel)
  | .list _ => kit_ty (a := "list") (b := "dict") (r := false) (by decide +kernel)
  | .tuple _ => kit_ty (a := "tuple") (b := "dict") (r := false) (by decide +kernel)
  | .dict _ => kit_ty (a := "dict") (b := "dict") (r := true) (by decide +kernel)
def isS : PyData → Bool
  | .str _ => true
  | _ => false
theorem kit_s {K : PySem.W.Frag} : ∀ d : PyData, PySem.W.kitOne K (.type (tyN d)) (.type "str") = some (isS d)
  | .none => kit_ty (a := "NoneType") (b := "str") (r := false) (by decide +kernel)
  | .bool _ => kit_ty (a := "bool") (b := "str") (r := false) (by decide +kernel)
  | .int _ => kit_ty (a := "int") (b := "str") (r := false) (by decide +kernel)
  | .str _ => kit_ty (a := "str") (b := "str") (r := true) (by decide +kernel)
  | .list _ => kit_ty (a := "list") (b := "str") (r := false) (by decide +kernel)
  | .tuple _ => kit_ty (a := "tuple") (b := "str") (r := false) (by decide +kernel)
  | .dict _ => kit_ty (a := "dict") (b := "str") (r := false) (by decide +kernel)
/-- isinstance(x, int), by name -/
theorem pt_isi {X : Cx} {y : Str} {py : Pos} {te : TE} {n : Str} {p q pos : Pos} (T : String) (he : PE X (.Name y py) te) (hg : Gl X "isinstance" := by rfl) (hm : X.mg "isinstance" = none) (gn : Gl X n := by rfl) (mn : X.mg n = none) (hv : bootBuiltins n = some (.type T) := by decide +kernel)
    (hn : n ≠ "__name__" := by decide) (hd : (n == ("__debug__" : Str)) = false := by decide) :
    PE X (.Call (.Name "isinstance" p) [.Name y py, .Name n q] [] pos) (tCB (rIsi X.K) (tCons te (tCons (tC (.ty T)) tNil))) :=
  pe_callB call_isi hg hm (by decide +kernel) (pa_cons he (pa_cons (pe_bltn gn mn hv rfl hn hd) pa_nil))

end G
set_option Elab.async false
set_option linter.all false
set_option maxRecDepth 100000
set_option maxHeartbeats 2000000
/-! P1: checks that pass; Between made. -/
namespace G
open PySem PySem.Spec PyProof.Rows L2 NdefX
abbrev sIsInt : Stmt := topS 16
abbrev sIsName : Stmt := topS 17
abbrev sNeedInt : Stmt := topS 22
abbrev sNeedName : Stmt := topS 23
abbrev sCondInit : Stmt := inClass (topS 34) 0
abbrev sBtwInit : Stmt := inClass (topS 37) 0
theorem scIsInt : FnScope ["value", "low", "high"] ["value", "low", "high"] (defScope sIsInt) := ⟨rfl, rfl, rfl, by decide +kernel, rfl, by decide +kernel, by decide +kernel⟩
theorem scIsName : FnScope ["value", "letter"] ["value"] (defScope sIsName) := ⟨rfl, rfl, rfl, by decide +kernel, rfl, by decide +kernel, by decide +kernel⟩
theorem scNeedInt : FnScope ["value", "low", "high"] ["value", "low", "high"] (defScope sNeedInt) := ⟨rfl, rfl, rfl, by decide +kernel, rfl, by decide +kernel, by decide +kernel⟩
theorem scNeedName : FnScope ["value"] ["value"] (defScope sNeedName) := ⟨rfl, rfl, rfl, by decide +kernel, rfl, by decide +kernel, by decide +kernel⟩
theorem scCondInit : FnScope ["self", "leaf_count", "height", "name_count"] ["self", "leaf_count", "height", "name_count"] (defScope sCondInit) := ⟨rfl, rfl, rfl, by decide +kernel, rfl, by decide +kernel, by decide +kernel⟩
abbrev nBtw : List Str := ["self", "field", "low", "high", "__class__"]
theorem scBtwInit : NScope nBtw ["self", "field", "low", "high"] ["__class__"] (defScope sBtwInit) := nscope_by (by decide +kernel)

/-- a method of the text that captures __class__, as it stands behind the top -/
structure FunX (K : PySem.W.Frag) (x qual : Str) (st : Stmt) (f cda cc : Addr) (kV : Value) (fd : FuncData) : Prop where
  ex : ∃ (oc : Value) (od : Option Addr) (doc pm : Value) (an : Option Addr) (ct : Value) (osl : Array (Option Value)),
    fd = PySem.W.ksFn x qual (defArgs st) (defBody st) (defScope st) .none kV doc pm an (.ref cda) ct cc ∧ K.lookup f = some ⟨oc, od, .func fd, osl⟩ ∧ PySem.W.codeIn K (.ref cda) qual = true
  cell : ∃ oc od sl v, K.lookup cc = some ⟨oc, od, .cell v, sl⟩
abbrev nfOf (x qual : Str) (st : Stmt) (cda cc : Addr) : NF := ⟨x, qual, defArgs st, defBody st, defScope st, [("__class__", cc)], cda⟩
theorem FunX.ok {P : Program} {w : World} {K : PySem.W.Frag} {mg : Str → Option Value} {base : Heap} {CX : CXT} {x qual : Str} {st : Stmt} {f cda cc : Addr} {kV : Value} {fd : FuncData} {N ps : List Str} {k : Nat} {sp : Sp}
    (F : FunX K x qual st f cda cc kV fd) (S : NScope N ps ["__class__"] (defScope st)) (len : ∀ vs H Q E, sp vs H Q E → vs.length = ps.length)
    (hbody : ∀ (A : Around) (outer : List Env) (s : Shared) (H : Hp) (vs : List V) (Q : VK) (E : XK), Room k (A.deeper (envF (nfOf x qual st cda cc) f s.heap.objs.size)) → sp vs H Q E →
      ∃ t, PSsa (ncx CX P w K mg base N (nfOf x qual st cda cc) f A outer s H E) (defBody st) (defBody st) t ∧ t { nx := fun _ H' => Q .non H', rt := Q } (startF N vs [none]) H) :
    FnOk P w K mg base CX (k + 1) f fd ps sp := by
  obtain ⟨oc, od, doc, pm, an, ct, osl, rfl, lk, hcd⟩ := F.ex
  exact fnx_of lk hcd F.cell S len hbody

def spIsInt : Sp := fun vs H Q _ => ∃ v lo hi : Int, vs = [.int v, .int lo, .int hi] ∧ Q (.bl (decide (lo ≤ v) && decide (v ≤ hi))) H
def spIsName : Sp := fun vs H Q _ => ∃ z : Str, vs = [.str z] ∧ NameZ z ∧ ∀ H', Same H H' → Q (.bl true) H'
def spNeedInt : Sp := fun vs H Q _ => ∃ v lo hi : Int, vs = [.int v, .int lo, .int hi] ∧ lo ≤ v ∧ v ≤ hi ∧ Q .non H
def spNeedName : Sp := fun vs H Q _ => ∃ z : Str, vs = [.str z] ∧ NameZ z ∧ ∀ H', Same H H' → Q .non H'
/-- Condition.__init__, of any class below it -/
def spCond (C : Addr) : Sp := fun vs H Q _ => ∃ (a dx : Addr) (l h k : Int) (fs : List (Str × V)), vs = [.ref a, .int l, .int h, .int k] ∧ H a = some (.ins C dx fs) ∧ fs.length ≤ 500 ∧ l ≤ 6 ∧ h ≤ 5 ∧ k ≤ 8 ∧
  Q .non (upd H a (.ins C dx (putF "name_count" (.int k) (putF "height" (.int h) (putF "leaf_count" (.int l) fs)))))
section
variable {P : Program} {w : World} {K : PySem.W.Frag} {mg : Str → Option Value} {base : Heap}
theorem ok_isint {f : Addr} {fd : FuncData} (F : Fun K "is_integer" "is_integer" sIsInt f fd) (mi : mg "isinstance" = none) (mn : mg "int" = none) (mb : mg "bool" = none) : FnOk P w K mg base CX0 1 f fd ["value", "low", "high"] spIsInt := by
  refine F.ok scIsInt (fun vs H Q E h => ?_) (fun cdv A outer s H vs Q E hr h => ?_)
  · obtain ⟨v, lo, hi, rfl, _⟩ := h
    rfl
  · obtain ⟨v, lo, hi, rfl, q⟩ := h
    refine ⟨_, pss_cons (ps_if (PW.pt (pw_or (pt_not (pt_val (pt_isi "int" (pv 0) (hm := mi) (mn := mn)))) (pw_or1 (pt_val (pt_isi "bool" (pv 0) (hm := mi) (mn := mb)))))) (pss_one (ps_ret pe_bl)) pss_nil)
      (pss_one (ps_ret (pe_chain op_le op_le (pv 1) (pv 0) (pv 2)))), ?_⟩
    have hR : Rp K H (.int v) (.int v) := .int v
    refine ⟨_, rfl, _, _, _, _, _, rfl, .ty _, rp_ty hR, kit_i (.int v), _, rfl, iteF ?_⟩
    refine ⟨_, rfl, _, _, _, _, _, rfl, .ty _, rp_ty hR, kit_b (.int v), _, rfl, iteF ?_⟩
    refine ⟨_, rfl, _, rfl, _, _, rfl, rfl, _, rfl, ?_⟩
    cases e : decide (lo ≤ v) with
    | false =>
      refine iteF ?_
      rw [e] at q
      exact q
    | true =>
      refine iteT ?_
      rw [e] at q
      exact ⟨_, rfl, _, _, rfl, rfl, q⟩
theorem ok_isname {f : Addr} {fd : FuncData} {t1 t2 : Tok} (F : Fun K "is_name" "is_name" sIsName f fd) (gM : mg "MOST_LETTERS" = some (.int 8 t1)) (gL : mg "LETTERS" = some (.str abc t2)) (mi : mg "isinstance" = none) (ms : mg "str" = none) (ml : mg "len" = none) (ma : mg "all" = none) :
    FnOk P w K mg base CX0 1 f fd ["value"] spIsName := by
  refine F.ok scIsName (fun vs H Q E h => ?_) (fun cdv A outer s H vs Q E hr h => ?_)
  · obtain ⟨z, rfl, _⟩ := h
    rfl
  · obtain ⟨z, rfl, ⟨hz, h1, h8⟩, q⟩ := h
    refine ⟨_, pss_cons (ps_if (PW.pt (pw_or (pt_not (pt_val (pt_isi "str" (pv 0) (hm := mi) (mn := ms)))) (pw_or1 (pt_not (pt_chain op_le op_le pe_int (pe_callB call_len_str (by rfl) ml PySem.boot_len (pa_cons (pv 0) pa_nil)) (pe_glob (v := .int 8) rfl gM ⟨_, rfl⟩))))))
        (pss_one (ps_ret pe_bl)) pss_nil)
      (pss_one (ps_ret (pe_callB (cr_all rfl) (by rfl) ma (by decide +kernel) (pa_cons (pe_lc (own := [("letter", 1)]) (g := gName 1) (tt := tYes) (by rfl) scIsName.nd (pi_str (pv 0))
        (blkOk_by (own := [("letter", 1)]) (N := ["value", "letter"]) (sc := defScope sIsName) (by decide +kernel)) (fun _ _ _ _ _ => pg_name (i := 1) scIsName.nd rfl (.inl rfl)) (fun _ _ _ _ _ => pts_nil)
        (fun _ _ _ _ _ => pe_cmpR op_in_sign (pv 1) (pe_glob (v := .str abc) rfl gL ⟨_, rfl⟩) (by rfl))) pa_nil)))), ?_⟩
    have hR : Rp K H (.str z) (.str z) := .str z
    refine ⟨_, rfl, _, _, _, _, _, rfl, .ty _, rp_ty hR, kit_s (.str z), _, rfl, iteF ?_⟩
    refine ⟨_, rfl, z, rfl, small_size (by omega), _, _, rfl, rfl, _, rfl, ?_⟩
    rw [decide_eq_true (show (1 : Int) ≤ (z.length : Int) by omega)]
    refine iteT ⟨_, _, rfl, rfl, _, rfl, ?_⟩
    rw [decide_eq_true (show (z.length : Int) ≤ 8 by omega)]
    refine iteF ?_
    refine ⟨_, rfl, z, rfl, fun D hD => ?_⟩
    refine lc_it walk_str (fun i H2 => Same H H2 ∧ H2 D = some (.lst ((List.replicate i true).map V.bl))) ?_ ?_ ?_ ?_
    · exact ⟨Same.new hD, upd_same⟩
    · exact fun _ _ _ _ => trivial
    · rintro i x H2 H3 hi ⟨s2, e2⟩ ⟨rfl, c, hc, rfl⟩
      have hc2 : (cs z)[i]? = some c := by
        rw [← hc, ← Array.getElem?_toList]
      have hzs : z.cps.size = z.length := rfl
      have c97 := hz c (List.mem_of_getElem? hc2)
      refine ⟨rfl, ?_⟩
      unfold tYes
      dsimp only
      rw [if_pos rfl]
      refine ⟨_, rfl, c, _, rfl, rfl, _, e2, ?_, fun a o e => ?_, ?_⟩
      · rw [List.length_map, List.length_replicate]
        exact Nat.lt_of_lt_of_le hi (small_size (by omega))
      · rw [upd_ne (ne_of_none e hD)]
        exact s2 _ _ e
      · have hin : decide (c ∈ abc.cps.toList) = true := decide_eq_true (by
          have e : abc.cps.toList = (List.range 26).map (97 + ·) := by decide +kernel
          rw [e]
          exact List.mem_map.mpr ⟨c - 97, List.mem_range.mpr (by omega), by omega⟩)
        rw [upd_same, hin, List.replicate_succ', List.map_append]
        rfl
    · rintro H2 ⟨s2, e2⟩
      refine ⟨D, _, rfl, .of e2, ?_⟩
      have ha : (List.replicate z.cps.size true).all id = true := by
        rw [List.all_eq_true]
        intro x hx
        rw [(List.mem_replicate.mp hx).2]
        rfl
      rw [ha]
      exact q H2 s2
theorem ok_needint {f fI : Addr} {fd fdI : FuncData} (F : Fun K "need_integer" "need_integer" sNeedInt f fd) (I : Fun K "is_integer" "is_integer" sIsInt fI fdI) (bI : Binds K fdI ["value", "low", "high"] []) (gI : mg "is_integer" = some (.ref fI))
    (GI : FnOk P w K mg base CX0 1 fI fdI ["value", "low", "high"] spIsInt) : FnOk P w K mg base CX0 2 f fd ["value", "low", "high"] spNeedInt := by
  refine F.ok scNeedInt (fun vs H Q E h => ?_) (fun cdv A outer s H vs Q E hr h => ?_)
  · obtain ⟨v, lo, hi, rfl, _⟩ := h
    rfl
  · obtain ⟨v, lo, hi, rfl, h1, h2, q⟩ := h
    refine ⟨_, pss_one (ps_if (pt_not (pt_val (pe_call GI hr rfl gI I.kp bI .nil pass0 (pa_cons (pv 0) (pa_cons (pv 1) (pa_cons (pv 2) pa_nil)))))) (pss_one ps_never) pss_nil), ?_⟩
    refine ⟨_, rfl, _, rfl, _, rfl, v, lo, hi, rfl, _, rfl, ?_⟩
    rw [decide_eq_true h1, decide_eq_true h2]
    exact iteF q
theorem ok_needname {f fI : Addr} {fd fdI : FuncData} (F : Fun K "need_name" "need_name" sNeedName f fd) (I : Fun K "is_name" "is_name" sIsName fI fdI) (bI : Binds K fdI ["value"] []) (gI : mg "is_name" = some (.ref fI))
    (GI : FnOk P w K mg base CX0 1 fI fdI ["value"] spIsName) : FnOk P w K mg base CX0 2 f fd ["value"] spNeedName := by
  refine F.ok scNeedName (fun vs H Q E h => ?_) (fun cdv A outer s H vs Q E hr h => ?_)
  · obtain ⟨z, rfl, _⟩ := h
    rfl
  · obtain ⟨z, rfl, hz, q⟩ := h
    refine ⟨_, pss_one (ps_if (pt_not (pt_val (pe_call GI hr rfl gI I.kp bI .nil pass0 (pa_cons (pv 0) pa_nil)))) (pss_one ps_never) pss_nil), ?_⟩
    exact ⟨_, rfl, z, rfl, hz, fun H' s' => ⟨_, rfl, iteF (q H' s')⟩⟩
theorem ok_condinit {f C : Addr} {fd : FuncData} {t1 t2 t3 : Tok} (F : Fun K "__init__" "Condition.__init__" sCondInit f fd) (c : Cls K C) (n1 : NoAttr K C "leaf_count") (n2 : NoAttr K C "height") (n3 : NoAttr K C "name_count")
    (g1 : mg "MOST_LEAVES" = some (.int 6 t1)) (g2 : mg "MOST_DEPTH" = some (.int 5 t2)) (g3 : mg "MOST_NAMES" = some (.int 8 t3)) :
    FnOk P w K mg base CX0 1 f fd ["self", "leaf_count", "height", "name_count"] (spCond C) := by
  refine F.ok scCondInit (fun vs H Q E h => ?_) (fun cdv A outer s H vs Q E hr h => ?_)
  · obtain ⟨a, dx, l, h, k, fs, rfl, _⟩ := h
    rfl
  · obtain ⟨a, dx, l, h, k, fs, rfl, ha, hf, h1, h2, h3, q⟩ := h
    refine ⟨_, pss_cons (ps_if (pt_cmpR op_gt (pv 1) (pe_glob (v := .int 6) rfl g1 ⟨_, rfl⟩) (nomark _)) (pss_one ps_never) pss_nil)
      (pss_cons (ps_if (pt_cmpR op_gt (pv 2) (pe_glob (v := .int 5) rfl g2 ⟨_, rfl⟩) (nomark _)) (pss_one ps_never) pss_nil)
      (pss_cons (ps_if (pt_cmpR op_gt (pv 3) (pe_glob (v := .int 8) rfl g3 ⟨_, rfl⟩) (nomark _)) (pss_one ps_never) pss_nil)
      (pss_cons (ps_fld (pv 0) (pv 1) rfl) (pss_cons (ps_fld (pv 0) (pv 2) rfl) (pss_one (ps_fld (pv 0) (pv 3) rfl)))))), ?_⟩
    have l1 := length_putF "leaf_count" (V.int l) fs
    have l2 := length_putF "height" (V.int h) (putF "leaf_count" (V.int l) fs)
    refine ⟨_, rfl, _, _, rfl, rfl, _, rfl, ?_⟩
    rw [decide_eq_false (show ¬ l > 6 by omega)]
    refine iteF ⟨_, rfl, _, _, rfl, rfl, _, rfl, ?_⟩
    rw [decide_eq_false (show ¬ h > 5 by omega)]
    refine iteF ⟨_, rfl, _, _, rfl, rfl, _, rfl, ?_⟩
    rw [decide_eq_false (show ¬ k > 8 by omega)]
    refine iteF ?_
    refine ⟨_, rfl, _, rfl, a, C, dx, fs, rfl, ha, c, n1, by omega, ?_⟩
    refine ⟨_, rfl, _, rfl, a, C, dx, _, rfl, upd_same, c, n2, by omega, ?_⟩
    refine ⟨_, rfl, _, rfl, a, C, dx, _, rfl, upd_same, c, n3, by omega, ?_⟩
    rw [upd_upd, upd_upd]
    exact q
end
end G
set_option Elab.async false
set_option linter.all false
set_option maxRecDepth 100000
set_option maxHeartbeats 2000000
/-! P2: Between made. -/
namespace G
open PySem PySem.Spec PyProof.Rows L2 NdefX
/-- a Between's fields -/
def btwFs (z : Str) (lo hi : Int) : List (Str × V) := [("leaf_count", .int 1), ("height", .int 1), ("name_count", .int 0), ("field_name", .str z), ("lowest", .int lo), ("highest", .int hi)]
def spBtw (C : Addr) : Sp := fun vs H Q _ => ∃ (a dx : Addr) (z : Str) (lo hi : Int), vs = [.ref a, .str z, .int lo, .int hi] ∧ H a = some (.ins C dx []) ∧ NameZ z ∧ -999 ≤ lo ∧ lo ≤ hi ∧ hi ≤ 999 ∧
  ∀ H', Same H H' → Q .non (upd H' a (.ins C dx (btwFs z lo hi)))
section
variable {P : Program} {w : World} {K : PySem.W.Frag} {mg : Str → Option Value} {base : Heap}
theorem ok_btwinit {f cda cc C f2 fN fJ : Addr} {kV : Value} {fd fdN fdJ fdC : FuncData} (F : FunX K "__init__" "Between.__init__" sBtwInit f cda cc kV fd) (S : SupOf P K f cda cc C C f2 "self") (c : Cls K C)
    (n1 : NoAttr K C "field_name") (n2 : NoAttr K C "lowest") (n3 : NoAttr K C "highest")
    (GN : FnOk P w K mg base CX0 2 fN fdN ["value"] spNeedName) (gN : mg "need_name" = some (.ref fN)) (kN : PySem.W.keepIn K (.ref fN) = true) (bN : Binds K fdN ["value"] [])
    (GJ : FnOk P w K mg base CX0 2 fJ fdJ ["value", "low", "high"] spNeedInt) (gJ : mg "need_integer" = some (.ref fJ)) (kJ : PySem.W.keepIn K (.ref fJ) = true) (bJ : Binds K fdJ ["value", "low", "high"] [])
    (GC : FnOk P w K mg base CX0 1 f2 fdC ["self", "leaf_count", "height", "name_count"] (spCond C)) (bC : Binds K fdC ["self", "leaf_count", "height", "name_count"] []) (ms : mg "super" = none) :
    FnOk P w K mg base CX0 3 f fd ["self", "field", "low", "high"] (spBtw C) := by
  refine F.ok scBtwInit (fun vs H Q E h => ?_) (fun A outer s H vs Q E hr h => ?_)
  · obtain ⟨a, dx, z, lo, hi, rfl, _⟩ := h
    rfl
  · obtain ⟨a, dx, z, lo, hi, rfl, ha, hz, h1, h2, h3, q⟩ := h
    have hr1 := hr.mono (show 1 ≤ 2 by decide)
    refine ⟨_, pssa_cons (psa (ps_expr (pe_call GN hr rfl gN kN bN .nil pass0 (pa_cons (pv 1) pa_nil))))
      (pssa_cons (psa (ps_expr (pe_call GJ hr rfl gJ kJ bJ .nil pass0 (pa_cons (pv 2) (pa_cons (pe_un un_neg pe_int) (pa_cons pe_int pa_nil))))))
      (pssa_cons (psa (ps_expr (pe_call GJ hr rfl gJ kJ bJ .nil pass0 (pa_cons (pv 3) (pa_cons (pv 2) (pa_cons pe_int pa_nil))))))
      (pssa_cons (psa_super (i := 0) S (GC.raw bC .nil) hr1 pass0 rfl rfl rfl rfl rfl rfl ms rfl (pa_cons pe_int (pa_cons pe_int (pa_cons pe_int pa_nil))))
      (pssa (pss_cons (ps_fld (pv 0) (pv 1) rfl) (pss_cons (ps_fld (pv 0) (pv 2) rfl) (pss_one (ps_fld (pv 0) (pv 3) rfl)))))))), ?_⟩
    refine ⟨_, rfl, z, rfl, hz, fun H1 s1 => ?_⟩
    have ha1 := s1 _ _ ha
    refine ⟨_, rfl, _, rfl, lo, -999, 999, rfl, h1, by omega, ?_⟩
    refine ⟨_, rfl, _, rfl, hi, lo, 999, rfl, h2, h3, ?_⟩
    refine ⟨a, dx, [], rfl, ha1, a, dx, 1, 1, 0, [], rfl, ha1, by decide, by decide, by decide, by decide, ?_⟩
    refine ⟨_, rfl, _, rfl, a, C, dx, _, rfl, upd_same, c, n1, by decide, ?_⟩
    refine ⟨_, rfl, _, rfl, a, C, dx, _, rfl, upd_same, c, n2, (by show 4 < 1000; decide), ?_⟩
    refine ⟨_, rfl, _, rfl, a, C, dx, _, rfl, upd_same, c, n3, (by show 5 < 1000; decide), ?_⟩
    rw [upd_upd, upd_upd, upd_upd]
    exact q H1 s1
end
end G
set_option Elab.async false
set_option linter.all false
set_option maxRecDepth 100000
set_option maxHeartbeats 2000000
/-! P3: a value of a record is one; a record is one. -/
namespace G
open PySem PySem.Spec PyProof.Rows L2 NdefX
abbrev sIsValue : Stmt := topS 18
abbrev sNeedValue : Stmt := topS 24
abbrev sNeedRecord : Stmt := topS 25
theorem scIsValue : FnScope ["value", "field"] ["value"] (defScope sIsValue) := ⟨rfl, rfl, rfl, by decide +kernel, rfl, by decide +kernel, by decide +kernel⟩
theorem scNeedValue : FnScope ["value"] ["value"] (defScope sNeedValue) := ⟨rfl, rfl, rfl, by decide +kernel, rfl, by decide +kernel, by decide +kernel⟩
theorem scNeedRecord : FnScope ["key", "value"] ["key", "value"] (defScope sNeedRecord) := ⟨rfl, rfl, rfl, by decide +kernel, rfl, by decide +kernel, by decide +kernel⟩
/-- a record's value, of some names -/
structure ValOk (zs : List Str) (kvs : List (Key × V)) : Prop where
  nm : ∀ z ∈ zs, NameZ z
  is : ValN zs kvs
  pos : 1 ≤ kvs.length
  six : kvs.length ≤ 6
theorem valV_of {zs : List Str} {kvs : List (Key × V)} (h : ValN zs kvs) {i : Nat} {k : Key} {v : V} (e : kvs[i]? = some (k, v)) : ∃ (z : Str) (n : Int), k = Sum.inr z ∧ z ∈ zs ∧ valV kvs k = some (.int n) ∧ -999 ≤ n ∧ n ≤ 999 := by
  have hm := List.mem_of_getElem? e
  obtain ⟨z, j, ez, hz, _, _⟩ := h _ hm
  obtain ⟨rfl, _⟩ := Prod.mk.inj ez
  cases q : valV kvs (Sum.inr z) with
  | none =>
    exfalso
    have h2 : (kvs.find? fun kv => decide (kv.1 = (Sum.inr z : Key))) = none := by
      have : Option.map (fun p : Key × V => p.2) (kvs.find? fun kv => decide (kv.1 = (Sum.inr z : Key))) = none := q
      exact Option.map_eq_none_iff.mp this
    have h3 := List.find?_eq_none.mp h2 _ hm
    exact h3 (decide_eq_true rfl)
  | some x =>
    have h2 : Option.map (fun p : Key × V => p.2) (kvs.find? fun kv => decide (kv.1 = (Sum.inr z : Key))) = some x := q
    obtain ⟨p, hp, rfl⟩ := Option.map_eq_some_iff.mp h2
    obtain ⟨z2, n, ep, _, n1, n2⟩ := h p (List.mem_of_find?_eq_some hp)
    rw [ep]
    exact ⟨z, n, rfl, hz, rfl, n1, n2⟩
def spIsValue : Sp := fun vs H Q _ => ∃ (d : Addr) (zs : List Str) (kvs : List (Key × V)), vs = [.ref d] ∧ H d = some (.dK kvs) ∧ ValOk zs kvs ∧ ∀ H', Same H H' → Q (.bl true) H'
def spNeedValue : Sp := fun vs H Q _ => ∃ (d : Addr) (zs : List Str) (kvs : List (Key × V)), vs = [.ref d] ∧ H d = some (.dK kvs) ∧ ValOk zs kvs ∧ ∀ H', Same H H' → Q .non H'
def spNeedRecord : Sp := fun vs H Q _ => ∃ (y : Str) (d : Addr) (zs : List Str) (kvs : List (Key × V)), vs = [.str y, .ref d] ∧ NameZ y ∧ H d = some (.dK kvs) ∧ ValOk zs kvs ∧ ∀ H', Same H H' → Q .non H'
section
variable {P : Program} {w : World} {K : PySem.W.Frag} {mg : Str → Option Value} {base : Heap}
theorem ok_isvalue {f fN fI : Addr} {fd fdN fdI : FuncData} {t1 t2 : Tok} (F : Fun K "is_value" "is_value" sIsValue f fd) (N : Fun K "is_name" "is_name" sIsName fN fdN) (bN : Binds K fdN ["value"] []) (gN : mg "is_name" = some (.ref fN))
    (GN : FnOk P w K mg base CX0 1 fN fdN ["value"] spIsName) (I : Fun K "is_integer" "is_integer" sIsInt fI fdI) (bI : Binds K fdI ["value", "low", "high"] []) (gI : mg "is_integer" = some (.ref fI)) (GI : FnOk P w K mg base CX0 1 fI fdI ["value", "low", "high"] spIsInt)
    (gM : mg "MOST_FIELDS" = some (.int 6 t1)) (gG : mg "GREATEST" = some (.int 999 t2)) (mi : mg "isinstance" = none) (md : mg "dict" = none) (ml : mg "len" = none) (ma : mg "all" = none) :
    FnOk P w K mg base CX0 2 f fd ["value"] spIsValue := by
  refine F.ok scIsValue (fun vs H Q E h => ?_) (fun cdv A outer s H vs Q E hr h => ?_)
  · obtain ⟨d, zs, kvs, rfl, _⟩ := h
    rfl
  · obtain ⟨d, zs, kvs, rfl, hd, hv, q⟩ := h
    have hu := hu_of hr
    refine ⟨_, pss_cons (ps_if (PW.pt (pw_or (pt_not (pt_val (pt_isi "dict" (pv 0) (hm := mi) (mn := md)))) (pw_or1 (pt_not (pt_chain op_le op_le pe_int (pe_callB call_lenD (by rfl) ml PySem.boot_len (pa_cons (pv 0) pa_nil)) (pe_glob (v := .int 6) rfl gM ⟨_, rfl⟩))))))
        (pss_one (ps_ret pe_bl)) pss_nil)
      (pss_one (ps_ret (pe_callB (cr_all rfl) (by rfl) ma (by decide +kernel) (pa_cons (pe_lock (pe_lc (own := [("field", 1)]) (g := gName 1) (tt := tYes) (by rfl) scIsValue.nd (pi_keys (pv 0))
        (blkOk_by (own := [("field", 1)]) (N := ["value", "field"]) (sc := defScope sIsValue) (by decide +kernel)) (fun _ _ _ _ _ => pg_name (i := 1) scIsValue.nd rfl (.inl rfl)) (fun _ _ _ _ _ => pts_nil)
        (fun _ _ _ _ _ => pe_and (pe_call GN hr rfl gN N.kp bN .nil pass0 (pa_cons (pv 1) pa_nil)) (pe_one (pe_call GI hr rfl gI I.kp bI .nil pass0 (pa_cons (pe_dget hu (pv 0) (pv 1) (fun _ _ => rfl))
          (pa_cons (pe_un un_neg (pe_glob (v := .int 999) rfl gG ⟨_, rfl⟩)) (pa_cons (pe_glob (v := .int 999) rfl gG ⟨_, rfl⟩) pa_nil)))))))) pa_nil)))), ?_⟩
    refine ⟨_, rfl, _, _, _, _, _, rfl, .ty _, .base (.dK hd), kit_ty (a := "dict") (b := "dict") (r := true) (by decide +kernel), _, rfl, iteF ?_⟩
    refine ⟨_, rfl, d, kvs, rfl, hd, ?_⟩
    have h1 := hv.pos
    have h6 := hv.six
    refine ⟨_, _, rfl, rfl, _, rfl, ?_⟩
    rw [decide_eq_true (show (1 : Int) ≤ (kvs.length : Int) by omega)]
    refine iteT ⟨_, _, rfl, rfl, _, rfl, ?_⟩
    rw [decide_eq_true (show (kvs.length : Int) ≤ 6 by omega)]
    refine iteF ?_
    refine ⟨d, _, hd, trivial, fun od => ?_⟩
    refine ⟨_, rfl, d, od, rfl, .inl ⟨kvs, upd_same, fun D hD => ?_⟩⟩
    have ndD : d ≠ D := fun z => by
      rw [← z, upd_same] at hD
      cases hD
    have fD : H D = none := (upd_ne ndD.symm).symm.trans hD
    refine lc_it walk_keys (fun i H2 => But d H H2 ∧ H2 d = some (.frz od (.dK kvs)) ∧ H2 D = some (.lst ((List.replicate i true).map V.bl))) ?_ ?_ ?_ ?_
    · exact ⟨but_upd But.upd fD, (upd_ne ndD).trans upd_same, upd_same⟩
    · exact fun _ _ _ h => h.2.1
    · rintro i x H2 H3 hi ⟨b2, d2, e2⟩ ⟨rfl, k, v, hk, rfl⟩
      obtain ⟨z, n, rfl, hz, hn, n1, n2⟩ := valV_of hv.is hk
      refine ⟨rfl, ?_⟩
      unfold tYes
      dsimp only
      rw [if_pos rfl]
      refine ⟨_, rfl, z, rfl, hv.nm z hz, fun H4 s4 => ⟨_, rfl, iteT ?_⟩⟩
      have d4 := s4 _ _ d2
      have e4 := s4 _ _ e2
      refine ⟨_, rfl, _, rfl, d, .int n, rfl, .inl ⟨kvs, Sum.inr z, .inr ⟨od, d4⟩, rfl, hn.symm⟩, _, rfl, n, -999, 999, rfl, ?_⟩
      rw [decide_eq_true n1, decide_eq_true n2]
      refine ⟨_, e4, ?_, ?_, ?_, ?_⟩
      · rw [List.length_map, List.length_replicate]
        exact small1000 (by omega)
      · exact but_upd (b2.trans (But.same s4)) fD
      · exact (upd_ne ndD).trans d4
      · rw [upd_same, List.replicate_succ', List.map_append]
        rfl
    · rintro H2 ⟨b2, d2, e2⟩
      refine ⟨d2, D, _, rfl, .of ((upd_ne ndD.symm).trans e2), ?_⟩
      have ha : (List.replicate kvs.length true).all id = true := by
        rw [List.all_eq_true]
        intro x hx
        rw [(List.mem_replicate.mp hx).2]
        rfl
      rw [ha]
      refine q _ fun c o e => ?_
      by_cases hc : c = d
      · rw [hc] at e ⊢
        rw [hd] at e
        rw [← e]
        exact upd_same
      · rw [upd_ne hc]
        exact b2 c o hc e
theorem ok_needvalue {f fI : Addr} {fd fdI : FuncData} (F : Fun K "need_value" "need_value" sNeedValue f fd) (I : Fun K "is_value" "is_value" sIsValue fI fdI) (bI : Binds K fdI ["value"] []) (gI : mg "is_value" = some (.ref fI))
    (GI : FnOk P w K mg base CX0 2 fI fdI ["value"] spIsValue) : FnOk P w K mg base CX0 3 f fd ["value"] spNeedValue := by
  refine F.ok scNeedValue (fun vs H Q E h => ?_) (fun cdv A outer s H vs Q E hr h => ?_)
  · obtain ⟨d, zs, kvs, rfl, _⟩ := h
    rfl
  · obtain ⟨d, zs, kvs, rfl, hd, hv, q⟩ := h
    refine ⟨_, pss_one (ps_if (pt_not (pt_val (pe_call GI hr rfl gI I.kp bI .nil pass0 (pa_cons (pv 0) pa_nil)))) (pss_one ps_never) pss_nil), ?_⟩
    exact ⟨_, rfl, d, zs, kvs, rfl, hd, hv, fun H' s' => ⟨_, rfl, iteF (q H' s')⟩⟩
theorem ok_needrecord {f fN fV : Addr} {fd fdN fdV : FuncData} (F : Fun K "need_record" "need_record" sNeedRecord f fd) (kN : PySem.W.keepIn K (.ref fN) = true) (bN : Binds K fdN ["value"] []) (gN : mg "need_name" = some (.ref fN)) (GN : FnOk P w K mg base CX0 2 fN fdN ["value"] spNeedName)
    (kV : PySem.W.keepIn K (.ref fV) = true) (bV : Binds K fdV ["value"] []) (gV : mg "need_value" = some (.ref fV)) (GV : FnOk P w K mg base CX0 3 fV fdV ["value"] spNeedValue) : FnOk P w K mg base CX0 4 f fd ["key", "value"] spNeedRecord := by
  refine F.ok scNeedRecord (fun vs H Q E h => ?_) (fun cdv A outer s H vs Q E hr h => ?_)
  · obtain ⟨y, d, zs, kvs, rfl, _⟩ := h
    rfl
  · obtain ⟨y, d, zs, kvs, rfl, hy, hd, hv, q⟩ := h
    refine ⟨_, pss_cons (ps_expr (pe_call GN (hr.mono (by decide)) rfl gN kN bN .nil pass0 (pa_cons (pv 0) pa_nil))) (pss_one (ps_expr (pe_call GV hr rfl gV kV bV .nil pass0 (pa_cons (pv 1) pa_nil)))), ?_⟩
    exact ⟨_, rfl, y, rfl, hy, fun H1 s1 => ⟨_, rfl, d, zs, kvs, rfl, s1 _ _ hd, hv, fun H2 s2 => q H2 (s1.trans s2)⟩⟩
end
end G
set_option Elab.async false
set_option linter.all false
set_option maxRecDepth 100000
set_option maxHeartbeats 2000000
/-! P4: a Between asked. -/
namespace G
open PySem PySem.Spec PyProof.Rows L2 NdefX
abbrev sBtw (j : Nat) : Stmt := inClass (topS 37) j
theorem scOne (j : Nat) (h : FnScope ["self"] ["self"] (defScope (sBtw j))) : FnScope ["self"] ["self"] (defScope (sBtw j)) := h
theorem scBtw1 : FnScope ["self"] ["self"] (defScope (sBtw 1)) := ⟨rfl, rfl, rfl, by decide +kernel, rfl, by decide +kernel, by decide +kernel⟩
theorem scBtw2 : FnScope ["self"] ["self"] (defScope (sBtw 2)) := ⟨rfl, rfl, rfl, by decide +kernel, rfl, by decide +kernel, by decide +kernel⟩
theorem scBtw3 : FnScope ["self"] ["self"] (defScope (sBtw 3)) := ⟨rfl, rfl, rfl, by decide +kernel, rfl, by decide +kernel, by decide +kernel⟩
theorem scBtw4 : FnScope ["self", "key", "value"] ["self", "key", "value"] (defScope (sBtw 4)) := ⟨rfl, rfl, rfl, by decide +kernel, rfl, by decide +kernel, by decide +kernel⟩
theorem scBtw5 : FnScope ["self", "key", "value"] ["self", "key", "value"] (defScope (sBtw 5)) := ⟨rfl, rfl, rfl, by decide +kernel, rfl, by decide +kernel, by decide +kernel⟩
theorem scBtw6 : FnScope ["self"] ["self"] (defScope (sBtw 6)) := ⟨rfl, rfl, rfl, by decide +kernel, rfl, by decide +kernel, by decide +kernel⟩
theorem scBtw7 : FnScope ["self"] ["self"] (defScope (sBtw 7)) := ⟨rfl, rfl, rfl, by decide +kernel, rfl, by decide +kernel, by decide +kernel⟩
/-- at a stands Between(z, low=lo, high=hi) -/
def BtwAt (C : Addr) (H : Hp) (a : Addr) (z : Str) (lo hi : Int) : Prop := ∃ dx, H a = some (.ins C dx (btwFs z lo hi))
/-- whether it holds -/
def btwHolds (z : Str) (lo hi : Int) (kvs : List (Key × V)) : Bool := match valV kvs (Sum.inr z) with
  | some (.int n) => decide (lo ≤ n) && decide (n ≤ hi)
  | _ => false
theorem valV_int {zs : List Str} {kvs : List (Key × V)} (h : ValN zs kvs) (k : Key) : valV kvs k = none ∨ ∃ n, valV kvs k = some (.int n) := by
  cases q : valV kvs k with
  | none => exact .inl rfl
  | some x =>
    have h2 : Option.map (fun p : Key × V => p.2) (kvs.find? fun kv => decide (kv.1 = k)) = some x := q
    obtain ⟨p, hp, rfl⟩ := Option.map_eq_some_iff.mp h2
    obtain ⟨z2, n, ep, _, n1, n2⟩ := h p (List.mem_of_find?_eq_some hp)
    exact .inr ⟨n, by rw [ep]⟩
def spBtwField (C : Addr) : Sp := fun vs H Q _ => ∃ (a : Addr) (z : Str) (lo hi : Int), vs = [.ref a] ∧ BtwAt C H a z lo hi ∧ Q (.str z) H
def spBtwLow (C : Addr) : Sp := fun vs H Q _ => ∃ (a : Addr) (z : Str) (lo hi : Int), vs = [.ref a] ∧ BtwAt C H a z lo hi ∧ Q (.int lo) H
def spBtwHigh (C : Addr) : Sp := fun vs H Q _ => ∃ (a : Addr) (z : Str) (lo hi : Int), vs = [.ref a] ∧ BtwAt C H a z lo hi ∧ Q (.int hi) H
def spBtwOne (C : Addr) : Sp := fun vs H Q _ => ∃ (a : Addr) (z : Str) (lo hi : Int), vs = [.ref a] ∧ BtwAt C H a z lo hi ∧ Q (.int 1) H
def spBtwHolds (C : Addr) : Sp := fun vs H Q _ => ∃ (a d : Addr) (y z : Str) (lo hi : Int) (zs : List Str) (kvs : List (Key × V)), vs = [.ref a, .str y, .ref d] ∧ BtwAt C H a z lo hi ∧ H d = some (.dK kvs) ∧ ValN zs kvs ∧ Q (.bl (btwHolds z lo hi kvs)) H
def spBtwCall (C : Addr) : Sp := fun vs H Q _ => ∃ (a d : Addr) (y z : Str) (lo hi : Int) (zs : List Str) (kvs : List (Key × V)), vs = [.ref a, .str y, .ref d] ∧ BtwAt C H a z lo hi ∧ NameZ y ∧ H d = some (.dK kvs) ∧ ValOk zs kvs ∧
  ∀ H', Same H H' → Q (.bl (btwHolds z lo hi kvs)) H'
section
variable {P : Program} {w : World} {K : PySem.W.Frag} {mg : Str → Option Value} {base : Heap} {f C : Addr} {fd : FuncData}
theorem ok_btwfield (F : Fun K "field" "Between.field" (sBtw 1) f fd) (c : Cls K C) (n : NoAttr K C "field_name") : FnOk P w K mg base CX0 1 f fd ["self"] (spBtwField C) := by
  refine F.ok scBtw1 (fun vs H Q E h => ?_) (fun cdv A outer s H vs Q E hr h => ?_)
  · obtain ⟨a, z, lo, hi, rfl, _⟩ := h
    rfl
  · obtain ⟨a, z, lo, hi, rfl, ⟨dx, ha⟩, q⟩ := h
    exact ⟨_, pss_one (ps_ret (pe_fld (pv 0) rfl)), _, rfl, a, C, dx, _, _, rfl, ha, c, n, rfl, q⟩
theorem ok_btwlow (F : Fun K "low" "Between.low" (sBtw 2) f fd) (c : Cls K C) (n : NoAttr K C "lowest") : FnOk P w K mg base CX0 1 f fd ["self"] (spBtwLow C) := by
  refine F.ok scBtw2 (fun vs H Q E h => ?_) (fun cdv A outer s H vs Q E hr h => ?_)
  · obtain ⟨a, z, lo, hi, rfl, _⟩ := h
    rfl
  · obtain ⟨a, z, lo, hi, rfl, ⟨dx, ha⟩, q⟩ := h
    exact ⟨_, pss_one (ps_ret (pe_fld (pv 0) rfl)), _, rfl, a, C, dx, _, _, rfl, ha, c, n, rfl, q⟩
theorem ok_btwhigh (F : Fun K "high" "Between.high" (sBtw 3) f fd) (c : Cls K C) (n : NoAttr K C "highest") : FnOk P w K mg base CX0 1 f fd ["self"] (spBtwHigh C) := by
  refine F.ok scBtw3 (fun vs H Q E h => ?_) (fun cdv A outer s H vs Q E hr h => ?_)
  · obtain ⟨a, z, lo, hi, rfl, _⟩ := h
    rfl
  · obtain ⟨a, z, lo, hi, rfl, ⟨dx, ha⟩, q⟩ := h
    exact ⟨_, pss_one (ps_ret (pe_fld (pv 0) rfl)), _, rfl, a, C, dx, _, _, rfl, ha, c, n, rfl, q⟩
theorem ok_btwleaves (F : Fun K "leaves" "Between.leaves" (sBtw 6) f fd) (c : Cls K C) (n : NoAttr K C "leaf_count") : FnOk P w K mg base CX0 1 f fd ["self"] (spBtwOne C) := by
  refine F.ok scBtw6 (fun vs H Q E h => ?_) (fun cdv A outer s H vs Q E hr h => ?_)
  · obtain ⟨a, z, lo, hi, rfl, _⟩ := h
    rfl
  · obtain ⟨a, z, lo, hi, rfl, ⟨dx, ha⟩, q⟩ := h
    exact ⟨_, pss_one (ps_ret (pe_fld (pv 0) rfl)), _, rfl, a, C, dx, _, _, rfl, ha, c, n, rfl, q⟩
theorem ok_btwdepth (F : Fun K "depth" "Between.depth" (sBtw 7) f fd) (c : Cls K C) (n : NoAttr K C "height") : FnOk P w K mg base CX0 1 f fd ["self"] (spBtwOne C) := by
  refine F.ok scBtw7 (fun vs H Q E h => ?_) (fun cdv A outer s H vs Q E hr h => ?_)
  · obtain ⟨a, z, lo, hi, rfl, _⟩ := h
    rfl
  · obtain ⟨a, z, lo, hi, rfl, ⟨dx, ha⟩, q⟩ := h
    exact ⟨_, pss_one (ps_ret (pe_fld (pv 0) rfl)), _, rfl, a, C, dx, _, _, rfl, ha, c, n, rfl, q⟩
theorem ok_btwholds (F : Fun K "holds" "Between.holds" (sBtw 5) f fd) (c : Cls K C) (n1 : NoAttr K C "field_name") (n2 : NoAttr K C "lowest") (n3 : NoAttr K C "highest") : FnOk P w K mg base CX0 1 f fd ["self", "key", "value"] (spBtwHolds C) := by
  refine F.ok scBtw5 (fun vs H Q E h => ?_) (fun cdv A outer s H vs Q E hr h => ?_)
  · obtain ⟨a, d, y, z, lo, hi, zs, kvs, rfl, _⟩ := h
    rfl
  · obtain ⟨a, d, y, z, lo, hi, zs, kvs, rfl, ⟨dx, ha⟩, hd, hv, q⟩ := h
    have hu := hu_of hr
    refine ⟨_, pss_one (ps_ret (pe_and (pe_cmp (pc_din hu (pe_fld (pv 0) rfl) (pv 2)) rfl) (pe_one (pe_chain op_le op_le (pe_fld (pv 0) rfl) (pe_dget hu (pv 2) (pe_fld (pv 0) rfl) (fun _ _ => rfl)) (pe_fld (pv 0) rfl))))), ?_⟩
    refine ⟨_, rfl, a, C, dx, _, _, rfl, ha, c, n1, rfl, _, rfl, d, _, rfl, DGet.k (k := Sum.inr z) hd, _, rfl, ?_⟩
    unfold btwHolds at q
    rcases valV_int hv (Sum.inr z) with e | ⟨n, e⟩
    · rw [e] at q ⊢
      exact iteF q
    · rw [e] at q ⊢
      replace q : Q (.bl (decide (lo ≤ n) && decide (n ≤ hi))) H := q
      refine iteT ?_
      refine ⟨_, rfl, a, C, dx, _, _, rfl, ha, c, n2, rfl, _, rfl, _, rfl, a, C, dx, _, _, rfl, ha, c, n1, rfl, d, _, rfl, by rw [← e]; exact DGet.k (k := Sum.inr z) hd, _, _, rfl, rfl, _, rfl, ?_⟩
      cases e2 : decide (lo ≤ n) with
      | false =>
        refine iteF ?_
        rw [e2] at q
        exact q
      | true =>
        refine iteT ?_
        rw [e2] at q
        exact ⟨_, rfl, a, C, dx, _, _, rfl, ha, c, n3, rfl, _, _, rfl, rfl, q⟩
theorem ok_btwcall {fR fH : Addr} {fdR fdH : FuncData} (F : Fun K "__call__" "Between.__call__" (sBtw 4) f fd) (c : Cls K C) (kR : PySem.W.keepIn K (.ref fR) = true) (bR : Binds K fdR ["key", "value"] []) (gR : mg "need_record" = some (.ref fR))
    (GR : FnOk P w K mg base CX0 4 fR fdR ["key", "value"] spNeedRecord) (hm : Meth K C "holds" fH) (bH : Binds K fdH ["self", "key", "value"] []) (GH : FnOk P w K mg base CX0 1 fH fdH ["self", "key", "value"] (spBtwHolds C)) :
    FnOk P w K mg base CX0 5 f fd ["self", "key", "value"] (spBtwCall C) := by
  refine F.ok scBtw4 (fun vs H Q E h => ?_) (fun cdv A outer s H vs Q E hr h => ?_)
  · obtain ⟨a, d, y, z, lo, hi, zs, kvs, rfl, _⟩ := h
    rfl
  · obtain ⟨a, d, y, z, lo, hi, zs, kvs, rfl, ⟨dx, ha⟩, hy, hd, hv, q⟩ := h
    refine ⟨_, pss_cons (ps_expr (pe_call GR hr rfl gR kR bR .nil pass0 (pa_cons (pv 1) (pa_cons (pv 2) pa_nil))))
      (pss_one (ps_ret (pe_meth (pv 0) c hm GH (hr.mono (by decide)) bH .nil pass0 (pa_cons (pv 1) (pa_cons (pv 2) pa_nil))))), ?_⟩
    refine ⟨_, rfl, _, rfl, y, d, zs, kvs, rfl, hy, hd, hv, fun H1 s1 => ?_⟩
    exact ⟨_, rfl, a, dx, _, rfl, s1 _ _ ha, rfl, _, rfl, _, rfl, a, d, y, z, lo, hi, zs, kvs, rfl, ⟨dx, s1 _ _ ha⟩, s1 _ _ hd, hv.is, q H1 s1⟩
end
end G
set_option Elab.async false
set_option linter.all false
set_option maxRecDepth 100000
set_option maxHeartbeats 2000000
/-! P5: a method that captures __class__ and has *names; Named made. -/
namespace G
open PySem PySem.Spec PyProof.Rows L2 NdefX StX
section
variable {CX : CXT} {P : Program} {w : World} {K : PySem.W.Frag} {mg : Str → Option Value} {base : Heap} {k : Nat} {f cda cc : Addr} {name qual : Str} {params : Arguments} {body : List Stmt} {scope : Scope} {dV kV doc pm ct oc : Value} {an od : Option Addr}
  {osl : Array (Option Value)} {N ps : List Str} {sp : Sp}
theorem cell_one {A : Around} {outer : List Env} {s : Shared} {H : Hp} (e0 : Env0 P w K mg base A outer s H) (hcell : ∃ oc od sl v, K.lookup cc = some ⟨oc, od, .cell v, sl⟩) : CellsAt [(("__class__" : Str), cc)] ["__class__"] [none] s.heap H := by
  have inK : K.In s.heap := e0.mod.kin.keeps fun b o e => (e0.bs b o e).1
  obtain ⟨oc3, od3, sl3, v3, lk3⟩ := hcell
  have one : ∀ {y : Str} {c : Addr}, List.lookup y [(("__class__" : Str), cc)] = some c → y = "__class__" ∧ c = cc := fun {y c} z => by
    have z2 := PySem.mem_of_lookup z
    rw [List.mem_singleton] at z2
    exact ⟨congrArg Prod.fst z2, congrArg Prod.snd z2⟩
  refine ⟨rfl, fun y c z => ?_, fun y y' c z z' => (one z).1.trans (one z').1.symm, fun i y z => ?_⟩
  · obtain ⟨_, rfl⟩ := one z
    exact ⟨(e0.bs _ _ (e0.mod.kin _ _ lk3)).2, v3, _, inK _ _ lk3, rfl⟩
  · have hy : y = "__class__" := by
      have z2 := List.mem_of_getElem? z
      rw [List.mem_singleton] at z2
      exact z2
    subst hy
    refine ⟨cc, by simp [List.lookup], fun v z => ?_⟩
    cases i with
    | zero => cases z
    | succ j => cases z
theorem run_bndx {A : Around} {outer : List Env} {s : Shared} {H : Hp} {args : Args} {Q : VK} {E : XK} {G : List V → Hp → Prop} (lk : K.lookup f = some ⟨oc, od, .func (PySem.W.ksFn name qual params body scope dV kV doc pm an (.ref cda) ct cc), osl⟩)
    (hcd : PySem.W.codeIn K (.ref cda) qual = true) (hcell : ∃ oc od sl v, K.lookup cc = some ⟨oc, od, .cell v, sl⟩) (S : NScope N ps ["__class__"] scope) (hr : Room (k + 1) A) (e0 : Env0 P w K mg base A outer s H)
    (hb : Bnd CX P w K mg base (PySem.W.ksFn name qual params body scope dV kV doc pm an (.ref cda) ct cc) args ps A outer s H E G)
    (hbody : ∀ (s2 : Shared) (H2 : Hp) (vs : List V), G vs H2 → Room k (A.deeper (envF ⟨name, qual, params, body, scope, [("__class__", cc)], cda⟩ f s2.heap.objs.size)) →
      ∃ t, PSsa (ncx CX P w K mg base N ⟨name, qual, params, body, scope, [("__class__", cc)], cda⟩ f A outer s2 H2 E) body body t ∧ t { nx := fun _ H' => Q .non H', rt := Q } (startF N vs [none]) H2) :
    codeAny (model P w) A (.call (.ref f) args) (CR CX outer P w H s Q E) s := by
  have inK : K.In s.heap := e0.mod.kin.keeps fun b o e => (e0.bs b o e).1
  refine codeAny_call_function hr.depth (inK _ _ lk) rfl S.co S.gen rfl (PySem.W.codeRec_of inK hcd) ?_
  refine hb _ _ _ fun s2 H2 vs us e2 un ho hx r hl g => ?_
  have lim : s2.heap.NoLimit := e0.mod.nolimit.keeps fun b o e => (e2.bs b o e).1
  refine wpAny_newFunctionEnv (s := s2) S.nocell (fun y hy => S.par y.1 (List.of_mem_zip hy).1) (fun h₁ hns hsb => ⟨lim.fresh _ hsb, ?_⟩) S.kind
  show codeAny _ _ (.func body (envF ⟨name, qual, params, body, scope, [("__class__", cc)], cda⟩ f s2.heap.objs.size)) _ _
  refine ks_codeAny_funcAt ?_
  have kp : ∀ b o, s2.heap.get? b = some o → h₁.get? b = some o := fun b o e => hsb.extBut b o (Nat.ne_of_lt (Heap.lt_size e)) (Heap.get?_push_of_some _ e)
  obtain ⟨t, ht, hq⟩ := hbody s2 H2 vs g (hr.deeper _)
  have I : Inv (ncx CX P w K mg base N ⟨name, qual, params, body, scope, [("__class__", cc)], cda⟩ f A outer s2 H2 E) [] (startF N vs [none]) H2 { s2 with heap := h₁, toks := s2.toks + (ps.zip us).length } := inv_startN S hr.hd e2 hl r (cell_one e2 hcell) hns kp
  refine ks_wpAt_mono (ht.run [] _ _ _ _ I hq) (fun fl s' hs => ?_) fun e s' hs => ?_
  · have fin : ∀ {σ' : L2.St} {H' : Hp} {v' : V} {u' : Value}, Inv (ncx CX P w K mg base N ⟨name, qual, params, body, scope, [("__class__", cc)], cda⟩ f A outer s2 H2 E) [] σ' H' s' → L2.RelV v' u' → Q v' H' → CE outer P w H s Q u' s' :=
      fun {σ' H' v' u'} J rv' q => ⟨v', H', J.os.trans ho, J.bare, un.trans J.base, J.hok, rv', q⟩
    cases fl with
    | ret u' =>
      obtain ⟨v', σ', H', J, rv', q⟩ := hs
      exact fin J rv' q
    | next =>
      obtain ⟨σ', H', J, q⟩ := hs
      exact fin (v' := V.non) (u' := Value.none) J rfl q
    | brk =>
      obtain ⟨_, _, _, q⟩ := hs
      exact False.elim q
    | cont =>
      obtain ⟨_, _, _, q⟩ := hs
      exact False.elim q
  · exact wpAny_mono hs (fun _ s'' z => hx e s'' z) fun e' s'' z => hx e' s'' z
theorem fnx_star {pv : Str} (lk : K.lookup f = some ⟨oc, od, .func (PySem.W.ksFn name qual params body scope dV kV doc pm an (.ref cda) ct cc), osl⟩) (hcd : PySem.W.codeIn K (.ref cda) qual = true) (hcell : ∃ oc od sl v, K.lookup cc = some ⟨oc, od, .cell v, sl⟩)
    (S : NScope N (ps ++ [pv]) ["__class__"] scope) (hCX : CXUp CX)
    (hb : ∀ us rest : List Value, us.length = ps.length → bindArgs (PySem.W.ksFn name qual params body scope dV kV doc pm an (.ref cda) ct cc) ⟨us ++ rest, []⟩ = (newTuple rest >>= fun t => pure (ps.zip us ++ [(pv, t)])))
    (hbody : ∀ (A : Around) (outer : List Env) (s : Shared) (H : Hp) (vs : List V) (Q : VK) (E : XK), Room k (A.deeper (envF ⟨name, qual, params, body, scope, [("__class__", cc)], cda⟩ f s.heap.objs.size)) → sp vs H Q E →
      ∃ t, PSsa (ncx CX P w K mg base N ⟨name, qual, params, body, scope, [("__class__", cc)], cda⟩ f A outer s H E) body body t ∧ t { nx := fun _ H' => Q .non H', rt := Q } (startF N vs [none]) H) :
    FnR P w K mg base CX (k + 1) f (fun vs H Q E => ∃ ws rest, vs = ws ++ rest ∧ ws.length = ps.length ∧ rest.length ≤ sizeLine ∧ ∀ p, H p = Option.none → sp (ws ++ [V.ref p]) (upd H p (.tup rest)) Q E) := by
  intro A outer s H us vs Q E hr e0 r hsp
  obtain ⟨ws, rest, rfl, hl, hz, hq⟩ := hsp
  obtain ⟨u1, u2, rfl, r1, r2⟩ := vals_split r
  have hn : H s.heap.objs.size = Option.none := e0.hok.fresh (Nat.le_refl _)
  have hl1 : u1.length = ps.length := by rw [← r1.length]; exact hl
  have hl2 : u2.length ≤ sizeLine := by rw [← r2.length]; exact hz
  refine run_bndx lk hcd hcell S hr e0 (G := fun xs H2 => ∃ p, H p = Option.none ∧ xs = ws ++ [V.ref p] ∧ H2 = upd H p (.tup rest)) (fun A' Ex Q' h => ?_) fun s2 H2 xs g hr' => ?_
  · rw [hb u1 u2 hl1]
    have new : ObjOk P w (upd H s.heap.objs.size (.tup rest)) (s.heap.push ({ cls := .type "tuple", data := .seq u2.toArray } : Obj)) s.heap.objs.size (.tup rest) := ⟨hz, u2, r2, ⟨_, Heap.get?_push_size _ rfl, rfl, _, rfl⟩⟩
    have un := un_laid (fs := frs outer) (s := s) (o := ({ cls := .type "tuple", data := .seq u2.toArray } : Obj)) (u := .tup rest) hn
    have z := h _ _ (ws ++ [V.ref s.heap.objs.size]) (u1 ++ [Value.ref s.heap.objs.size]) (env0_laid e0 new) un rfl (fun e s' => hCX outer s H _ _ E e s' un (fun b o q => Heap.get?_push_of_some _ q) rfl) (r1.append (.cons rfl .nil))
      (by rw [List.length_append, List.length_append, hl] <;> rfl) ⟨_, hn, rfl, rfl⟩
    rw [List.zip_append hl1.symm] at z
    exact wpAny_bind (wpAny_newTuple (wpAny_pure z) hl2)
  · obtain ⟨p, hp, rfl, rfl⟩ := g
    exact hbody A outer s2 _ _ Q E hr' (hq p hp)
end
/-! ### Named -/
abbrev sNamInit : Stmt := inClass (topS 38) 0
abbrev nNam : List Str := ["self", "names", "__class__", "name"]
theorem scNamInit : NScope nNam ([("self" : Str)] ++ [("names" : Str)]) ["__class__"] (defScope sNamInit) := nscope_by (by decide +kernel)
def namFs (t : Addr) : List (Str × V) := [("leaf_count", .int 1), ("height", .int 1), ("name_count", .int 0), ("accepted_names", .ref t)]
/-- the fields with n names -/
def namF (n : Nat) (t : Addr) : List (Str × V) := [("leaf_count", .int 1), ("height", .int 1), ("name_count", .int (n : Nat)), ("accepted_names", .ref t)]
def spNam (C : Addr) : Sp := fun vs H Q _ => ∃ (a dx t : Addr) (zs : List Str), vs = [.ref a, .ref t] ∧ H a = some (.ins C dx []) ∧ H t = some (.tup (zs.map V.str)) ∧ zs.length ≤ 8 ∧ (∀ z ∈ zs, NameZ z) ∧
  ∀ H', Same (upd H a (.ins C dx [("leaf_count", .int 1), ("height", .int 1), ("name_count", .int (zs.length : Nat))])) H' → Q .non (upd H' a (.ins C dx (namF zs.length t)))
section
variable {P : Program} {w : World} {K : PySem.W.Frag} {mg : Str → Option Value} {base : Heap}
theorem ok_naminit {f cda cc C f2 fN : Addr} {kV : Value} {fd fdN fdC : FuncData} (F : FunX K "__init__" "Named.__init__" sNamInit f cda cc kV fd) (S : SupOf P K f cda cc C C f2 "self") (c : Cls K C) (n1 : NoAttr K C "accepted_names")
    (GN : FnOk P w K mg base CX0 2 fN fdN ["value"] spNeedName) (gN : mg "need_name" = some (.ref fN)) (kN : PySem.W.keepIn K (.ref fN) = true) (bN : Binds K fdN ["value"] [])
    (GC : FnOk P w K mg base CX0 1 f2 fdC ["self", "leaf_count", "height", "name_count"] (spCond C)) (bC : Binds K fdC ["self", "leaf_count", "height", "name_count"] []) (ms : mg "super" = none) (ml : mg "len" = none) :
    FnR P w K mg base CX0 3 f (fun vs H Q E => ∃ ws rest, vs = ws ++ rest ∧ ws.length = ["self"].length ∧ rest.length ≤ sizeLine ∧ ∀ p, H p = Option.none → spNam C (ws ++ [V.ref p]) (upd H p (.tup rest)) Q E) := by
  obtain ⟨oc, od, doc, pm, an, ct, osl, rfl, lk, hcd⟩ := F.ex
  refine fnx_star (ps := ["self"]) (pv := "names") (k := 2) lk hcd F.cell scNamInit cxUp_none (fun us rest hl => match us, rest, hl with | [_], [], _ => rfl | [_], _ :: _, _ => rfl) (fun A outer s H vs Q E hr h => ?_)
  obtain ⟨a, dx, t, zs, rfl, ha, ht, h8, hz, q⟩ := h
  have hr1 := hr.mono (show 1 ≤ 2 by decide)
  refine ⟨_, pssa_cons (psa_super (i := 0) S (GC.raw bC .nil) hr1 pass0 rfl rfl rfl rfl rfl rfl ms rfl (pa_cons pe_int (pa_cons pe_int (pa_cons (pe_callB call_len_seq (by rfl) ml PySem.boot_len (pa_cons (pv 1) pa_nil)) pa_nil))))
    (pssa (pss_cons (ps_for PassesOwn.leaving rfl (pi_tup (pv 1)) (pg_name (i := 3) scNamInit.nd rfl (.inl rfl)) (pss_one (ps_expr (pe_call GN hr rfl gN kN bN .nil pass0 (pa_cons (pv 3) pa_nil)))))
      (pss_one (ps_fld (pv 0) (pv 1) rfl)))), ?_⟩
  have nat : t ≠ a := fun z => by
    rw [z, ha] at ht
    cases ht
  refine ⟨a, dx, [], rfl, ha, _, rfl, t, _, rfl, .inr (.of ht), a, dx, 1, 1, _, [], rfl, ha, by decide, by decide, by decide, by rw [List.length_map]; omega, ?_⟩
  rw [List.length_map]
  have ht1 : (upd H a (.ins C dx (putF "name_count" (.int (zs.length : Nat)) (putF "height" (.int 1) (putF "leaf_count" (.int 1) []))))) t = some (.tup (zs.map V.str)) := (upd_ne nat).trans ht
  refine ⟨_, rfl, t, rfl, ⟨_, .of ht1⟩, ?_⟩
  refine for_tup (xs := zs.map V.str) (fun i σ H2 => ∃ x3 : Option V, σ = [some (.ref a), some (.ref t), none, x3] ∧ Same (upd H a (.ins C dx [("leaf_count", .int 1), ("height", .int 1), ("name_count", .int (zs.length : Nat))])) H2) ?_ ?_ ?_ ?_
  · exact ⟨none, rfl, Same.refl _⟩
  · rintro i σ H2 _ ⟨x3, rfl, s2⟩
    exact .of (s2 _ _ ht1)
  · rintro i x σ H2 hx ⟨x3, rfl, s2⟩
    rw [List.getElem?_map] at hx
    obtain ⟨y, hy, rfl⟩ := Option.map_eq_some_iff.mp hx
    exact ⟨_, rfl, y, rfl, hz y (List.mem_of_getElem? hy), fun H3 s3 => ⟨_, rfl, s2.trans s3⟩⟩
  · rintro σ H2 ⟨x3, rfl, s2⟩
    exact ⟨_, rfl, _, rfl, a, C, dx, _, rfl, s2 _ _ upd_same, c, n1, (by show 3 < 1000; decide), q H2 s2⟩
end
end G
set_option Elab.async false
set_option linter.all false
set_option maxRecDepth 100000
set_option maxHeartbeats 2000000
/-! P6: a Named asked. -/
namespace G
open PySem PySem.Spec PyProof.Rows L2 NdefX
abbrev sNam (j : Nat) : Stmt := inClass (topS 38) j
theorem scNam1 : FnScope ["self"] ["self"] (defScope (sNam 1)) := ⟨rfl, rfl, rfl, by decide +kernel, rfl, by decide +kernel, by decide +kernel⟩
theorem scNam2 : FnScope ["self", "key", "value"] ["self", "key", "value"] (defScope (sNam 2)) := ⟨rfl, rfl, rfl, by decide +kernel, rfl, by decide +kernel, by decide +kernel⟩
theorem scNam3 : FnScope ["self", "key", "value"] ["self", "key", "value"] (defScope (sNam 3)) := ⟨rfl, rfl, rfl, by decide +kernel, rfl, by decide +kernel, by decide +kernel⟩
theorem scNam4 : FnScope ["self"] ["self"] (defScope (sNam 4)) := ⟨rfl, rfl, rfl, by decide +kernel, rfl, by decide +kernel, by decide +kernel⟩
theorem scNam5 : FnScope ["self"] ["self"] (defScope (sNam 5)) := ⟨rfl, rfl, rfl, by decide +kernel, rfl, by decide +kernel, by decide +kernel⟩
/-- at a stands Named(*zs), whose tuple is at t -/
def NamAt (C : Addr) (H : Hp) (a t : Addr) (zs : List Str) : Prop := ∃ dx, H a = some (.ins C dx (namF zs.length t)) ∧ H t = some (.tup (zs.map V.str))
theorem NamAt.same {C a t : Addr} {H H' : Hp} {zs : List Str} (h : NamAt C H a t zs) (s : Same H H') : NamAt C H' a t zs := let ⟨dx, h1, h2⟩ := h; ⟨dx, s _ _ h1, s _ _ h2⟩
def spNamAcc (C : Addr) : Sp := fun vs H Q _ => ∃ (a t : Addr) (zs : List Str), vs = [.ref a] ∧ NamAt C H a t zs ∧ Q (.ref t) H
def spNamOne (C : Addr) : Sp := fun vs H Q _ => ∃ (a t : Addr) (zs : List Str), vs = [.ref a] ∧ NamAt C H a t zs ∧ Q (.int 1) H
def spNamHolds (C : Addr) : Sp := fun vs H Q _ => ∃ (a d t : Addr) (y : Str) (zs : List Str), vs = [.ref a, .str y, .ref d] ∧ NamAt C H a t zs ∧ Q (.bl (inV (.str y) (zs.map V.str))) H
def spNamCall (C : Addr) : Sp := fun vs H Q _ => ∃ (a d t : Addr) (y : Str) (zs ws : List Str) (kvs : List (Key × V)), vs = [.ref a, .str y, .ref d] ∧ NamAt C H a t zs ∧ NameZ y ∧ H d = some (.dK kvs) ∧ ValOk ws kvs ∧
  ∀ H', Same H H' → Q (.bl (inV (.str y) (zs.map V.str))) H'
section
variable {P : Program} {w : World} {K : PySem.W.Frag} {mg : Str → Option Value} {base : Heap} {f C : Addr} {fd : FuncData}
theorem ok_namleaves (F : Fun K "leaves" "Named.leaves" (sNam 4) f fd) (c : Cls K C) (n : NoAttr K C "leaf_count") : FnOk P w K mg base CX0 1 f fd ["self"] (spNamOne C) := by
  refine F.ok scNam4 (fun vs H Q E h => ?_) (fun cdv A outer s H vs Q E hr h => ?_)
  · obtain ⟨a, t, zs, rfl, _⟩ := h
    rfl
  · obtain ⟨a, t, zs, rfl, ⟨dx, ha, _⟩, q⟩ := h
    exact ⟨_, pss_one (ps_ret (pe_fld (pv 0) rfl)), _, rfl, a, C, dx, _, _, rfl, ha, c, n, rfl, q⟩
theorem ok_namdepth (F : Fun K "depth" "Named.depth" (sNam 5) f fd) (c : Cls K C) (n : NoAttr K C "height") : FnOk P w K mg base CX0 1 f fd ["self"] (spNamOne C) := by
  refine F.ok scNam5 (fun vs H Q E h => ?_) (fun cdv A outer s H vs Q E hr h => ?_)
  · obtain ⟨a, t, zs, rfl, _⟩ := h
    rfl
  · obtain ⟨a, t, zs, rfl, ⟨dx, ha, _⟩, q⟩ := h
    exact ⟨_, pss_one (ps_ret (pe_fld (pv 0) rfl)), _, rfl, a, C, dx, _, _, rfl, ha, c, n, rfl, q⟩
theorem ok_namholds (F : Fun K "holds" "Named.holds" (sNam 3) f fd) (c : Cls K C) (n : NoAttr K C "accepted_names") : FnOk P w K mg base CX0 1 f fd ["self", "key", "value"] (spNamHolds C) := by
  refine F.ok scNam3 (fun vs H Q E h => ?_) (fun cdv A outer s H vs Q E hr h => ?_)
  · obtain ⟨a, d, t, y, zs, rfl, _⟩ := h
    rfl
  · obtain ⟨a, d, t, y, zs, rfl, ⟨dx, ha, ht⟩, q⟩ := h
    refine ⟨_, pss_one (ps_ret (pe_cmpR op_in_seq (pv 1) (pe_fld (pv 0) rfl) (by rfl))), ?_⟩
    refine ⟨_, rfl, _, rfl, a, C, dx, _, _, rfl, ha, c, n, rfl, t, _, rfl, .inr (.of ht), rfl, ?_, q⟩
    rw [List.all_eq_true]
    intro x hx
    obtain ⟨z, _, rfl⟩ := List.mem_map.mp hx
    rfl
theorem ok_namcall {fR fH : Addr} {fdR fdH : FuncData} (F : Fun K "__call__" "Named.__call__" (sNam 2) f fd) (c : Cls K C) (kR : PySem.W.keepIn K (.ref fR) = true) (bR : Binds K fdR ["key", "value"] []) (gR : mg "need_record" = some (.ref fR))
    (GR : FnOk P w K mg base CX0 4 fR fdR ["key", "value"] spNeedRecord) (hm : Meth K C "holds" fH) (bH : Binds K fdH ["self", "key", "value"] []) (GH : FnOk P w K mg base CX0 1 fH fdH ["self", "key", "value"] (spNamHolds C)) :
    FnOk P w K mg base CX0 5 f fd ["self", "key", "value"] (spNamCall C) := by
  refine F.ok scNam2 (fun vs H Q E h => ?_) (fun cdv A outer s H vs Q E hr h => ?_)
  · obtain ⟨a, d, t, y, zs, ws, kvs, rfl, _⟩ := h
    rfl
  · obtain ⟨a, d, t, y, zs, ws, kvs, rfl, hn, hy, hd, hv, q⟩ := h
    refine ⟨_, pss_cons (ps_expr (pe_call GR hr rfl gR kR bR .nil pass0 (pa_cons (pv 1) (pa_cons (pv 2) pa_nil))))
      (pss_one (ps_ret (pe_meth (pv 0) c hm GH (hr.mono (by decide)) bH .nil pass0 (pa_cons (pv 1) (pa_cons (pv 2) pa_nil))))), ?_⟩
    refine ⟨_, rfl, _, rfl, y, d, ws, kvs, rfl, hy, hd, hv, fun H1 s1 => ?_⟩
    obtain ⟨dx, ha, ht⟩ := hn.same s1
    exact ⟨_, rfl, a, dx, _, rfl, ha, rfl, _, rfl, _, rfl, a, d, t, y, zs, rfl, ⟨dx, ha, ht⟩, q H1 s1⟩
end
end G
set_option Elab.async false
set_option linter.all false
set_option maxRecDepth 100000
set_option maxHeartbeats 2000000
/-! P7: an instance called with keywords alone. -/
namespace G
open PySem PySem.Spec PyProof.Rows L2 NdefX StX
theorem callOK_of {M : Model} {A : Around} {E : Value → Shared → Prop} {s : Shared} {a : Addr} {pos : Pos} {Q : Value → Shared → Prop} {args : List (Bool × Sem Value)} {keywords : List (Option Str × Sem Value)}
    (plain : (args.any (·.1) || keywords.any (·.1.isNone)) = false)
    (h : wpAny M A (evalArgs (.ref a) true args keywords) (fun z s₁ => (∃ C ox od, PySem.W.InstAt s₁.heap a ox C od ∧ ox.data = .plain) ∧ wpAny M A (call (.ref a) ([] ++ z.pos) z.kw) Q E s₁) E s) :
    wpAny M A (callWith pos (.ref a) [] args keywords) Q E s := by
  unfold callWith
  refine wpAny_bind (wpAny_holding (wpAny_mono h (fun z s₁ hz => wpAny_bind (wpAny_standAt ?_)) fun _ _ y => y))
  obtain ⟨C, ox, od, J, hd⟩ := hz.1
  simp only [plain]
  refine wpAny_bind ((PySem.W.kco_keeper (M := M) J hd).here ?_)
  have fin : ∀ {t : Sem Value}, wpAny M A t Q E s₁ → wpAny M A (t >>= fun r => holding [r] point >>= fun _ => pure r) Q E s₁ := fun go =>
    wpAny_bind (wpAny_mono go (fun r s₂ hr => wpAny_bind (wpAny_holding (wpAny_point (wpAny_pure hr)))) fun _ _ y => y)
  exact fin (wpAny_operateT hz.2)
/-- x(k = v, ..), x a name that holds an instance of C -/
def tCallOK (X : Cx) (C : Addr) (m : Nat) (sp : Sp) (gV : List V → List V → List V) (E : XK) (tf : TE) (tk : TA) : TE := fun σ H Q => tf σ H fun y H1 => ∃ a, y = V.ref a ∧ tk σ H1 fun zs H2 => zs.length = m ∧ InsC X H2 a C ∧ sp (gV [V.ref a] zs) H2 Q E
theorem pe_callOK {X : Cx} {CX : CXT} {k : Nat} {C g0 : Addr} {fd : FuncData} {ps ks : List Str} {sp : Sp} {E : XK} {x : Str} {p pos : Pos} {kws : List Keyword} {tf : TE} {tk : TA} {g : List Value → List Value → List Value} {gV : List V → List V → List V}
    (hf : PE X (.Name x p) tf) (c : CallO X.K C g0) (F : FnOk X.prog X.w X.K X.mg X.base CX k g0 fd ps sp) (hr : Room k X.A) (hb : KBn X.K fd ps 1 ks g gV) (hx : Passes CX X E) (hkw : PK X kws tk)
    (hall : (backToKw pos (keywordEach kws X.env)).all (·.1.isSome) = true := by rfl) (hks : (backToKw pos (keywordEach kws X.env)).filterMap (·.1) = ks := by rfl)
    (hpl : ((backTo pos (starEach [] X.env)).any (·.1) || (backToKw pos (keywordEach kws X.env)).any (·.1.isNone)) = false := by rfl) :
    PE X (.Call (.Name x p) [] kws pos) (tCallOK X C ks.length sp gV E tf tk) := by
  refine ⟨fun pins s σ H Q I h => ?_⟩
  refine wpAny_Call_Name_kw (thn (hf.run pins s σ H _ I h) fun u s1 ⟨y, H1, I1, ry, a, ey, q⟩ => ?_)
  subst ey
  obtain rfl : u = Value.ref a := ry
  refine callOK_of hpl (evalArgs_kw2_nil hall (thn (hkw.run pos pins s1 σ H1 _ I1 q) fun ws s2 ⟨zs, H2, I2, rz, l2, hi, q2⟩ => ?_))
  obtain ⟨ox, od, J, hd⟩ := insC_at I2 hi
  refine ⟨⟨C, ox, od, J, hd⟩, ?_⟩
  rw [hks]
  have r1 : Vals [V.ref a] [Value.ref a] := .cons rfl .nil
  have r2 := hb.rel r1 rz
  refine wpAny_call (PySem.W.kco_code I2.kIn J hd c.at_ c.fn c.fi (codeAny_mono (F.run X.A X.stack s2 H2 ⟨[.ref a], ks.zip ws⟩ (g [.ref a] ws) (gV [.ref a] zs) Q E hr I2.env0 (hb.to s2 [.ref a] ws I2.kIn rfl (rz.length.symm.trans l2)) r2 q2) fun r s' hq => ?_))
  cases r with
  | error e => exact hx pins σ H2 s2 e s' I2 hq
  | ok fl =>
    cases fl with
    | ret u => exact I2.after hq
    | next => exact False.elim hq
    | brk => exact False.elim hq
    | cont => exact False.elim hq
/-- __call__(value = v, key = k) -/
theorem kb_vk {K : PySem.W.Frag} {qual : Str} {st : Stmt} {f : Addr} {fd : FuncData} (F : Fun K "__call__" qual st f fd)
    (h : ∀ (kV doc pm : Value) (an : Option Addr) (cdv ct : Value) (a v k : Value), bindArgs (PySem.W.fnOf "__call__" qual (defArgs st) (defBody st) (defScope st) .none kV doc pm an cdv ct) ⟨[a], [("value", v), ("key", k)]⟩ = pure [(("self" : Str), a), (("key" : Str), k), (("value" : Str), v)]) :
    KBn K fd ["self", "key", "value"] 1 ["value", "key"] (fun us ws => us ++ ws.reverse) (fun vs zs => vs ++ zs.reverse) := by
  obtain ⟨oc, od, kV, doc, pm, an, cdv, ct, osl, rfl, lk, hcd⟩ := F.ex
  refine ⟨fun s us ws _ hu hw => ?_, fun {vs us zs ws} r1 r2 => ?_⟩
  · match us, ws, hu, hw with
    | [a], [v, k], _, _ => exact .of_eq (h kV doc pm an cdv ct a v k)
  · have rev : ∀ {zs : List V} {ws : List Value}, Vals zs ws → Vals zs.reverse ws.reverse := by
      intro zs ws r
      induction r with
      | nil => exact .nil
      | cons a _ ih =>
        rw [List.reverse_cons, List.reverse_cons]
        exact ih.append (.cons a .nil)
    exact r1.append (rev r2)
end G
set_option Elab.async false
set_option linter.all false
set_option maxRecDepth 100000
set_option maxHeartbeats 2000000
/-! P8: how Between's arguments are bound. -/
namespace G
open PySem PySem.Spec PyProof.Rows L2 NdefX StX
section
variable {K : PySem.W.Frag} {f cda cc D : Addr} {fd : FuncData} {t1 t2 : Tok}
/-- the defaults of low and high -/
structure BtwDef (K : PySem.W.Frag) (D : Addr) : Prop where
  lo : ∃ t, PySem.W.nsIn K D "low" = some (some (.int (-999) t))
  hi : ∃ t, PySem.W.nsIn K D "high" = some (some (.int 999 t))
abbrev psBtw : List Str := ["self", "field", "low", "high"]
theorem btw_b1 (F : FunX K "__init__" "Between.__init__" sBtwInit f cda cc (.ref D) fd) (d : BtwDef K D) : ∃ ds : List Value, Binds K fd psBtw ds ∧ Vals [V.int (-999), V.int 999] ds := by
  obtain ⟨oc, od, doc, pm, an, ct, osl, rfl, lk, hcd⟩ := F.ex
  obtain ⟨tl, hl⟩ := d.lo
  obtain ⟨th, hh⟩ := d.hi
  refine ⟨[.int (-999) tl, .int 999 th], fun s us X hlen => ?_, .cons ⟨tl, rfl⟩ (.cons ⟨th, rfl⟩ .nil)⟩
  have h2 : us.length = 2 := by
    rw [List.length_append] at hlen
    have h3 : us.length + 2 = 4 := hlen
    omega
  match us, h2 with
  | [a, b], _ =>
    refine BindsTo.of_looks fun M => KwChain.looks (l := [("low", .int (-999) tl), ("high", .int 999 th)]) (D := D) X (fun q hq => ?_) ⟨_, _, _, _, _, _, rfl, rfl, _, _, _, _, _, _, rfl, rfl, rfl⟩
    rcases List.mem_cons.mp hq with rfl | hq
    · exact hl
    · rcases List.mem_cons.mp hq with rfl | hq
      · exact hh
      · cases hq
theorem btw_b2 (F : FunX K "__init__" "Between.__init__" sBtwInit f cda cc (.ref D) fd) (d : BtwDef K D) : ∃ t, KBn K fd psBtw 2 ["low"] (fun us ws => us ++ (ws ++ [.int 999 t])) (fun vs zs => vs ++ (zs ++ [.int 999])) := by
  obtain ⟨oc, od, doc, pm, an, ct, osl, rfl, lk, hcd⟩ := F.ex
  obtain ⟨th, hh⟩ := d.hi
  refine ⟨th, fun s us ws X h1 h2 => ?_, fun r1 r2 => r1.append (r2.append (.cons ⟨th, rfl⟩ .nil))⟩
  match us, ws, h1, h2 with
  | [a, b], [c], _, _ =>
    refine BindsTo.of_looks fun M => KwChain.looks (l := [("high", .int 999 th)]) (D := D) X (fun q hq => ?_) ⟨_, _, _, _, _, _, rfl, rfl, rfl⟩
    rcases List.mem_cons.mp hq with rfl | hq
    · exact hh
    · cases hq
theorem btw_b3 (F : FunX K "__init__" "Between.__init__" sBtwInit f cda cc (.ref D) fd) (d : BtwDef K D) : ∃ t, KBn K fd psBtw 1 ["high", "field"] (fun us ws => us ++ (ws.drop 1 ++ ([.int (-999) t] ++ ws.take 1))) (fun vs zs => vs ++ (zs.drop 1 ++ ([.int (-999)] ++ zs.take 1))) := by
  obtain ⟨oc, od, doc, pm, an, ct, osl, rfl, lk, hcd⟩ := F.ex
  obtain ⟨tl, hl⟩ := d.lo
  refine ⟨tl, fun s us ws X h1 h2 => ?_, fun r1 r2 => r1.append ((r2.drop 1).append ((show Vals [V.int (-999)] [Value.int (-999) tl] from .cons ⟨tl, rfl⟩ .nil).append (r2.take 1)))⟩
  match us, ws, h1, h2 with
  | [a], [c, b], _, _ =>
    refine BindsTo.of_looks fun M => KwChain.looks (l := [("low", .int (-999) tl)]) (D := D) X (fun q hq => ?_) ⟨_, _, _, _, _, _, rfl, rfl, rfl⟩
    rcases List.mem_cons.mp hq with rfl | hq
    · exact hl
    · cases hq
theorem btw_b4 (F : FunX K "__init__" "Between.__init__" sBtwInit f cda cc (.ref D) fd) : KBn K fd psBtw 2 ["high", "low"] (fun us ws => us ++ (ws.drop 1 ++ ws.take 1)) (fun vs zs => vs ++ (zs.drop 1 ++ zs.take 1)) := by
  obtain ⟨oc, od, doc, pm, an, ct, osl, rfl, lk, hcd⟩ := F.ex
  refine ⟨fun s us ws X h1 h2 => ?_, fun r1 r2 => r1.append ((r2.drop 1).append (r2.take 1))⟩
  match us, ws, h1, h2 with
  | [a, b], [c, d], _, _ => exact .of_eq rfl
end
end G
set_option Elab.async false
set_option linter.all false
set_option maxRecDepth 100000
set_option maxHeartbeats 4000000
/-! P9: a Named of none to eight names. -/
namespace G
open PySem PySem.Spec PyProof.Rows L2 NdefX StX
abbrev sNamed : Stmt := topS 57
theorem scNamed : FnScope ["_law_some", "_law_many", "_law_rest", "_law_one", "_law_two", "_law_three", "_law_four", "_law_five", "_law_six", "_law_seven", "_law_eight"] ["_law_some"] (defScope sNamed) := ⟨rfl, rfl, rfl, by decide +kernel, rfl, by decide +kernel, by decide +kernel⟩
/-- C() by a positional promise -/
theorem pe_makeR0 {X : Cx} {CX : CXT} {k : Nat} {f C : Addr} {sp : Sp} {E : XK} {x : Str} {p pos : Pos} (M : Mk X.K C f) (F : FnR X.prog X.w X.K X.mg X.base CX k f sp) (hr : Room (k + 1) X.A) (hg : Gl X x) (hm : X.mg x = some (.ref C)) (hx : Passes CX X E) (hdb : (x == ("__debug__" : Str)) = false := by decide) :
    PE X (.Call (.Name x p) [] [] pos) (tMakeR C sp E tNil) := by
  refine ⟨fun pins s σ H Q I h => ?_⟩
  refine wpAny_Call_Name_kw (ld_glob I hg hm ?_ hdb)
  exact PySem.W.callWith_K0 I.kIn M.kp (run_makeR (us := []) M F hr hx I .nil h)
abbrev spNamR (C : Addr) : Sp := fun vs H Q E => ∃ ws rest, vs = ws ++ rest ∧ ws.length = ["self"].length ∧ rest.length ≤ sizeLine ∧ ∀ p, H p = Option.none → spNam C (ws ++ [V.ref p]) (upd H p (.tup rest)) Q E
/-- a Named is made -/
theorem nam_made {C : Addr} {H1 : Hp} {Q : VK} {E : XK} {zs : List Str} (h8 : zs.length ≤ 8) (hz : ∀ z ∈ zs, NameZ z) (q : ∀ (a t : Addr) (H' : Hp), NamAt C H' a t zs → Same H1 H' → Q (.ref a) H') :
    ∀ x dx, H1 x = Option.none → H1 dx = Option.none → dx ≠ x → spNamR C (V.ref x :: zs.map V.str) (upd (upd H1 dx (.own x)) x (.ins C dx [])) (fun v H2 => v = .non ∧ Q (.ref x) H2) E := by
  intro x dx hx hdx hne
  refine ⟨[V.ref x], zs.map V.str, rfl, rfl, by rw [List.length_map]; exact small_size (by omega), fun p hp => ?_⟩
  have npx : p ≠ x := fun z => by
    rw [z, upd_same] at hp
    cases hp
  rw [upd_ne npx] at hp
  have npd : p ≠ dx := fun z => by
    rw [z, upd_same] at hp
    cases hp
  rw [upd_ne npd] at hp
  refine ⟨x, dx, p, zs, rfl, ?_, upd_same, h8, hz, fun H' s' => ⟨rfl, ?_⟩⟩
  · rw [upd_ne npx.symm, upd_same]
  · refine q x p _ ⟨dx, upd_same, ?_⟩ fun c o e => ?_
    · rw [upd_ne npx]
      exact s' p _ ((upd_ne npx).trans upd_same)
    · have n1 := ne_of_none e hx
      rw [upd_ne n1]
      refine s' c o ?_
      rw [upd_ne n1, upd_ne (ne_of_none e hp), upd_ne n1, upd_ne (ne_of_none e hdx)]
      exact e
def spMkNam (K : PySem.W.Frag) (C : Addr) : Sp := fun vs H Q _ => ∃ (p : Addr) (zs : List Str), vs = [.ref p] ∧ (SqL K H p (zs.map V.str) ∨ SqT K H p (zs.map V.str)) ∧ zs.length ≤ 8 ∧ (∀ z ∈ zs, NameZ z) ∧ ∀ (a t : Addr) (H' : Hp), NamAt C H' a t zs → Same H H' → Q (.ref a) H'
section
variable {P : Program} {w : World} {K : PySem.W.Frag} {mg : Str → Option Value} {base : Heap}
theorem ok_named {f C fI : Addr} {fd : FuncData} (F : Fun K "_law_named" "_law_named" sNamed f fd) (M : Mk K C fI) (G : FnR P w K mg base CX0 3 fI (spNamR C)) (gC : mg "Named" = some (.ref C)) (ml : mg "len" = none) (mL : mg "list" = none) :
    FnOk P w K mg base CX0 5 f fd ["_law_some"] (spMkNam K C) := by
  refine F.ok scNamed (fun vs H Q E h => ?_) (fun cdv A outer s H vs Q E hr h => ?_)
  · obtain ⟨p, zs, rfl, _⟩ := h
    rfl
  · obtain ⟨p, zs, rfl, hS, h8, hz, q⟩ := h
    refine ⟨_, pss_cons (ps_par (i := 1) (j := 2) (by rfl) scNamed.nd rfl rfl (by decide) rfl rfl (pa_cons (pe_callB call_len_seq (by rfl) ml PySem.boot_len (pa_cons (pv 0) pa_nil))
        (pa_cons (pe_op op_cat (pe_callTy call_list_of (by rfl) mL (by decide +kernel) (pa_cons (pv 0) pa_nil)) (pe_op op_rep (pe_lst (pa_cons pe_non pa_nil)) pe_int)) pa_nil)) (by rfl))
      (pss_cons (ps_asg (pe_slice sl_list (pv 2) po_none (po_some pe_int)) (pg_unl (by rfl) (pgs_cons (pg_name (i := 3) scNamed.nd rfl (.inl rfl)) (pgs_cons (pg_name (i := 4) scNamed.nd rfl (.inl rfl)) (pgs_cons (pg_name (i := 5) scNamed.nd rfl (.inl rfl)) (pgs_cons (pg_name (i := 6) scNamed.nd rfl (.inl rfl)) (pgs_cons (pg_name (i := 7) scNamed.nd rfl (.inl rfl)) (pgs_cons (pg_name (i := 8) scNamed.nd rfl (.inl rfl)) (pgs_cons (pg_name (i := 9) scNamed.nd rfl (.inl rfl)) (pgs_cons (pg_name (i := 10) scNamed.nd rfl (.inl rfl)) pgs_nil))))))))))
      (pss_cons (ps_if (pt_cmpR op_eq (pv 1) pe_int (nomark _)) (pss_one (ps_ret (pe_makeR0 M G hr rfl gC pass0))) pss_nil)
      (pss_cons (ps_if (pt_cmpR op_eq (pv 1) pe_int (nomark _)) (pss_one (ps_ret (pe_makeR M G hr rfl gC pass0 (pa_cons (pv 3) pa_nil)))) pss_nil)
      (pss_cons (ps_if (pt_cmpR op_eq (pv 1) pe_int (nomark _)) (pss_one (ps_ret (pe_makeR M G hr rfl gC pass0 (pa_cons (pv 3) (pa_cons (pv 4) pa_nil))))) pss_nil)
      (pss_cons (ps_if (pt_cmpR op_eq (pv 1) pe_int (nomark _)) (pss_one (ps_ret (pe_makeR M G hr rfl gC pass0 (pa_cons (pv 3) (pa_cons (pv 4) (pa_cons (pv 5) pa_nil)))))) pss_nil)
      (pss_cons (ps_if (pt_cmpR op_eq (pv 1) pe_int (nomark _)) (pss_one (ps_ret (pe_makeR M G hr rfl gC pass0 (pa_cons (pv 3) (pa_cons (pv 4) (pa_cons (pv 5) (pa_cons (pv 6) pa_nil))))))) pss_nil)
      (pss_cons (ps_if (pt_cmpR op_eq (pv 1) pe_int (nomark _)) (pss_one (ps_ret (pe_makeR M G hr rfl gC pass0 (pa_cons (pv 3) (pa_cons (pv 4) (pa_cons (pv 5) (pa_cons (pv 6) (pa_cons (pv 7) pa_nil)))))))) pss_nil)
      (pss_cons (ps_if (pt_cmpR op_eq (pv 1) pe_int (nomark _)) (pss_one (ps_ret (pe_makeR M G hr rfl gC pass0 (pa_cons (pv 3) (pa_cons (pv 4) (pa_cons (pv 5) (pa_cons (pv 6) (pa_cons (pv 7) (pa_cons (pv 8) pa_nil))))))))) pss_nil)
      (pss_cons (ps_if (pt_cmpR op_eq (pv 1) pe_int (nomark _)) (pss_one (ps_ret (pe_makeR M G hr rfl gC pass0 (pa_cons (pv 3) (pa_cons (pv 4) (pa_cons (pv 5) (pa_cons (pv 6) (pa_cons (pv 7) (pa_cons (pv 8) (pa_cons (pv 9) pa_nil)))))))))) pss_nil)
      (pss_cons (ps_if (pt_cmpR op_eq (pv 1) pe_int (nomark _)) (pss_one (ps_ret (pe_makeR M G hr rfl gC pass0 (pa_cons (pv 3) (pa_cons (pv 4) (pa_cons (pv 5) (pa_cons (pv 6) (pa_cons (pv 7) (pa_cons (pv 8) (pa_cons (pv 9) (pa_cons (pv 10) pa_nil))))))))))) pss_nil)
      (pss_one ps_never))))))))))), ?_⟩
    refine ⟨_, rfl, p, _, rfl, hS, _, rfl, p, _, rfl, hS, fun l hl => ⟨by decide, fun u hu => ?_⟩⟩
    have nlu : l ≠ u := fun z => by
      rw [z, upd_same] at hu
      cases hu
    refine ⟨_, _, _, rfl, rfl, upd_same, by decide, by decide, by decide, fun v hv => ?_⟩
    have nuv : u ≠ v := fun z => by
      rw [z, upd_same] at hv
      cases hv
    have nlv : l ≠ v := fun z => by
      rw [← z, upd_ne nlu, upd_same] at hv
      cases hv
    have l9 : ((List.replicate (9 : Int).toNat [V.non]).flatten).length = 9 := rfl
    refine ⟨l, v, zs.map V.str, (List.replicate (9 : Int).toNat [V.non]).flatten, rfl, rfl, ?_, upd_same, ?_, fun p2 hp2 => ?_⟩
    · rw [upd_ne nlv, upd_ne nlu, upd_same]
    · rw [l9, List.length_map]
      exact small_size (by omega)
    refine ⟨_, _, rfl, ?_⟩
    refine ⟨_, rfl, _, rfl, p2, _, rfl, .of upd_same, fun p3 hp3 => ?_⟩
    rw [show ((8 : Int)) = ((8 : Nat) : Int) from rfl, cutV_first _ 8 (by rw [List.length_append, l9]; omega)]
    have same : Same H (upd (upd (upd (upd (upd H l (.lst (zs.map V.str))) u (.lst [.non])) v (.lst (List.replicate (9 : Int).toNat [V.non]).flatten)) p2 (.lst (zs.map V.str ++ (List.replicate (9 : Int).toNat [V.non]).flatten))) p3 (.lst ((zs.map V.str ++ (List.replicate (9 : Int).toNat [V.non]).flatten).take 8))) := ((((Same.new hl).trans (Same.new hu)).trans (Same.new hv)).trans (Same.new hp2)).trans (Same.new hp3)
    have mk := nam_made (C := C) (H1 := upd (upd (upd (upd (upd H l (.lst (zs.map V.str))) u (.lst [.non])) v (.lst (List.replicate (9 : Int).toNat [V.non]).flatten)) p2 (.lst (zs.map V.str ++ (List.replicate (9 : Int).toNat [V.non]).flatten))) p3 (.lst ((zs.map V.str ++ (List.replicate (9 : Int).toNat [V.non]).flatten).take 8))) (Q := Q) (E := E0) h8 hz fun a t H' n s => q a t H' n (same.trans s)
    clear same
    match zs, h8, hz, hS, q, mk with
    | [], h8, hz, hS, q, mk =>
      refine ⟨p3, _, rfl, .of upd_same, rfl, _, _, rfl, _, _, rfl, _, _, rfl, _, _, rfl, _, _, rfl, _, _, rfl, _, _, rfl, _, _, rfl, rfl, ?_⟩
      refine ⟨_, rfl, rfl, _, rfl, iteT ?_⟩
      exact mk
    | [a0], h8, hz, hS, q, mk =>
      refine ⟨p3, _, rfl, .of upd_same, rfl, _, _, rfl, _, _, rfl, _, _, rfl, _, _, rfl, _, _, rfl, _, _, rfl, _, _, rfl, _, _, rfl, rfl, ?_⟩
      refine ⟨_, rfl, rfl, _, rfl, iteF ?_⟩
      refine ⟨_, rfl, rfl, _, rfl, iteT ?_⟩
      exact ⟨_, rfl, mk⟩
    | [a0, a1], h8, hz, hS, q, mk =>
      refine ⟨p3, _, rfl, .of upd_same, rfl, _, _, rfl, _, _, rfl, _, _, rfl, _, _, rfl, _, _, rfl, _, _, rfl, _, _, rfl, _, _, rfl, rfl, ?_⟩
      refine ⟨_, rfl, rfl, _, rfl, iteF ?_⟩
      refine ⟨_, rfl, rfl, _, rfl, iteF ?_⟩
      refine ⟨_, rfl, rfl, _, rfl, iteT ?_⟩
      exact ⟨_, rfl, _, rfl, mk⟩
    | [a0, a1, a2], h8, hz, hS, q, mk =>
      refine ⟨p3, _, rfl, .of upd_same, rfl, _, _, rfl, _, _, rfl, _, _, rfl, _, _, rfl, _, _, rfl, _, _, rfl, _, _, rfl, _, _, rfl, rfl, ?_⟩
      refine ⟨_, rfl, rfl, _, rfl, iteF ?_⟩
      refine ⟨_, rfl, rfl, _, rfl, iteF ?_⟩
      refine ⟨_, rfl, rfl, _, rfl, iteF ?_⟩
      refine ⟨_, rfl, rfl, _, rfl, iteT ?_⟩
      exact ⟨_, rfl, _, rfl, _, rfl, mk⟩
    | [a0, a1, a2, a3], h8, hz, hS, q, mk =>
      refine ⟨p3, _, rfl, .of upd_same, rfl, _, _, rfl, _, _, rfl, _, _, rfl, _, _, rfl, _, _, rfl, _, _, rfl, _, _, rfl, _, _, rfl, rfl, ?_⟩
      refine ⟨_, rfl, rfl, _, rfl, iteF ?_⟩
      refine ⟨_, rfl, rfl, _, rfl, iteF ?_⟩
      refine ⟨_, rfl, rfl, _, rfl, iteF ?_⟩
      refine ⟨_, rfl, rfl, _, rfl, iteF ?_⟩
      refine ⟨_, rfl, rfl, _, rfl, iteT ?_⟩
      exact ⟨_, rfl, _, rfl, _, rfl, _, rfl, mk⟩
    | [a0, a1, a2, a3, a4], h8, hz, hS, q, mk =>
      refine ⟨p3, _, rfl, .of upd_same, rfl, _, _, rfl, _, _, rfl, _, _, rfl, _, _, rfl, _, _, rfl, _, _, rfl, _, _, rfl, _, _, rfl, rfl, ?_⟩
      refine ⟨_, rfl, rfl, _, rfl, iteF ?_⟩
      refine ⟨_, rfl, rfl, _, rfl, iteF ?_⟩
      refine ⟨_, rfl, rfl, _, rfl, iteF ?_⟩
      refine ⟨_, rfl, rfl, _, rfl, iteF ?_⟩
      refine ⟨_, rfl, rfl, _, rfl, iteF ?_⟩
      refine ⟨_, rfl, rfl, _, rfl, iteT ?_⟩
      exact ⟨_, rfl, _, rfl, _, rfl, _, rfl, _, rfl, mk⟩
    | [a0, a1, a2, a3, a4, a5], h8, hz, hS, q, mk =>
      refine ⟨p3, _, rfl, .of upd_same, rfl, _, _, rfl, _, _, rfl, _, _, rfl, _, _, rfl, _, _, rfl, _, _, rfl, _, _, rfl, _, _, rfl, rfl, ?_⟩
      refine ⟨_, rfl, rfl, _, rfl, iteF ?_⟩
      refine ⟨_, rfl, rfl, _, rfl, iteF ?_⟩
      refine ⟨_, rfl, rfl, _, rfl, iteF ?_⟩
      refine ⟨_, rfl, rfl, _, rfl, iteF ?_⟩
      refine ⟨_, rfl, rfl, _, rfl, iteF ?_⟩
      refine ⟨_, rfl, rfl, _, rfl, iteF ?_⟩
      refine ⟨_, rfl, rfl, _, rfl, iteT ?_⟩
      exact ⟨_, rfl, _, rfl, _, rfl, _, rfl, _, rfl, _, rfl, mk⟩
    | [a0, a1, a2, a3, a4, a5, a6], h8, hz, hS, q, mk =>
      refine ⟨p3, _, rfl, .of upd_same, rfl, _, _, rfl, _, _, rfl, _, _, rfl, _, _, rfl, _, _, rfl, _, _, rfl, _, _, rfl, _, _, rfl, rfl, ?_⟩
      refine ⟨_, rfl, rfl, _, rfl, iteF ?_⟩
      refine ⟨_, rfl, rfl, _, rfl, iteF ?_⟩
      refine ⟨_, rfl, rfl, _, rfl, iteF ?_⟩
      refine ⟨_, rfl, rfl, _, rfl, iteF ?_⟩
      refine ⟨_, rfl, rfl, _, rfl, iteF ?_⟩
      refine ⟨_, rfl, rfl, _, rfl, iteF ?_⟩
      refine ⟨_, rfl, rfl, _, rfl, iteF ?_⟩
      refine ⟨_, rfl, rfl, _, rfl, iteT ?_⟩
      exact ⟨_, rfl, _, rfl, _, rfl, _, rfl, _, rfl, _, rfl, _, rfl, mk⟩
    | [a0, a1, a2, a3, a4, a5, a6, a7], h8, hz, hS, q, mk =>
      refine ⟨p3, _, rfl, .of upd_same, rfl, _, _, rfl, _, _, rfl, _, _, rfl, _, _, rfl, _, _, rfl, _, _, rfl, _, _, rfl, _, _, rfl, rfl, ?_⟩
      refine ⟨_, rfl, rfl, _, rfl, iteF ?_⟩
      refine ⟨_, rfl, rfl, _, rfl, iteF ?_⟩
      refine ⟨_, rfl, rfl, _, rfl, iteF ?_⟩
      refine ⟨_, rfl, rfl, _, rfl, iteF ?_⟩
      refine ⟨_, rfl, rfl, _, rfl, iteF ?_⟩
      refine ⟨_, rfl, rfl, _, rfl, iteF ?_⟩
      refine ⟨_, rfl, rfl, _, rfl, iteF ?_⟩
      refine ⟨_, rfl, rfl, _, rfl, iteF ?_⟩
      refine ⟨_, rfl, rfl, _, rfl, iteT ?_⟩
      exact ⟨_, rfl, _, rfl, _, rfl, _, rfl, _, rfl, _, rfl, _, rfl, _, rfl, mk⟩
    | _ :: _ :: _ :: _ :: _ :: _ :: _ :: _ :: _ :: _, h8, _, _, _, _ => exact absurd h8 (by simp)
end
end G
set_option Elab.async false
set_option linter.all false
set_option maxRecDepth 100000
set_option maxHeartbeats 2000000
/-! PA: repr of a dict, of a truth value. -/
namespace G
open PySem PySem.Spec PyProof.Rows L2
/-- repr(d), d a dict (or a tuple) without lists in it -/
def rReprD (K : PySem.W.Frag) : List V → Hp → VK → Prop := fun vs H Q => ∃ (a : Addr) (d : PyData), vs = [.ref a] ∧ Rp K H (.ref a) d ∧ d.showable = true ∧ okS d = true ∧ d.depth ≤ 20 ∧ mass d ≤ sizeLine ∧ Q (.str d.shown) H
theorem call_reprD {X : Cx} (hg : X.A.guards = some []) (hu : X.A.units + 64 < cLine) : CallR X (.builtin "repr") (rReprD X.K) := by
  intro pins s σ H xs us Q I r h
  obtain ⟨a, d, rfl, hr, hs, ho, hp, hm, q⟩ := h
  obtain rfl := Vals.ref1 r
  obtain ⟨as, q1, z1⟩ := rp_reads I d _ _ hr (show RelV (.ref a) (.ref a) from rfl)
  exact repr_of_reads' q1 hs (fun _ => z1 ho) hg (by omega) (fun _ _ e => e) (fun h' u tk k => ⟨.str _, H, I.kept k, ⟨u, rfl⟩, q⟩) (Nat.le_trans (shown_le d hs) hm)
/-- repr(b), b a truth value -/
def rReprB : List V → Hp → VK → Prop := fun vs H Q => ∃ b : Bool, vs = [.bl b] ∧ Q (.str (if b then "True" else "False")) H
theorem call_reprB {X : Cx} : CallR X (.builtin "repr") rReprB := by
  intro pins s σ H xs us Q I r h
  obtain ⟨b, rfl, q⟩ := h
  obtain ⟨u, rfl, ru⟩ := vals1 r
  obtain rfl : u = Value.bool b := ru
  exact PySem.P.repr_of_bool ⟨.str _, H, I.tok _, ⟨_, rfl⟩, q⟩
end G
set_option Elab.async false
set_option linter.all false
set_option maxRecDepth 100000
set_option maxHeartbeats 2000000
/-! C1: conditions as a plain tree; where one stands in the heap, as an object and as the law's tuple. -/
namespace G
open PySem PySem.Spec PyProof.Rows L2 NdefX StX
inductive Md where
  | btw (z : Str) (lo hi : Int)
  | nam (zs : List Str)
  | neg (m : Md)
  | both (a b : Md)
  | eith (a b : Md)
namespace Md
def leaves : Md → Nat
  | .btw _ _ _ => 1
  | .nam _ => 1
  | .neg m => m.leaves
  | .both a b => a.leaves + b.leaves
  | .eith a b => a.leaves + b.leaves
def depth : Md → Nat
  | .btw _ _ _ => 1
  | .nam _ => 1
  | .neg m => m.depth + 1
  | .both a b => max a.depth b.depth + 1
  | .eith a b => max a.depth b.depth + 1
def names : Md → Nat
  | .btw _ _ _ => 0
  | .nam zs => zs.length
  | .neg m => m.names
  | .both a b => a.names + b.names
  | .eith a b => a.names + b.names
def size : Md → Nat
  | .btw _ _ _ => 1
  | .nam _ => 1
  | .neg m => m.size + 1
  | .both a b => a.size + b.size + 1
  | .eith a b => a.size + b.size + 1
def tag : Md → Nat
  | .btw _ _ _ => 0
  | .nam _ => 1
  | .neg _ => 2
  | .both _ _ => 3
  | .eith _ _ => 4
def holds (y : Str) (kvs : List (Key × V)) : Md → Bool
  | .btw z lo hi => btwHolds z lo hi kvs
  | .nam zs => inV (.str y) (zs.map V.str)
  | .neg m => !(m.holds y kvs)
  | .both a b => a.holds y kvs && b.holds y kvs
  | .eith a b => a.holds y kvs || b.holds y kvs
/-- names are names, bounds are bounds -/
def good : Md → Prop
  | .btw z lo hi => NameZ z ∧ -999 ≤ lo ∧ lo ≤ hi ∧ hi ≤ 999
  | .nam zs => ∀ z ∈ zs, NameZ z
  | .neg m => m.good
  | .both a b => a.good ∧ b.good
  | .eith a b => a.good ∧ b.good
theorem depth_pos : ∀ m : Md, 1 ≤ m.depth
  | .btw _ _ _ => Nat.le_refl _
  | .nam _ => Nat.le_refl _
  | .neg m => Nat.le_add_left _ _
  | .both a b => Nat.le_add_left _ _
  | .eith a b => Nat.le_add_left _ _
theorem size_le : ∀ m : Md, m.size < 2 ^ m.depth
  | .btw _ _ _ => (by decide : 1 < 2 ^ 1)
  | .nam _ => (by decide : 1 < 2 ^ 1)
  | .neg m => by
    have := size_le m
    show m.size + 1 < 2 ^ (m.depth + 1)
    rw [Nat.pow_succ]
    omega
  | .both a b => by
    have h1 := size_le a
    have h2 := size_le b
    have e1 : 2 ^ a.depth ≤ 2 ^ max a.depth b.depth := Nat.pow_le_pow_right (by decide) (Nat.le_max_left _ _)
    have e2 : 2 ^ b.depth ≤ 2 ^ max a.depth b.depth := Nat.pow_le_pow_right (by decide) (Nat.le_max_right _ _)
    show a.size + b.size + 1 < 2 ^ (max a.depth b.depth + 1)
    rw [Nat.pow_succ]
    omega
  | .eith a b => by
    have h1 := size_le a
    have h2 := size_le b
    have e1 : 2 ^ a.depth ≤ 2 ^ max a.depth b.depth := Nat.pow_le_pow_right (by decide) (Nat.le_max_left _ _)
    have e2 : 2 ^ b.depth ≤ 2 ^ max a.depth b.depth := Nat.pow_le_pow_right (by decide) (Nat.le_max_right _ _)
    show a.size + b.size + 1 < 2 ^ (max a.depth b.depth + 1)
    rw [Nat.pow_succ]
    omega
theorem size_31 {m : Md} (h : m.depth ≤ 5) : m.size ≤ 31 := by
  have h1 := m.size_le
  have h2 : 2 ^ m.depth ≤ 2 ^ 5 := Nat.pow_le_pow_right (by decide) h
  have h3 : (2 : Nat) ^ 5 = 32 := by decide
  omega
end Md
/-- the five classes -/
structure Cs where
  bt : Addr
  nm : Addr
  nt : Addr
  bo : Addr
  ei : Addr
def Md.cls (c : Cs) : Md → Addr
  | .btw _ _ _ => c.bt
  | .nam _ => c.nm
  | .neg _ => c.nt
  | .both _ _ => c.bo
  | .eith _ _ => c.ei
def condFs (l h n : Nat) : List (Str × V) := [("leaf_count", .int (l : Nat)), ("height", .int (h : Nat)), ("name_count", .int (n : Nat))]
def negFs (l h n : Nat) (p : Addr) : List (Str × V) := [("leaf_count", .int (l : Nat)), ("height", .int (h : Nat)), ("name_count", .int (n : Nat)), ("inner", .ref p)]
def pairFs (l h n : Nat) (p q : Addr) : List (Str × V) := [("leaf_count", .int (l : Nat)), ("height", .int (h : Nat)), ("name_count", .int (n : Nat)), ("first", .ref p), ("second", .ref q)]
/-- the condition m stands at a -/
def CoAt (c : Cs) (H : Hp) : Addr → Md → Prop
  | a, .btw z lo hi => BtwAt c.bt H a z lo hi
  | a, .nam zs => ∃ t, NamAt c.nm H a t zs
  | a, .neg m => ∃ p dx, H a = some (.ins c.nt dx (negFs m.leaves (m.depth + 1) m.names p)) ∧ CoAt c H p m
  | a, .both m n => ∃ p q dx, H a = some (.ins c.bo dx (pairFs (m.leaves + n.leaves) (max m.depth n.depth + 1) (m.names + n.names) p q)) ∧ CoAt c H p m ∧ CoAt c H q n
  | a, .eith m n => ∃ p q dx, H a = some (.ins c.ei dx (pairFs (m.leaves + n.leaves) (max m.depth n.depth + 1) (m.names + n.names) p q)) ∧ CoAt c H p m ∧ CoAt c H q n
/-- the law's tuple of m stands at t -/
def MdAt (H : Hp) : Addr → Md → Prop
  | t, .btw z lo hi => H t = some (.tup [.str "between", .str z, .int lo, .int hi])
  | t, .nam zs => H t = some (.tup (.str "named" :: zs.map V.str))
  | t, .neg m => ∃ u, H t = some (.tup [.str "not", .ref u]) ∧ MdAt H u m
  | t, .both m n => ∃ u v, H t = some (.tup [.str "both", .ref u, .ref v]) ∧ MdAt H u m ∧ MdAt H v n
  | t, .eith m n => ∃ u v, H t = some (.tup [.str "either", .ref u, .ref v]) ∧ MdAt H u m ∧ MdAt H v n
/-- what never changes -/
def still : HO → Bool
  | .ins _ _ _ => true
  | .tup _ => true
  | _ => false
def SK (H H' : Hp) : Prop := ∀ p o, H p = some o → still o = true → H' p = some o
theorem SK.of_same {H H' : Hp} (s : Same H H') : SK H H' := fun p o e _ => s p o e
theorem SK.trans {H H1 H2 : Hp} (a : SK H H1) (b : SK H1 H2) : SK H H2 := fun p o e z => b p o (a p o e z) z
theorem SK.of_but {H H' : Hp} {b : Addr} {n : Nat} (B : BoxAt H b n) (k : But b H H') : SK H H' := fun p o e z => k p o (fun q => by
  obtain ⟨_, _, _, eb, _⟩ := B
  rw [q, eb] at e
  rw [← Option.some.inj e] at z
  cases z) e
theorem CoAt.sk {c : Cs} {H H' : Hp} (s : SK H H') : ∀ {m : Md} {a : Addr}, CoAt c H a m → CoAt c H' a m
  | .btw z lo hi, a, ⟨dx, e⟩ => ⟨dx, s _ _ e rfl⟩
  | .nam zs, a, ⟨t, dx, e1, e2⟩ => ⟨t, dx, s _ _ e1 rfl, s _ _ e2 rfl⟩
  | .neg m, a, ⟨p, dx, e, h⟩ => ⟨p, dx, s _ _ e rfl, CoAt.sk s h⟩
  | .both m n, a, ⟨p, q, dx, e, h1, h2⟩ => ⟨p, q, dx, s _ _ e rfl, CoAt.sk s h1, CoAt.sk s h2⟩
  | .eith m n, a, ⟨p, q, dx, e, h1, h2⟩ => ⟨p, q, dx, s _ _ e rfl, CoAt.sk s h1, CoAt.sk s h2⟩
theorem CoAt.same {c : Cs} {H H' : Hp} {m : Md} {a : Addr} (h : CoAt c H a m) (s : Same H H') : CoAt c H' a m := h.sk (.of_same s)
theorem MdAt.sk {H H' : Hp} (s : SK H H') : ∀ {m : Md} {t : Addr}, MdAt H t m → MdAt H' t m
  | .btw z lo hi, t, e => s _ _ e rfl
  | .nam zs, t, e => s _ _ e rfl
  | .neg m, t, ⟨u, e, h⟩ => ⟨u, s _ _ e rfl, MdAt.sk s h⟩
  | .both m n, t, ⟨u, v, e, h1, h2⟩ => ⟨u, v, s _ _ e rfl, MdAt.sk s h1, MdAt.sk s h2⟩
  | .eith m n, t, ⟨u, v, e, h1, h2⟩ => ⟨u, v, s _ _ e rfl, MdAt.sk s h1, MdAt.sk s h2⟩
theorem MdAt.same {H H' : Hp} {m : Md} {t : Addr} (h : MdAt H t m) (s : Same H H') : MdAt H' t m := h.sk (.of_same s)
/-- what of the text a class of conditions has; D: the class Condition -/
structure CondC (K : PySem.W.Frag) (D C : Addr) : Prop where
  cl : Cls K C
  n1 : NoAttr K C "leaf_count"
  n2 : NoAttr K C "height"
  n3 : NoAttr K C "name_count"
  ha : PySem.W.findIn K (.ref C) "__class__" = some (some (.builtin "object.__class__"))
  hn : PySem.W.specialIn K (.builtin "object.__class__") "__get__" = some (some (.builtin "getset_descriptor.__get__"))
  htk : PySem.W.takesIn K (.builtin "object.__class__") = some true
  hm : PySem.W.mroIn K C (.type "object") = some true
  kit : PySem.W.kitOne K (.ref C) (.ref D) = some true
structure CsOk (K : PySem.W.Frag) (D : Addr) (c : Cs) : Prop where
  bt : CondC K D c.bt
  nm : CondC K D c.nm
  nt : CondC K D c.nt
  bo : CondC K D c.bo
  ei : CondC K D c.ei
theorem CsOk.of {K : PySem.W.Frag} {D : Addr} {c : Cs} (o : CsOk K D c) : ∀ m : Md, CondC K D (m.cls c)
  | .btw _ _ _ => o.bt
  | .nam _ => o.nm
  | .neg _ => o.nt
  | .both _ _ => o.bo
  | .eith _ _ => o.ei
theorem CoAt.get {c : Cs} {H : Hp} : ∀ {m : Md} {a : Addr}, CoAt c H a m → ∃ dx fs, H a = some (.ins (m.cls c) dx fs) ∧ fs.lookup ("leaf_count" : Str) = some (.int (m.leaves : Nat)) ∧ fs.lookup ("height" : Str) = some (.int (m.depth : Nat)) ∧
    fs.lookup ("name_count" : Str) = some (.int (m.names : Nat)) ∧ fs.lookup ("holds" : Str) = none ∧ fs.lookup ("leaves" : Str) = none ∧ fs.lookup ("depth" : Str) = none
  | .btw z lo hi, a, ⟨dx, e⟩ => ⟨dx, _, e, rfl, rfl, rfl, rfl, rfl, rfl⟩
  | .nam zs, a, ⟨t, dx, e, _⟩ => ⟨dx, _, e, rfl, rfl, rfl, rfl, rfl, rfl⟩
  | .neg m, a, ⟨p, dx, e, _⟩ => ⟨dx, _, e, rfl, rfl, rfl, rfl, rfl, rfl⟩
  | .both m n, a, ⟨p, q, dx, e, _, _⟩ => ⟨dx, _, e, rfl, rfl, rfl, rfl, rfl, rfl⟩
  | .eith m n, a, ⟨p, q, dx, e, _, _⟩ => ⟨dx, _, e, rfl, rfl, rfl, rfl, rfl, rfl⟩
end G
set_option Elab.async false
set_option linter.all false
set_option maxRecDepth 100000
set_option maxHeartbeats 2000000
/-! C2: Both, Either and Not made. -/
namespace G
open PySem PySem.Spec PyProof.Rows L2 NdefX StX
abbrev sNeedCond : Stmt := topS 42
abbrev sSizes : Stmt := topS 43
abbrev sBo (j : Nat) : Stmt := inClass (topS 39) j
abbrev sEi (j : Nat) : Stmt := inClass (topS 40) j
abbrev sNt (j : Nat) : Stmt := inClass (topS 41) j
theorem scNeedCond : FnScope ["value"] ["value"] (defScope sNeedCond) := ⟨rfl, rfl, rfl, by decide +kernel, rfl, by decide +kernel, by decide +kernel⟩
theorem scSizes : FnScope ["one", "other", "leaf_count", "height"] ["one", "other"] (defScope sSizes) := ⟨rfl, rfl, rfl, by decide +kernel, rfl, by decide +kernel, by decide +kernel⟩
theorem scBoInit : NScope ["self", "one", "other", "__class__", "sizes"] ["self", "one", "other"] ["__class__"] (defScope (sBo 0)) := nscope_by (by decide +kernel)
theorem scEiInit : NScope ["self", "one", "other", "__class__", "sizes"] ["self", "one", "other"] ["__class__"] (defScope (sEi 0)) := nscope_by (by decide +kernel)
theorem scNtInit : NScope ["self", "one", "__class__"] ["self", "one"] ["__class__"] (defScope (sNt 0)) := nscope_by (by decide +kernel)
def spNeedCond (c : Cs) : Sp := fun vs H Q _ => ∃ (a : Addr) (m : Md), vs = [.ref a] ∧ CoAt c H a m ∧ Q .non H
def spSizes (c : Cs) : Sp := fun vs H Q _ => ∃ (a b : Addr) (m n : Md), vs = [.ref a, .ref b] ∧ CoAt c H a m ∧ CoAt c H b n ∧
  ∀ p, H p = none → Q (.ref p) (upd H p (.tup [.int ((m.leaves + n.leaves : Nat) : Int), .int ((max m.depth n.depth + 1 : Nat) : Int), .int ((m.names + n.names : Nat) : Int)]))
/-- Both or Either made, of the class at C -/
def spPair (c : Cs) (C : Addr) : Sp := fun vs H Q _ => ∃ (a dx p q : Addr) (m n : Md), vs = [.ref a, .ref p, .ref q] ∧ H a = some (.ins C dx []) ∧ CoAt c H p m ∧ CoAt c H q n ∧ m.leaves + n.leaves ≤ 6 ∧ max m.depth n.depth + 1 ≤ 5 ∧ m.names + n.names ≤ 8 ∧
  ∀ H', Same H H' → Q .non (upd H' a (.ins C dx (pairFs (m.leaves + n.leaves) (max m.depth n.depth + 1) (m.names + n.names) p q)))
def spNeg (c : Cs) (C : Addr) : Sp := fun vs H Q _ => ∃ (a dx p : Addr) (m : Md), vs = [.ref a, .ref p] ∧ H a = some (.ins C dx []) ∧ CoAt c H p m ∧ m.leaves ≤ 6 ∧ m.depth + 1 ≤ 5 ∧ m.names ≤ 8 ∧
  Q .non (upd H a (.ins C dx (negFs m.leaves (m.depth + 1) m.names p)))
section
variable {P : Program} {w : World} {K : PySem.W.Frag} {mg : Str → Option Value} {base : Heap} {c : Cs} {D : Addr}
theorem ok_needcond {f : Addr} {fd : FuncData} (F : Fun K "need_condition" "need_condition" sNeedCond f fd) (O : CsOk K D c) (gD : mg "Condition" = some (.ref D)) (mi : mg "isinstance" = none) : FnOk P w K mg base CX0 1 f fd ["value"] (spNeedCond c) := by
  refine F.ok scNeedCond (fun vs H Q E h => ?_) (fun cdv A outer s H vs Q E hr h => ?_)
  · obtain ⟨a, m, rfl, _⟩ := h
    rfl
  · obtain ⟨a, m, rfl, hc, q⟩ := h
    refine ⟨_, pss_one (ps_if (pt_not (pt_val (pe_callB call_isi (by rfl) mi (by decide +kernel) (pa_cons (pv 0) (pa_cons (pe_glob (v := .ref D) rfl gD rfl) pa_nil))))) (pss_one ps_never) pss_nil), ?_⟩
    obtain ⟨dx, fs, ha, _⟩ := hc.get
    have o := O.of m
    exact ⟨_, rfl, _, _, _, _, _, rfl, .own D, .base (.ins ha o.cl o.ha o.hn o.htk o.hm), o.kit, _, rfl, iteF q⟩
theorem ok_sizes {f fN : Addr} {fd fdN : FuncData} (F : Fun K "sizes_of_pair" "sizes_of_pair" sSizes f fd) (O : CsOk K D c) (GN : FnOk P w K mg base CX0 1 fN fdN ["value"] (spNeedCond c)) (gN : mg "need_condition" = some (.ref fN)) (kN : PySem.W.keepIn K (.ref fN) = true) (bN : Binds K fdN ["value"] [])
    (mm : mg "max" = none) : FnOk P w K mg base CX0 2 f fd ["one", "other"] (spSizes c) := by
  refine F.ok scSizes (fun vs H Q E h => ?_) (fun cdv A outer s H vs Q E hr h => ?_)
  · obtain ⟨a, b, m, n, rfl, _⟩ := h
    rfl
  · obtain ⟨a, b, m, n, rfl, h1, h2, q⟩ := h
    refine ⟨_, pss_cons (ps_expr (pe_call GN hr rfl gN kN bN .nil pass0 (pa_cons (pv 0) pa_nil))) (pss_cons (ps_expr (pe_call GN hr rfl gN kN bN .nil pass0 (pa_cons (pv 1) pa_nil)))
      (pss_cons (ps_set (i := 2) scSizes.nd rfl (.inl rfl) (pe_op op_add (pe_fld (pv 0) rfl) (pe_fld (pv 1) rfl)))
      (pss_cons (ps_set (i := 3) scSizes.nd rfl (.inl rfl) (pe_op op_add (pe_callB (call_max2 rfl) (by rfl) mm (by decide +kernel) (pa_cons (pe_fld (pv 0) rfl) (pa_cons (pe_fld (pv 1) rfl) pa_nil))) pe_int))
      (pss_one (ps_ret (pe_tup (pa_cons (pv 2) (pa_cons (pv 3) (pa_cons (pe_op op_add (pe_fld (pv 0) rfl) (pe_fld (pv 1) rfl)) pa_nil))))))))), ?_⟩
    obtain ⟨dx, fs, ha, l1, l2, l3, _⟩ := h1.get
    obtain ⟨dy, gs, hb, r1, r2, r3, _⟩ := h2.get
    have o := O.of m
    have u := O.of n
    refine ⟨_, rfl, a, m, rfl, h1, _, rfl, b, n, rfl, h2, ?_⟩
    refine ⟨_, rfl, a, _, dx, fs, _, rfl, ha, o.cl, o.n1, l1, _, rfl, b, _, dy, gs, _, rfl, hb, u.cl, u.n1, r1, _, _, rfl, rfl, ?_⟩
    refine ⟨_, rfl, a, _, dx, fs, _, rfl, ha, o.cl, o.n2, l2, _, rfl, b, _, dy, gs, _, rfl, hb, u.cl, u.n2, r2, _, _, rfl, _, _, rfl, rfl, ?_⟩
    refine ⟨_, rfl, _, rfl, _, rfl, a, _, dx, fs, _, rfl, ha, o.cl, o.n3, l3, _, rfl, b, _, dy, gs, _, rfl, hb, u.cl, u.n3, r3, _, _, rfl, rfl, (by show 3 ≤ sizeLine; decide), fun p hp => ?_⟩
    have z := q p hp
    have e1 : ((m.leaves : Nat) : Int) + ((n.leaves : Nat) : Int) = ((m.leaves + n.leaves : Nat) : Int) := by omega
    have e3 : ((m.names : Nat) : Int) + ((n.names : Nat) : Int) = ((m.names + n.names : Nat) : Int) := by omega
    have e2 : (if ((n.depth : Nat) : Int) > ((m.depth : Nat) : Int) then ((n.depth : Nat) : Int) else ((m.depth : Nat) : Int)) + 1 = ((max m.depth n.depth + 1 : Nat) : Int) := by
      split <;> omega
    rw [← e1, ← e2, ← e3] at z
    exact z
theorem ok_boinit {f cda cc f2 fS : Addr} {kV : Value} {fd fdS fdC : FuncData} (F : FunX K "__init__" "Both.__init__" (sBo 0) f cda cc kV fd) (S : SupOf P K f cda cc c.bo c.bo f2 "self") (cl : Cls K c.bo) (n1 : NoAttr K c.bo "first") (n2 : NoAttr K c.bo "second")
    (GS : FnOk P w K mg base CX0 2 fS fdS ["one", "other"] (spSizes c)) (gS : mg "sizes_of_pair" = some (.ref fS)) (kS : PySem.W.keepIn K (.ref fS) = true) (bS : Binds K fdS ["one", "other"] [])
    (GC : FnOk P w K mg base CX0 1 f2 fdC ["self", "leaf_count", "height", "name_count"] (spCond c.bo)) (bC : Binds K fdC ["self", "leaf_count", "height", "name_count"] []) (ms : mg "super" = none) :
    FnOk P w K mg base CX0 3 f fd ["self", "one", "other"] (spPair c c.bo) := by
  refine F.ok scBoInit (fun vs H Q E h => ?_) (fun A outer s H vs Q E hr h => ?_)
  · obtain ⟨a, dx, p, q, m, n, rfl, _⟩ := h
    rfl
  · obtain ⟨a, dx, p, q, m, n, rfl, ha, h1, h2, l6, d5, n8, qq⟩ := h
    have hr1 := hr.mono (show 1 ≤ 2 by decide)
    refine ⟨_, pssa_cons (psa (ps_set (i := 4) scBoInit.nd rfl (.inl rfl) (pe_call GS hr rfl gS kS bS .nil pass0 (pa_cons (pv 1) (pa_cons (pv 2) pa_nil)))))
      (pssa_cons (psa_superS (i := 0) S (GC.raw bC .nil) hr1 pass0 rfl rfl rfl rfl rfl rfl ms rfl (pv 4))
      (pssa (pss_cons (ps_fld (pv 0) (pv 1) rfl) (pss_one (ps_fld (pv 0) (pv 2) rfl))))), ?_⟩
    refine ⟨_, rfl, _, rfl, p, q, m, n, rfl, h1, h2, fun t ht => ?_⟩
    have nat : a ≠ t := ne_of_none ha ht
    have ha1 := (upd_ne (o := .tup [.int ((m.leaves + n.leaves : Nat) : Int), .int ((max m.depth n.depth + 1 : Nat) : Int), .int ((m.names + n.names : Nat) : Int)]) nat).trans ha
    refine ⟨a, dx, [], rfl, ha1, _, rfl, t, _, rfl, .inl (.of upd_same), a, dx, _, _, _, [], rfl, ha1, (by decide), (by omega), (by omega), (by omega), ?_⟩
    refine ⟨_, rfl, _, rfl, a, c.bo, dx, _, rfl, upd_same, cl, n1, (by show 3 < 1000; decide), ?_⟩
    refine ⟨_, rfl, _, rfl, a, c.bo, dx, _, rfl, upd_same, cl, n2, (by show 4 < 1000; decide), ?_⟩
    rw [upd_upd, upd_upd]
    exact qq _ (Same.new ht)
theorem ok_eiinit {f cda cc f2 fS : Addr} {kV : Value} {fd fdS fdC : FuncData} (F : FunX K "__init__" "Either.__init__" (sEi 0) f cda cc kV fd) (S : SupOf P K f cda cc c.ei c.ei f2 "self") (cl : Cls K c.ei) (n1 : NoAttr K c.ei "first") (n2 : NoAttr K c.ei "second")
    (GS : FnOk P w K mg base CX0 2 fS fdS ["one", "other"] (spSizes c)) (gS : mg "sizes_of_pair" = some (.ref fS)) (kS : PySem.W.keepIn K (.ref fS) = true) (bS : Binds K fdS ["one", "other"] [])
    (GC : FnOk P w K mg base CX0 1 f2 fdC ["self", "leaf_count", "height", "name_count"] (spCond c.ei)) (bC : Binds K fdC ["self", "leaf_count", "height", "name_count"] []) (ms : mg "super" = none) :
    FnOk P w K mg base CX0 3 f fd ["self", "one", "other"] (spPair c c.ei) := by
  refine F.ok scEiInit (fun vs H Q E h => ?_) (fun A outer s H vs Q E hr h => ?_)
  · obtain ⟨a, dx, p, q, m, n, rfl, _⟩ := h
    rfl
  · obtain ⟨a, dx, p, q, m, n, rfl, ha, h1, h2, l6, d5, n8, qq⟩ := h
    have hr1 := hr.mono (show 1 ≤ 2 by decide)
    refine ⟨_, pssa_cons (psa (ps_set (i := 4) scEiInit.nd rfl (.inl rfl) (pe_call GS hr rfl gS kS bS .nil pass0 (pa_cons (pv 1) (pa_cons (pv 2) pa_nil)))))
      (pssa_cons (psa_superS (i := 0) S (GC.raw bC .nil) hr1 pass0 rfl rfl rfl rfl rfl rfl ms rfl (pv 4))
      (pssa (pss_cons (ps_fld (pv 0) (pv 1) rfl) (pss_one (ps_fld (pv 0) (pv 2) rfl))))), ?_⟩
    refine ⟨_, rfl, _, rfl, p, q, m, n, rfl, h1, h2, fun t ht => ?_⟩
    have nat : a ≠ t := ne_of_none ha ht
    have ha1 := (upd_ne (o := .tup [.int ((m.leaves + n.leaves : Nat) : Int), .int ((max m.depth n.depth + 1 : Nat) : Int), .int ((m.names + n.names : Nat) : Int)]) nat).trans ha
    refine ⟨a, dx, [], rfl, ha1, _, rfl, t, _, rfl, .inl (.of upd_same), a, dx, _, _, _, [], rfl, ha1, (by decide), (by omega), (by omega), (by omega), ?_⟩
    refine ⟨_, rfl, _, rfl, a, c.ei, dx, _, rfl, upd_same, cl, n1, (by show 3 < 1000; decide), ?_⟩
    refine ⟨_, rfl, _, rfl, a, c.ei, dx, _, rfl, upd_same, cl, n2, (by show 4 < 1000; decide), ?_⟩
    rw [upd_upd, upd_upd]
    exact qq _ (Same.new ht)
theorem ok_ntinit {f cda cc f2 fN : Addr} {kV : Value} {fd fdN fdC : FuncData} (F : FunX K "__init__" "Not.__init__" (sNt 0) f cda cc kV fd) (S : SupOf P K f cda cc c.nt c.nt f2 "self") (O : CsOk K D c) (n1 : NoAttr K c.nt "inner")
    (GN : FnOk P w K mg base CX0 1 fN fdN ["value"] (spNeedCond c)) (gN : mg "need_condition" = some (.ref fN)) (kN : PySem.W.keepIn K (.ref fN) = true) (bN : Binds K fdN ["value"] [])
    (GC : FnOk P w K mg base CX0 1 f2 fdC ["self", "leaf_count", "height", "name_count"] (spCond c.nt)) (bC : Binds K fdC ["self", "leaf_count", "height", "name_count"] []) (ms : mg "super" = none) :
    FnOk P w K mg base CX0 2 f fd ["self", "one"] (spNeg c c.nt) := by
  refine F.ok scNtInit (fun vs H Q E h => ?_) (fun A outer s H vs Q E hr h => ?_)
  · obtain ⟨a, dx, p, m, rfl, _⟩ := h
    rfl
  · obtain ⟨a, dx, p, m, rfl, ha, h1, l6, d5, n8, qq⟩ := h
    refine ⟨_, pssa_cons (psa (ps_expr (pe_call GN hr rfl gN kN bN .nil pass0 (pa_cons (pv 1) pa_nil))))
      (pssa_cons (psa_super (i := 0) S (GC.raw bC .nil) hr pass0 rfl rfl rfl rfl rfl rfl ms rfl (pa_cons (pe_fld (pv 1) rfl) (pa_cons (pe_op op_add (pe_fld (pv 1) rfl) pe_int) (pa_cons (pe_fld (pv 1) rfl) pa_nil))))
      (pssa (pss_one (ps_fld (pv 0) (pv 1) rfl)))), ?_⟩
    obtain ⟨dy, gs, hb, r1, r2, r3, _⟩ := h1.get
    have u := O.of m
    refine ⟨_, rfl, p, m, rfl, h1, ?_⟩
    refine ⟨a, dx, [], rfl, ha, _, rfl, p, _, dy, gs, _, rfl, hb, u.cl, u.n1, r1, _, rfl, p, _, dy, gs, _, rfl, hb, u.cl, u.n2, r2, _, _, rfl, rfl, _, rfl, p, _, dy, gs, _, rfl, hb, u.cl, u.n3, r3, ?_⟩
    refine ⟨a, dx, _, _, _, [], rfl, ha, (by decide), (by omega), (by omega), (by omega), ?_⟩
    refine ⟨_, rfl, _, rfl, a, c.nt, dx, _, rfl, upd_same, O.nt.cl, n1, (by show 3 < 1000; decide), ?_⟩
    rw [upd_upd]
    exact qq
end
end G
set_option Elab.async false
set_option linter.all false
set_option maxRecDepth 100000
set_option maxHeartbeats 2000000
/-! C3: what conditions do: leaves, depth, holds, called, joined. -/
namespace G
open PySem PySem.Spec PyProof.Rows L2 NdefX StX
def spLeaves (c : Cs) : Sp := fun vs H Q _ => ∃ (a : Addr) (m : Md), vs = [.ref a] ∧ CoAt c H a m ∧ Q (.int (m.leaves : Nat)) H
def spDepth (c : Cs) : Sp := fun vs H Q _ => ∃ (a : Addr) (m : Md), vs = [.ref a] ∧ CoAt c H a m ∧ Q (.int (m.depth : Nat)) H
/-- holds of the class whose tag is t, down to the depth d -/
def spHolds (c : Cs) (t d : Nat) : Sp := fun vs H Q _ => ∃ (a v : Addr) (y : Str) (m : Md) (zs : List Str) (kvs : List (Key × V)), vs = [.ref a, .str y, .ref v] ∧ CoAt c H a m ∧ m.tag = t ∧ m.depth ≤ d ∧ H v = some (.dK kvs) ∧ ValN zs kvs ∧ Q (.bl (m.holds y kvs)) H
def spCall (c : Cs) (d : Nat) : Sp := fun vs H Q _ => ∃ (a v : Addr) (y : Str) (m : Md) (zs : List Str) (kvs : List (Key × V)), vs = [.ref a, .str y, .ref v] ∧ CoAt c H a m ∧ m.depth ≤ d ∧ NameZ y ∧ H v = some (.dK kvs) ∧ ValOk zs kvs ∧
  ∀ H', Same H H' → Q (.bl (m.holds y kvs)) H'
def HoldsAll (P : Program) (w : World) (K : PySem.W.Frag) (mg : Str → Option Value) (base : Heap) (c : Cs) (k d : Nat) : Prop := ∀ m : Md, PolyM P w K mg base k (m.cls c) "holds" (spHolds c m.tag d)
/-- the sizes of a pair are within bounds -/
def Fits (m n : Md) : Prop := m.leaves + n.leaves ≤ 6 ∧ max m.depth n.depth + 1 ≤ 5 ∧ m.names + n.names ≤ 8
def spAnd (c : Cs) : Sp := fun vs H Q _ => ∃ (a b : Addr) (m n : Md), vs = [.ref a, .ref b] ∧ CoAt c H a m ∧ CoAt c H b n ∧ Fits m n ∧ ∀ r H', CoAt c H' r (.both m n) → Same H H' → Q (.ref r) H'
def spOr (c : Cs) : Sp := fun vs H Q _ => ∃ (a b : Addr) (m n : Md), vs = [.ref a, .ref b] ∧ CoAt c H a m ∧ CoAt c H b n ∧ Fits m n ∧ ∀ r H', CoAt c H' r (.eith m n) → Same H H' → Q (.ref r) H'
def spInv (c : Cs) : Sp := fun vs H Q _ => ∃ (a : Addr) (m : Md), vs = [.ref a] ∧ CoAt c H a m ∧ m.leaves ≤ 6 ∧ m.depth + 1 ≤ 5 ∧ m.names ≤ 8 ∧ ∀ r H', CoAt c H' r (.neg m) → Same H H' → Q (.ref r) H'
theorem put_same {H1 H' : Hp} {x dx C : Addr} {u : HO} (hx : H1 x = Option.none) (hdx : H1 dx = Option.none) (s' : Same (upd (upd H1 dx (.own x)) x (.ins C dx [])) H') : Same H1 (upd H' x u) := fun p o e => by
  have n1 := ne_of_none e hx
  rw [upd_ne n1]
  refine s' p o ?_
  rw [upd_ne n1, upd_ne (ne_of_none e hdx)]
  exact e
theorem new_same {H1 : Hp} {x dx C : Addr} (hx : H1 x = Option.none) (hdx : H1 dx = Option.none) : Same H1 (upd (upd H1 dx (.own x)) x (.ins C dx [])) := fun p o e => by
  rw [upd_ne (ne_of_none e hx), upd_ne (ne_of_none e hdx)]
  exact e
/-- a Both just made -/
theorem bo_made {c : Cs} {p q : Addr} {m n : Md} {H1 : Hp} {Q : VK} {E : XK} (h1 : CoAt c H1 p m) (h2 : CoAt c H1 q n) (f : Fits m n) (z : ∀ r H', CoAt c H' r (.both m n) → Same H1 H' → Q (.ref r) H') :
    ∀ x dx, H1 x = Option.none → H1 dx = Option.none → dx ≠ x → spPair c c.bo [.ref x, .ref p, .ref q] (upd (upd H1 dx (.own x)) x (.ins c.bo dx [])) (fun v H2 => v = .non ∧ Q (.ref x) H2) E := by
  intro x dx hx hdx _
  have s0 := new_same (C := c.bo) hx hdx
  refine ⟨x, dx, p, q, m, n, rfl, upd_same, h1.same s0, h2.same s0, f.1, f.2.1, f.2.2, fun H' s' => ⟨rfl, ?_⟩⟩
  have s1 := put_same (u := .ins c.bo dx (pairFs (m.leaves + n.leaves) (max m.depth n.depth + 1) (m.names + n.names) p q)) hx hdx s'
  exact z x _ ⟨p, q, dx, upd_same, h1.same s1, h2.same s1⟩ s1
theorem ei_made {c : Cs} {p q : Addr} {m n : Md} {H1 : Hp} {Q : VK} {E : XK} (h1 : CoAt c H1 p m) (h2 : CoAt c H1 q n) (f : Fits m n) (z : ∀ r H', CoAt c H' r (.eith m n) → Same H1 H' → Q (.ref r) H') :
    ∀ x dx, H1 x = Option.none → H1 dx = Option.none → dx ≠ x → spPair c c.ei [.ref x, .ref p, .ref q] (upd (upd H1 dx (.own x)) x (.ins c.ei dx [])) (fun v H2 => v = .non ∧ Q (.ref x) H2) E := by
  intro x dx hx hdx _
  have s0 := new_same (C := c.ei) hx hdx
  refine ⟨x, dx, p, q, m, n, rfl, upd_same, h1.same s0, h2.same s0, f.1, f.2.1, f.2.2, fun H' s' => ⟨rfl, ?_⟩⟩
  have s1 := put_same (u := .ins c.ei dx (pairFs (m.leaves + n.leaves) (max m.depth n.depth + 1) (m.names + n.names) p q)) hx hdx s'
  exact z x _ ⟨p, q, dx, upd_same, h1.same s1, h2.same s1⟩ s1
theorem nt_made {c : Cs} {p : Addr} {m : Md} {H1 : Hp} {Q : VK} {E : XK} (h1 : CoAt c H1 p m) (l6 : m.leaves ≤ 6) (d5 : m.depth + 1 ≤ 5) (n8 : m.names ≤ 8) (z : ∀ r H', CoAt c H' r (.neg m) → Same H1 H' → Q (.ref r) H') :
    ∀ x dx, H1 x = Option.none → H1 dx = Option.none → dx ≠ x → spNeg c c.nt [.ref x, .ref p] (upd (upd H1 dx (.own x)) x (.ins c.nt dx [])) (fun v H2 => v = .non ∧ Q (.ref x) H2) E := by
  intro x dx hx hdx _
  have s0 := new_same (C := c.nt) hx hdx
  refine ⟨x, dx, p, m, rfl, upd_same, h1.same s0, l6, d5, n8, rfl, ?_⟩
  have s1 : Same H1 (upd (upd (upd H1 dx (.own x)) x (.ins c.nt dx [])) x (.ins c.nt dx (negFs m.leaves (m.depth + 1) m.names p))) := put_same hx hdx (Same.refl _)
  exact z x _ ⟨p, dx, upd_same, h1.same s1⟩ s1
section
variable {P : Program} {w : World} {K : PySem.W.Frag} {mg : Str → Option Value} {base : Heap} {c : Cs} {D : Addr} {f : Addr} {fd : FuncData}
theorem sc_bt6 : FnScope ["self"] ["self"] (defScope (sBtw 6)) := ⟨rfl, rfl, rfl, by decide +kernel, rfl, by decide +kernel, by decide +kernel⟩
theorem sc_bt7 : FnScope ["self"] ["self"] (defScope (sBtw 7)) := ⟨rfl, rfl, rfl, by decide +kernel, rfl, by decide +kernel, by decide +kernel⟩
theorem sc_bt10 : FnScope ["self"] ["self"] (defScope (sBtw 10)) := ⟨rfl, rfl, rfl, by decide +kernel, rfl, by decide +kernel, by decide +kernel⟩
theorem sc_bt8 : FnScope ["self", "other"] ["self", "other"] (defScope (sBtw 8)) := ⟨rfl, rfl, rfl, by decide +kernel, rfl, by decide +kernel, by decide +kernel⟩
theorem sc_bt9 : FnScope ["self", "other"] ["self", "other"] (defScope (sBtw 9)) := ⟨rfl, rfl, rfl, by decide +kernel, rfl, by decide +kernel, by decide +kernel⟩
theorem sc_bt4 : FnScope ["self", "key", "value"] ["self", "key", "value"] (defScope (sBtw 4)) := ⟨rfl, rfl, rfl, by decide +kernel, rfl, by decide +kernel, by decide +kernel⟩
theorem sc_bt5 : FnScope ["self", "key", "value"] ["self", "key", "value"] (defScope (sBtw 5)) := ⟨rfl, rfl, rfl, by decide +kernel, rfl, by decide +kernel, by decide +kernel⟩
theorem ok_btleaves (F : Fun K "leaves" "Between.leaves" (sBtw 6) f fd) (O : CsOk K D c) : FnOk P w K mg base CX0 1 f fd ["self"] (spLeaves c) := by
  refine F.ok sc_bt6 (fun vs H Q E h => ?_) (fun cdv A outer s H vs Q E hr h => ?_)
  · obtain ⟨a, m, rfl, _⟩ := h
    rfl
  · obtain ⟨a, m, rfl, hc, qq⟩ := h
    obtain ⟨dx, fs, ha, l1, l2, l3, _⟩ := hc.get
    exact ⟨_, pss_one (ps_ret (pe_fld (pv 0) rfl)), _, rfl, a, _, dx, fs, _, rfl, ha, (O.of m).cl, (O.of m).n1, l1, qq⟩
theorem ok_btdepth (F : Fun K "depth" "Between.depth" (sBtw 7) f fd) (O : CsOk K D c) : FnOk P w K mg base CX0 1 f fd ["self"] (spDepth c) := by
  refine F.ok sc_bt7 (fun vs H Q E h => ?_) (fun cdv A outer s H vs Q E hr h => ?_)
  · obtain ⟨a, m, rfl, _⟩ := h
    rfl
  · obtain ⟨a, m, rfl, hc, qq⟩ := h
    obtain ⟨dx, fs, ha, l1, l2, l3, _⟩ := hc.get
    exact ⟨_, pss_one (ps_ret (pe_fld (pv 0) rfl)), _, rfl, a, _, dx, fs, _, rfl, ha, (O.of m).cl, (O.of m).n2, l2, qq⟩
theorem ok_btcall {k d : Nat} {fR : Addr} {fdR : FuncData} (F : Fun K "__call__" "Between.__call__" (sBtw 4) f fd) (HA : HoldsAll P w K mg base c k d) (h4 : 4 ≤ k) (kR : PySem.W.keepIn K (.ref fR) = true) (bR : Binds K fdR ["key", "value"] []) (gR : mg "need_record" = some (.ref fR))
    (GR : FnOk P w K mg base CX0 4 fR fdR ["key", "value"] spNeedRecord) : FnOk P w K mg base CX0 (k + 1) f fd ["self", "key", "value"] (spCall c d) := by
  refine F.ok sc_bt4 (fun vs H Q E h => ?_) (fun cdv A outer s H vs Q E hr h => ?_)
  · obtain ⟨a, v, y, m, zs, kvs, rfl, _⟩ := h
    rfl
  · obtain ⟨a, v, y, m, zs, kvs, rfl, hc, hd, hy, hv, ok, qq⟩ := h
    refine ⟨_, pss_cons (ps_expr (pe_call GR (hr.mono h4) rfl gR kR bR .nil pass0 (pa_cons (pv 1) (pa_cons (pv 2) pa_nil))))
      (pss_one (ps_ret (pe_methV (k := k) (pv 0) hr pass0 (pa_cons (pv 1) (pa_cons (pv 2) pa_nil))))), ?_⟩
    refine ⟨_, rfl, _, rfl, y, v, zs, kvs, rfl, hy, hv, ok, fun H1 s1 => ?_⟩
    have hc1 := hc.same s1
    obtain ⟨dx, fs, ha, l1, l2, l3, l4, _⟩ := hc1.get
    exact ⟨_, rfl, a, _, dx, fs, spHolds c m.tag d, rfl, ha, HA m, l4, _, rfl, _, rfl, a, v, y, m, zs, kvs, rfl, hc1, rfl, hd, s1 _ _ hv, ok.is, qq H1 s1⟩
theorem ok_btand_ {fB : Addr} {fdB : FuncData} (F : Fun K "__and__" "Between.__and__" (sBtw 8) f fd) (M : Mk K c.bo fB) (GB : FnOk P w K mg base CX0 3 fB fdB ["self", "one", "other"] (spPair c c.bo)) (gB : mg "Both" = some (.ref c.bo)) (bB : Binds K fdB ["self", "one", "other"] []) :
    FnOk P w K mg base CX0 5 f fd ["self", "other"] (spAnd c) := by
  refine F.ok sc_bt8 (fun vs H Q E h => ?_) (fun cdv A outer s H vs Q E hr h => ?_)
  · obtain ⟨a, b, m, n, rfl, _⟩ := h
    rfl
  · obtain ⟨a, b, m, n, rfl, h1, h2, ft, z⟩ := h
    exact ⟨_, pss_one (ps_ret (pe_make M GB hr rfl gB bB .nil pass0 (pa_cons (pv 0) (pa_cons (pv 1) pa_nil)))), _, rfl, _, rfl, bo_made h1 h2 ft z⟩
theorem ok_btor_ {fB : Addr} {fdB : FuncData} (F : Fun K "__or__" "Between.__or__" (sBtw 9) f fd) (M : Mk K c.ei fB) (GB : FnOk P w K mg base CX0 3 fB fdB ["self", "one", "other"] (spPair c c.ei)) (gB : mg "Either" = some (.ref c.ei)) (bB : Binds K fdB ["self", "one", "other"] []) :
    FnOk P w K mg base CX0 5 f fd ["self", "other"] (spOr c) := by
  refine F.ok sc_bt9 (fun vs H Q E h => ?_) (fun cdv A outer s H vs Q E hr h => ?_)
  · obtain ⟨a, b, m, n, rfl, _⟩ := h
    rfl
  · obtain ⟨a, b, m, n, rfl, h1, h2, ft, z⟩ := h
    exact ⟨_, pss_one (ps_ret (pe_make M GB hr rfl gB bB .nil pass0 (pa_cons (pv 0) (pa_cons (pv 1) pa_nil)))), _, rfl, _, rfl, ei_made h1 h2 ft z⟩
theorem ok_btinv {fB : Addr} {fdB : FuncData} (F : Fun K "__invert__" "Between.__invert__" (sBtw 10) f fd) (M : Mk K c.nt fB) (GB : FnOk P w K mg base CX0 2 fB fdB ["self", "one"] (spNeg c c.nt)) (gB : mg "Not" = some (.ref c.nt)) (bB : Binds K fdB ["self", "one"] []) :
    FnOk P w K mg base CX0 4 f fd ["self"] (spInv c) := by
  refine F.ok sc_bt10 (fun vs H Q E h => ?_) (fun cdv A outer s H vs Q E hr h => ?_)
  · obtain ⟨a, m, rfl, _⟩ := h
    rfl
  · obtain ⟨a, m, rfl, h1, l6, d5, n8, z⟩ := h
    exact ⟨_, pss_one (ps_ret (pe_make M GB hr rfl gB bB .nil pass0 (pa_cons (pv 0) pa_nil))), _, rfl, nt_made h1 l6 d5 n8 z⟩
theorem sc_nm4 : FnScope ["self"] ["self"] (defScope (sNam 4)) := ⟨rfl, rfl, rfl, by decide +kernel, rfl, by decide +kernel, by decide +kernel⟩
theorem sc_nm5 : FnScope ["self"] ["self"] (defScope (sNam 5)) := ⟨rfl, rfl, rfl, by decide +kernel, rfl, by decide +kernel, by decide +kernel⟩
theorem sc_nm8 : FnScope ["self"] ["self"] (defScope (sNam 8)) := ⟨rfl, rfl, rfl, by decide +kernel, rfl, by decide +kernel, by decide +kernel⟩
theorem sc_nm6 : FnScope ["self", "other"] ["self", "other"] (defScope (sNam 6)) := ⟨rfl, rfl, rfl, by decide +kernel, rfl, by decide +kernel, by decide +kernel⟩
theorem sc_nm7 : FnScope ["self", "other"] ["self", "other"] (defScope (sNam 7)) := ⟨rfl, rfl, rfl, by decide +kernel, rfl, by decide +kernel, by decide +kernel⟩
theorem sc_nm2 : FnScope ["self", "key", "value"] ["self", "key", "value"] (defScope (sNam 2)) := ⟨rfl, rfl, rfl, by decide +kernel, rfl, by decide +kernel, by decide +kernel⟩
theorem sc_nm3 : FnScope ["self", "key", "value"] ["self", "key", "value"] (defScope (sNam 3)) := ⟨rfl, rfl, rfl, by decide +kernel, rfl, by decide +kernel, by decide +kernel⟩
theorem ok_nmleaves (F : Fun K "leaves" "Named.leaves" (sNam 4) f fd) (O : CsOk K D c) : FnOk P w K mg base CX0 1 f fd ["self"] (spLeaves c) := by
  refine F.ok sc_nm4 (fun vs H Q E h => ?_) (fun cdv A outer s H vs Q E hr h => ?_)
  · obtain ⟨a, m, rfl, _⟩ := h
    rfl
  · obtain ⟨a, m, rfl, hc, qq⟩ := h
    obtain ⟨dx, fs, ha, l1, l2, l3, _⟩ := hc.get
    exact ⟨_, pss_one (ps_ret (pe_fld (pv 0) rfl)), _, rfl, a, _, dx, fs, _, rfl, ha, (O.of m).cl, (O.of m).n1, l1, qq⟩
theorem ok_nmdepth (F : Fun K "depth" "Named.depth" (sNam 5) f fd) (O : CsOk K D c) : FnOk P w K mg base CX0 1 f fd ["self"] (spDepth c) := by
  refine F.ok sc_nm5 (fun vs H Q E h => ?_) (fun cdv A outer s H vs Q E hr h => ?_)
  · obtain ⟨a, m, rfl, _⟩ := h
    rfl
  · obtain ⟨a, m, rfl, hc, qq⟩ := h
    obtain ⟨dx, fs, ha, l1, l2, l3, _⟩ := hc.get
    exact ⟨_, pss_one (ps_ret (pe_fld (pv 0) rfl)), _, rfl, a, _, dx, fs, _, rfl, ha, (O.of m).cl, (O.of m).n2, l2, qq⟩
theorem ok_nmcall {k d : Nat} {fR : Addr} {fdR : FuncData} (F : Fun K "__call__" "Named.__call__" (sNam 2) f fd) (HA : HoldsAll P w K mg base c k d) (h4 : 4 ≤ k) (kR : PySem.W.keepIn K (.ref fR) = true) (bR : Binds K fdR ["key", "value"] []) (gR : mg "need_record" = some (.ref fR))
    (GR : FnOk P w K mg base CX0 4 fR fdR ["key", "value"] spNeedRecord) : FnOk P w K mg base CX0 (k + 1) f fd ["self", "key", "value"] (spCall c d) := by
  refine F.ok sc_nm2 (fun vs H Q E h => ?_) (fun cdv A outer s H vs Q E hr h => ?_)
  · obtain ⟨a, v, y, m, zs, kvs, rfl, _⟩ := h
    rfl
  · obtain ⟨a, v, y, m, zs, kvs, rfl, hc, hd, hy, hv, ok, qq⟩ := h
    refine ⟨_, pss_cons (ps_expr (pe_call GR (hr.mono h4) rfl gR kR bR .nil pass0 (pa_cons (pv 1) (pa_cons (pv 2) pa_nil))))
      (pss_one (ps_ret (pe_methV (k := k) (pv 0) hr pass0 (pa_cons (pv 1) (pa_cons (pv 2) pa_nil))))), ?_⟩
    refine ⟨_, rfl, _, rfl, y, v, zs, kvs, rfl, hy, hv, ok, fun H1 s1 => ?_⟩
    have hc1 := hc.same s1
    obtain ⟨dx, fs, ha, l1, l2, l3, l4, _⟩ := hc1.get
    exact ⟨_, rfl, a, _, dx, fs, spHolds c m.tag d, rfl, ha, HA m, l4, _, rfl, _, rfl, a, v, y, m, zs, kvs, rfl, hc1, rfl, hd, s1 _ _ hv, ok.is, qq H1 s1⟩
theorem ok_nmand_ {fB : Addr} {fdB : FuncData} (F : Fun K "__and__" "Named.__and__" (sNam 6) f fd) (M : Mk K c.bo fB) (GB : FnOk P w K mg base CX0 3 fB fdB ["self", "one", "other"] (spPair c c.bo)) (gB : mg "Both" = some (.ref c.bo)) (bB : Binds K fdB ["self", "one", "other"] []) :
    FnOk P w K mg base CX0 5 f fd ["self", "other"] (spAnd c) := by
  refine F.ok sc_nm6 (fun vs H Q E h => ?_) (fun cdv A outer s H vs Q E hr h => ?_)
  · obtain ⟨a, b, m, n, rfl, _⟩ := h
    rfl
  · obtain ⟨a, b, m, n, rfl, h1, h2, ft, z⟩ := h
    exact ⟨_, pss_one (ps_ret (pe_make M GB hr rfl gB bB .nil pass0 (pa_cons (pv 0) (pa_cons (pv 1) pa_nil)))), _, rfl, _, rfl, bo_made h1 h2 ft z⟩
theorem ok_nmor_ {fB : Addr} {fdB : FuncData} (F : Fun K "__or__" "Named.__or__" (sNam 7) f fd) (M : Mk K c.ei fB) (GB : FnOk P w K mg base CX0 3 fB fdB ["self", "one", "other"] (spPair c c.ei)) (gB : mg "Either" = some (.ref c.ei)) (bB : Binds K fdB ["self", "one", "other"] []) :
    FnOk P w K mg base CX0 5 f fd ["self", "other"] (spOr c) := by
  refine F.ok sc_nm7 (fun vs H Q E h => ?_) (fun cdv A outer s H vs Q E hr h => ?_)
  · obtain ⟨a, b, m, n, rfl, _⟩ := h
    rfl
  · obtain ⟨a, b, m, n, rfl, h1, h2, ft, z⟩ := h
    exact ⟨_, pss_one (ps_ret (pe_make M GB hr rfl gB bB .nil pass0 (pa_cons (pv 0) (pa_cons (pv 1) pa_nil)))), _, rfl, _, rfl, ei_made h1 h2 ft z⟩
theorem ok_nminv {fB : Addr} {fdB : FuncData} (F : Fun K "__invert__" "Named.__invert__" (sNam 8) f fd) (M : Mk K c.nt fB) (GB : FnOk P w K mg base CX0 2 fB fdB ["self", "one"] (spNeg c c.nt)) (gB : mg "Not" = some (.ref c.nt)) (bB : Binds K fdB ["self", "one"] []) :
    FnOk P w K mg base CX0 4 f fd ["self"] (spInv c) := by
  refine F.ok sc_nm8 (fun vs H Q E h => ?_) (fun cdv A outer s H vs Q E hr h => ?_)
  · obtain ⟨a, m, rfl, _⟩ := h
    rfl
  · obtain ⟨a, m, rfl, h1, l6, d5, n8, z⟩ := h
    exact ⟨_, pss_one (ps_ret (pe_make M GB hr rfl gB bB .nil pass0 (pa_cons (pv 0) pa_nil))), _, rfl, nt_made h1 l6 d5 n8 z⟩
theorem sc_bo5 : FnScope ["self"] ["self"] (defScope (sBo 5)) := ⟨rfl, rfl, rfl, by decide +kernel, rfl, by decide +kernel, by decide +kernel⟩
theorem sc_bo6 : FnScope ["self"] ["self"] (defScope (sBo 6)) := ⟨rfl, rfl, rfl, by decide +kernel, rfl, by decide +kernel, by decide +kernel⟩
theorem sc_bo9 : FnScope ["self"] ["self"] (defScope (sBo 9)) := ⟨rfl, rfl, rfl, by decide +kernel, rfl, by decide +kernel, by decide +kernel⟩
theorem sc_bo7 : FnScope ["self", "other"] ["self", "other"] (defScope (sBo 7)) := ⟨rfl, rfl, rfl, by decide +kernel, rfl, by decide +kernel, by decide +kernel⟩
theorem sc_bo8 : FnScope ["self", "other"] ["self", "other"] (defScope (sBo 8)) := ⟨rfl, rfl, rfl, by decide +kernel, rfl, by decide +kernel, by decide +kernel⟩
theorem sc_bo3 : FnScope ["self", "key", "value"] ["self", "key", "value"] (defScope (sBo 3)) := ⟨rfl, rfl, rfl, by decide +kernel, rfl, by decide +kernel, by decide +kernel⟩
theorem sc_bo4 : FnScope ["self", "key", "value"] ["self", "key", "value"] (defScope (sBo 4)) := ⟨rfl, rfl, rfl, by decide +kernel, rfl, by decide +kernel, by decide +kernel⟩
theorem ok_boleaves (F : Fun K "leaves" "Both.leaves" (sBo 5) f fd) (O : CsOk K D c) : FnOk P w K mg base CX0 1 f fd ["self"] (spLeaves c) := by
  refine F.ok sc_bo5 (fun vs H Q E h => ?_) (fun cdv A outer s H vs Q E hr h => ?_)
  · obtain ⟨a, m, rfl, _⟩ := h
    rfl
  · obtain ⟨a, m, rfl, hc, qq⟩ := h
    obtain ⟨dx, fs, ha, l1, l2, l3, _⟩ := hc.get
    exact ⟨_, pss_one (ps_ret (pe_fld (pv 0) rfl)), _, rfl, a, _, dx, fs, _, rfl, ha, (O.of m).cl, (O.of m).n1, l1, qq⟩
theorem ok_bodepth (F : Fun K "depth" "Both.depth" (sBo 6) f fd) (O : CsOk K D c) : FnOk P w K mg base CX0 1 f fd ["self"] (spDepth c) := by
  refine F.ok sc_bo6 (fun vs H Q E h => ?_) (fun cdv A outer s H vs Q E hr h => ?_)
  · obtain ⟨a, m, rfl, _⟩ := h
    rfl
  · obtain ⟨a, m, rfl, hc, qq⟩ := h
    obtain ⟨dx, fs, ha, l1, l2, l3, _⟩ := hc.get
    exact ⟨_, pss_one (ps_ret (pe_fld (pv 0) rfl)), _, rfl, a, _, dx, fs, _, rfl, ha, (O.of m).cl, (O.of m).n2, l2, qq⟩
theorem ok_bocall {k d : Nat} {fR : Addr} {fdR : FuncData} (F : Fun K "__call__" "Both.__call__" (sBo 3) f fd) (HA : HoldsAll P w K mg base c k d) (h4 : 4 ≤ k) (kR : PySem.W.keepIn K (.ref fR) = true) (bR : Binds K fdR ["key", "value"] []) (gR : mg "need_record" = some (.ref fR))
    (GR : FnOk P w K mg base CX0 4 fR fdR ["key", "value"] spNeedRecord) : FnOk P w K mg base CX0 (k + 1) f fd ["self", "key", "value"] (spCall c d) := by
  refine F.ok sc_bo3 (fun vs H Q E h => ?_) (fun cdv A outer s H vs Q E hr h => ?_)
  · obtain ⟨a, v, y, m, zs, kvs, rfl, _⟩ := h
    rfl
  · obtain ⟨a, v, y, m, zs, kvs, rfl, hc, hd, hy, hv, ok, qq⟩ := h
    refine ⟨_, pss_cons (ps_expr (pe_call GR (hr.mono h4) rfl gR kR bR .nil pass0 (pa_cons (pv 1) (pa_cons (pv 2) pa_nil))))
      (pss_one (ps_ret (pe_methV (k := k) (pv 0) hr pass0 (pa_cons (pv 1) (pa_cons (pv 2) pa_nil))))), ?_⟩
    refine ⟨_, rfl, _, rfl, y, v, zs, kvs, rfl, hy, hv, ok, fun H1 s1 => ?_⟩
    have hc1 := hc.same s1
    obtain ⟨dx, fs, ha, l1, l2, l3, l4, _⟩ := hc1.get
    exact ⟨_, rfl, a, _, dx, fs, spHolds c m.tag d, rfl, ha, HA m, l4, _, rfl, _, rfl, a, v, y, m, zs, kvs, rfl, hc1, rfl, hd, s1 _ _ hv, ok.is, qq H1 s1⟩
theorem ok_boand_ {fB : Addr} {fdB : FuncData} (F : Fun K "__and__" "Both.__and__" (sBo 7) f fd) (M : Mk K c.bo fB) (GB : FnOk P w K mg base CX0 3 fB fdB ["self", "one", "other"] (spPair c c.bo)) (gB : mg "Both" = some (.ref c.bo)) (bB : Binds K fdB ["self", "one", "other"] []) :
    FnOk P w K mg base CX0 5 f fd ["self", "other"] (spAnd c) := by
  refine F.ok sc_bo7 (fun vs H Q E h => ?_) (fun cdv A outer s H vs Q E hr h => ?_)
  · obtain ⟨a, b, m, n, rfl, _⟩ := h
    rfl
  · obtain ⟨a, b, m, n, rfl, h1, h2, ft, z⟩ := h
    exact ⟨_, pss_one (ps_ret (pe_make M GB hr rfl gB bB .nil pass0 (pa_cons (pv 0) (pa_cons (pv 1) pa_nil)))), _, rfl, _, rfl, bo_made h1 h2 ft z⟩
theorem ok_boor_ {fB : Addr} {fdB : FuncData} (F : Fun K "__or__" "Both.__or__" (sBo 8) f fd) (M : Mk K c.ei fB) (GB : FnOk P w K mg base CX0 3 fB fdB ["self", "one", "other"] (spPair c c.ei)) (gB : mg "Either" = some (.ref c.ei)) (bB : Binds K fdB ["self", "one", "other"] []) :
    FnOk P w K mg base CX0 5 f fd ["self", "other"] (spOr c) := by
  refine F.ok sc_bo8 (fun vs H Q E h => ?_) (fun cdv A outer s H vs Q E hr h => ?_)
  · obtain ⟨a, b, m, n, rfl, _⟩ := h
    rfl
  · obtain ⟨a, b, m, n, rfl, h1, h2, ft, z⟩ := h
    exact ⟨_, pss_one (ps_ret (pe_make M GB hr rfl gB bB .nil pass0 (pa_cons (pv 0) (pa_cons (pv 1) pa_nil)))), _, rfl, _, rfl, ei_made h1 h2 ft z⟩
theorem ok_boinv {fB : Addr} {fdB : FuncData} (F : Fun K "__invert__" "Both.__invert__" (sBo 9) f fd) (M : Mk K c.nt fB) (GB : FnOk P w K mg base CX0 2 fB fdB ["self", "one"] (spNeg c c.nt)) (gB : mg "Not" = some (.ref c.nt)) (bB : Binds K fdB ["self", "one"] []) :
    FnOk P w K mg base CX0 4 f fd ["self"] (spInv c) := by
  refine F.ok sc_bo9 (fun vs H Q E h => ?_) (fun cdv A outer s H vs Q E hr h => ?_)
  · obtain ⟨a, m, rfl, _⟩ := h
    rfl
  · obtain ⟨a, m, rfl, h1, l6, d5, n8, z⟩ := h
    exact ⟨_, pss_one (ps_ret (pe_make M GB hr rfl gB bB .nil pass0 (pa_cons (pv 0) pa_nil))), _, rfl, nt_made h1 l6 d5 n8 z⟩
theorem sc_ei5 : FnScope ["self"] ["self"] (defScope (sEi 5)) := ⟨rfl, rfl, rfl, by decide +kernel, rfl, by decide +kernel, by decide +kernel⟩
theorem sc_ei6 : FnScope ["self"] ["self"] (defScope (sEi 6)) := ⟨rfl, rfl, rfl, by decide +kernel, rfl, by decide +kernel, by decide +kernel⟩
theorem sc_ei9 : FnScope ["self"] ["self"] (defScope (sEi 9)) := ⟨rfl, rfl, rfl, by decide +kernel, rfl, by decide +kernel, by decide +kernel⟩
theorem sc_ei7 : FnScope ["self", "other"] ["self", "other"] (defScope (sEi 7)) := ⟨rfl, rfl, rfl, by decide +kernel, rfl, by decide +kernel, by decide +kernel⟩
theorem sc_ei8 : FnScope ["self", "other"] ["self", "other"] (defScope (sEi 8)) := ⟨rfl, rfl, rfl, by decide +kernel, rfl, by decide +kernel, by decide +kernel⟩
theorem sc_ei3 : FnScope ["self", "key", "value"] ["self", "key", "value"] (defScope (sEi 3)) := ⟨rfl, rfl, rfl, by decide +kernel, rfl, by decide +kernel, by decide +kernel⟩
theorem sc_ei4 : FnScope ["self", "key", "value"] ["self", "key", "value"] (defScope (sEi 4)) := ⟨rfl, rfl, rfl, by decide +kernel, rfl, by decide +kernel, by decide +kernel⟩
theorem ok_eileaves (F : Fun K "leaves" "Either.leaves" (sEi 5) f fd) (O : CsOk K D c) : FnOk P w K mg base CX0 1 f fd ["self"] (spLeaves c) := by
  refine F.ok sc_ei5 (fun vs H Q E h => ?_) (fun cdv A outer s H vs Q E hr h => ?_)
  · obtain ⟨a, m, rfl, _⟩ := h
    rfl
  · obtain ⟨a, m, rfl, hc, qq⟩ := h
    obtain ⟨dx, fs, ha, l1, l2, l3, _⟩ := hc.get
    exact ⟨_, pss_one (ps_ret (pe_fld (pv 0) rfl)), _, rfl, a, _, dx, fs, _, rfl, ha, (O.of m).cl, (O.of m).n1, l1, qq⟩
theorem ok_eidepth (F : Fun K "depth" "Either.depth" (sEi 6) f fd) (O : CsOk K D c) : FnOk P w K mg base CX0 1 f fd ["self"] (spDepth c) := by
  refine F.ok sc_ei6 (fun vs H Q E h => ?_) (fun cdv A outer s H vs Q E hr h => ?_)
  · obtain ⟨a, m, rfl, _⟩ := h
    rfl
  · obtain ⟨a, m, rfl, hc, qq⟩ := h
    obtain ⟨dx, fs, ha, l1, l2, l3, _⟩ := hc.get
    exact ⟨_, pss_one (ps_ret (pe_fld (pv 0) rfl)), _, rfl, a, _, dx, fs, _, rfl, ha, (O.of m).cl, (O.of m).n2, l2, qq⟩
theorem ok_eicall {k d : Nat} {fR : Addr} {fdR : FuncData} (F : Fun K "__call__" "Either.__call__" (sEi 3) f fd) (HA : HoldsAll P w K mg base c k d) (h4 : 4 ≤ k) (kR : PySem.W.keepIn K (.ref fR) = true) (bR : Binds K fdR ["key", "value"] []) (gR : mg "need_record" = some (.ref fR))
    (GR : FnOk P w K mg base CX0 4 fR fdR ["key", "value"] spNeedRecord) : FnOk P w K mg base CX0 (k + 1) f fd ["self", "key", "value"] (spCall c d) := by
  refine F.ok sc_ei3 (fun vs H Q E h => ?_) (fun cdv A outer s H vs Q E hr h => ?_)
  · obtain ⟨a, v, y, m, zs, kvs, rfl, _⟩ := h
    rfl
  · obtain ⟨a, v, y, m, zs, kvs, rfl, hc, hd, hy, hv, ok, qq⟩ := h
    refine ⟨_, pss_cons (ps_expr (pe_call GR (hr.mono h4) rfl gR kR bR .nil pass0 (pa_cons (pv 1) (pa_cons (pv 2) pa_nil))))
      (pss_one (ps_ret (pe_methV (k := k) (pv 0) hr pass0 (pa_cons (pv 1) (pa_cons (pv 2) pa_nil))))), ?_⟩
    refine ⟨_, rfl, _, rfl, y, v, zs, kvs, rfl, hy, hv, ok, fun H1 s1 => ?_⟩
    have hc1 := hc.same s1
    obtain ⟨dx, fs, ha, l1, l2, l3, l4, _⟩ := hc1.get
    exact ⟨_, rfl, a, _, dx, fs, spHolds c m.tag d, rfl, ha, HA m, l4, _, rfl, _, rfl, a, v, y, m, zs, kvs, rfl, hc1, rfl, hd, s1 _ _ hv, ok.is, qq H1 s1⟩
theorem ok_eiand_ {fB : Addr} {fdB : FuncData} (F : Fun K "__and__" "Either.__and__" (sEi 7) f fd) (M : Mk K c.bo fB) (GB : FnOk P w K mg base CX0 3 fB fdB ["self", "one", "other"] (spPair c c.bo)) (gB : mg "Both" = some (.ref c.bo)) (bB : Binds K fdB ["self", "one", "other"] []) :
    FnOk P w K mg base CX0 5 f fd ["self", "other"] (spAnd c) := by
  refine F.ok sc_ei7 (fun vs H Q E h => ?_) (fun cdv A outer s H vs Q E hr h => ?_)
  · obtain ⟨a, b, m, n, rfl, _⟩ := h
    rfl
  · obtain ⟨a, b, m, n, rfl, h1, h2, ft, z⟩ := h
    exact ⟨_, pss_one (ps_ret (pe_make M GB hr rfl gB bB .nil pass0 (pa_cons (pv 0) (pa_cons (pv 1) pa_nil)))), _, rfl, _, rfl, bo_made h1 h2 ft z⟩
theorem ok_eior_ {fB : Addr} {fdB : FuncData} (F : Fun K "__or__" "Either.__or__" (sEi 8) f fd) (M : Mk K c.ei fB) (GB : FnOk P w K mg base CX0 3 fB fdB ["self", "one", "other"] (spPair c c.ei)) (gB : mg "Either" = some (.ref c.ei)) (bB : Binds K fdB ["self", "one", "other"] []) :
    FnOk P w K mg base CX0 5 f fd ["self", "other"] (spOr c) := by
  refine F.ok sc_ei8 (fun vs H Q E h => ?_) (fun cdv A outer s H vs Q E hr h => ?_)
  · obtain ⟨a, b, m, n, rfl, _⟩ := h
    rfl
  · obtain ⟨a, b, m, n, rfl, h1, h2, ft, z⟩ := h
    exact ⟨_, pss_one (ps_ret (pe_make M GB hr rfl gB bB .nil pass0 (pa_cons (pv 0) (pa_cons (pv 1) pa_nil)))), _, rfl, _, rfl, ei_made h1 h2 ft z⟩
theorem ok_eiinv {fB : Addr} {fdB : FuncData} (F : Fun K "__invert__" "Either.__invert__" (sEi 9) f fd) (M : Mk K c.nt fB) (GB : FnOk P w K mg base CX0 2 fB fdB ["self", "one"] (spNeg c c.nt)) (gB : mg "Not" = some (.ref c.nt)) (bB : Binds K fdB ["self", "one"] []) :
    FnOk P w K mg base CX0 4 f fd ["self"] (spInv c) := by
  refine F.ok sc_ei9 (fun vs H Q E h => ?_) (fun cdv A outer s H vs Q E hr h => ?_)
  · obtain ⟨a, m, rfl, _⟩ := h
    rfl
  · obtain ⟨a, m, rfl, h1, l6, d5, n8, z⟩ := h
    exact ⟨_, pss_one (ps_ret (pe_make M GB hr rfl gB bB .nil pass0 (pa_cons (pv 0) pa_nil))), _, rfl, nt_made h1 l6 d5 n8 z⟩
theorem sc_nt5 : FnScope ["self"] ["self"] (defScope (sNt 5)) := ⟨rfl, rfl, rfl, by decide +kernel, rfl, by decide +kernel, by decide +kernel⟩
theorem sc_nt6 : FnScope ["self"] ["self"] (defScope (sNt 6)) := ⟨rfl, rfl, rfl, by decide +kernel, rfl, by decide +kernel, by decide +kernel⟩
theorem sc_nt9 : FnScope ["self"] ["self"] (defScope (sNt 9)) := ⟨rfl, rfl, rfl, by decide +kernel, rfl, by decide +kernel, by decide +kernel⟩
theorem sc_nt7 : FnScope ["self", "other"] ["self", "other"] (defScope (sNt 7)) := ⟨rfl, rfl, rfl, by decide +kernel, rfl, by decide +kernel, by decide +kernel⟩
theorem sc_nt8 : FnScope ["self", "other"] ["self", "other"] (defScope (sNt 8)) := ⟨rfl, rfl, rfl, by decide +kernel, rfl, by decide +kernel, by decide +kernel⟩
theorem sc_nt2 : FnScope ["self", "key", "value"] ["self", "key", "value"] (defScope (sNt 2)) := ⟨rfl, rfl, rfl, by decide +kernel, rfl, by decide +kernel, by decide +kernel⟩
theorem sc_nt3 : FnScope ["self", "key", "value"] ["self", "key", "value"] (defScope (sNt 3)) := ⟨rfl, rfl, rfl, by decide +kernel, rfl, by decide +kernel, by decide +kernel⟩
theorem ok_ntleaves (F : Fun K "leaves" "Not.leaves" (sNt 5) f fd) (O : CsOk K D c) : FnOk P w K mg base CX0 1 f fd ["self"] (spLeaves c) := by
  refine F.ok sc_nt5 (fun vs H Q E h => ?_) (fun cdv A outer s H vs Q E hr h => ?_)
  · obtain ⟨a, m, rfl, _⟩ := h
    rfl
  · obtain ⟨a, m, rfl, hc, qq⟩ := h
    obtain ⟨dx, fs, ha, l1, l2, l3, _⟩ := hc.get
    exact ⟨_, pss_one (ps_ret (pe_fld (pv 0) rfl)), _, rfl, a, _, dx, fs, _, rfl, ha, (O.of m).cl, (O.of m).n1, l1, qq⟩
theorem ok_ntdepth (F : Fun K "depth" "Not.depth" (sNt 6) f fd) (O : CsOk K D c) : FnOk P w K mg base CX0 1 f fd ["self"] (spDepth c) := by
  refine F.ok sc_nt6 (fun vs H Q E h => ?_) (fun cdv A outer s H vs Q E hr h => ?_)
  · obtain ⟨a, m, rfl, _⟩ := h
    rfl
  · obtain ⟨a, m, rfl, hc, qq⟩ := h
    obtain ⟨dx, fs, ha, l1, l2, l3, _⟩ := hc.get
    exact ⟨_, pss_one (ps_ret (pe_fld (pv 0) rfl)), _, rfl, a, _, dx, fs, _, rfl, ha, (O.of m).cl, (O.of m).n2, l2, qq⟩
theorem ok_ntcall {k d : Nat} {fR : Addr} {fdR : FuncData} (F : Fun K "__call__" "Not.__call__" (sNt 2) f fd) (HA : HoldsAll P w K mg base c k d) (h4 : 4 ≤ k) (kR : PySem.W.keepIn K (.ref fR) = true) (bR : Binds K fdR ["key", "value"] []) (gR : mg "need_record" = some (.ref fR))
    (GR : FnOk P w K mg base CX0 4 fR fdR ["key", "value"] spNeedRecord) : FnOk P w K mg base CX0 (k + 1) f fd ["self", "key", "value"] (spCall c d) := by
  refine F.ok sc_nt2 (fun vs H Q E h => ?_) (fun cdv A outer s H vs Q E hr h => ?_)
  · obtain ⟨a, v, y, m, zs, kvs, rfl, _⟩ := h
    rfl
  · obtain ⟨a, v, y, m, zs, kvs, rfl, hc, hd, hy, hv, ok, qq⟩ := h
    refine ⟨_, pss_cons (ps_expr (pe_call GR (hr.mono h4) rfl gR kR bR .nil pass0 (pa_cons (pv 1) (pa_cons (pv 2) pa_nil))))
      (pss_one (ps_ret (pe_methV (k := k) (pv 0) hr pass0 (pa_cons (pv 1) (pa_cons (pv 2) pa_nil))))), ?_⟩
    refine ⟨_, rfl, _, rfl, y, v, zs, kvs, rfl, hy, hv, ok, fun H1 s1 => ?_⟩
    have hc1 := hc.same s1
    obtain ⟨dx, fs, ha, l1, l2, l3, l4, _⟩ := hc1.get
    exact ⟨_, rfl, a, _, dx, fs, spHolds c m.tag d, rfl, ha, HA m, l4, _, rfl, _, rfl, a, v, y, m, zs, kvs, rfl, hc1, rfl, hd, s1 _ _ hv, ok.is, qq H1 s1⟩
theorem ok_ntand_ {fB : Addr} {fdB : FuncData} (F : Fun K "__and__" "Not.__and__" (sNt 7) f fd) (M : Mk K c.bo fB) (GB : FnOk P w K mg base CX0 3 fB fdB ["self", "one", "other"] (spPair c c.bo)) (gB : mg "Both" = some (.ref c.bo)) (bB : Binds K fdB ["self", "one", "other"] []) :
    FnOk P w K mg base CX0 5 f fd ["self", "other"] (spAnd c) := by
  refine F.ok sc_nt7 (fun vs H Q E h => ?_) (fun cdv A outer s H vs Q E hr h => ?_)
  · obtain ⟨a, b, m, n, rfl, _⟩ := h
    rfl
  · obtain ⟨a, b, m, n, rfl, h1, h2, ft, z⟩ := h
    exact ⟨_, pss_one (ps_ret (pe_make M GB hr rfl gB bB .nil pass0 (pa_cons (pv 0) (pa_cons (pv 1) pa_nil)))), _, rfl, _, rfl, bo_made h1 h2 ft z⟩
theorem ok_ntor_ {fB : Addr} {fdB : FuncData} (F : Fun K "__or__" "Not.__or__" (sNt 8) f fd) (M : Mk K c.ei fB) (GB : FnOk P w K mg base CX0 3 fB fdB ["self", "one", "other"] (spPair c c.ei)) (gB : mg "Either" = some (.ref c.ei)) (bB : Binds K fdB ["self", "one", "other"] []) :
    FnOk P w K mg base CX0 5 f fd ["self", "other"] (spOr c) := by
  refine F.ok sc_nt8 (fun vs H Q E h => ?_) (fun cdv A outer s H vs Q E hr h => ?_)
  · obtain ⟨a, b, m, n, rfl, _⟩ := h
    rfl
  · obtain ⟨a, b, m, n, rfl, h1, h2, ft, z⟩ := h
    exact ⟨_, pss_one (ps_ret (pe_make M GB hr rfl gB bB .nil pass0 (pa_cons (pv 0) (pa_cons (pv 1) pa_nil)))), _, rfl, _, rfl, ei_made h1 h2 ft z⟩
theorem ok_ntinv {fB : Addr} {fdB : FuncData} (F : Fun K "__invert__" "Not.__invert__" (sNt 9) f fd) (M : Mk K c.nt fB) (GB : FnOk P w K mg base CX0 2 fB fdB ["self", "one"] (spNeg c c.nt)) (gB : mg "Not" = some (.ref c.nt)) (bB : Binds K fdB ["self", "one"] []) :
    FnOk P w K mg base CX0 4 f fd ["self"] (spInv c) := by
  refine F.ok sc_nt9 (fun vs H Q E h => ?_) (fun cdv A outer s H vs Q E hr h => ?_)
  · obtain ⟨a, m, rfl, _⟩ := h
    rfl
  · obtain ⟨a, m, rfl, h1, l6, d5, n8, z⟩ := h
    exact ⟨_, pss_one (ps_ret (pe_make M GB hr rfl gB bB .nil pass0 (pa_cons (pv 0) pa_nil))), _, rfl, nt_made h1 l6 d5 n8 z⟩
theorem ok_btholds2 {d : Nat} (F : Fun K "holds" "Between.holds" (sBtw 5) f fd) (cl : Cls K c.bt) (n1 : NoAttr K c.bt "field_name") (n2 : NoAttr K c.bt "lowest") (n3 : NoAttr K c.bt "highest") : FnOk P w K mg base CX0 1 f fd ["self", "key", "value"] (spHolds c 0 d) :=
  (ok_btwholds F cl n1 n2 n3).imp fun vs H Q E h => by
    obtain ⟨a, v, y, m, zs, kvs, rfl, hc, ht, hd, hv, ok, qq⟩ := h
    cases m with
    | btw z lo hi => exact ⟨a, v, y, z, lo, hi, zs, kvs, rfl, hc, hv, ok, qq⟩
    | _ => cases ht
theorem ok_nmholds2 {d : Nat} (F : Fun K "holds" "Named.holds" (sNam 3) f fd) (cl : Cls K c.nm) (n1 : NoAttr K c.nm "accepted_names") : FnOk P w K mg base CX0 1 f fd ["self", "key", "value"] (spHolds c 1 d) :=
  (ok_namholds F cl n1).imp fun vs H Q E h => by
    obtain ⟨a, v, y, m, zs, kvs, rfl, hc, ht, hd, hv, ok, qq⟩ := h
    cases m with
    | nam ns =>
      obtain ⟨t, hc⟩ := hc
      exact ⟨a, v, t, y, ns, rfl, hc, qq⟩
    | _ => cases ht
theorem ok_boholds {k d : Nat} (HA : HoldsAll P w K mg base c k d) (F : Fun K "holds" "Both.holds" (sBo 4) f fd) (cl : Cls K c.bo) (n1 : NoAttr K c.bo "first") (n2 : NoAttr K c.bo "second") : FnOk P w K mg base CX0 (k + 1) f fd ["self", "key", "value"] (spHolds c 3 (d + 1)) := by
  refine F.ok sc_bo4 (fun vs H Q E h => ?_) (fun cdv A outer s H vs Q E hr h => ?_)
  · obtain ⟨a, v, y, m, zs, kvs, rfl, _⟩ := h
    rfl
  · obtain ⟨a, v, y, m, zs, kvs, rfl, hc, ht, hd, hv, ok, qq⟩ := h
    refine ⟨_, pss_one (ps_ret (pe_and (pe_methV (k := k) (pe_fld (pv 0) rfl) hr pass0 (pa_cons (pv 1) (pa_cons (pv 2) pa_nil))) (pe_one (pe_methV (k := k) (pe_fld (pv 0) rfl) hr pass0 (pa_cons (pv 1) (pa_cons (pv 2) pa_nil)))))), ?_⟩
    cases m with
    | both m1 m2 =>
      obtain ⟨p, q, dx, ha, h1, h2⟩ := hc
      obtain ⟨dp, fp, hp, _, _, _, lp, _⟩ := h1.get
      obtain ⟨dq, fq, hq, _, _, _, lq, _⟩ := h2.get
      have d1 : m1.depth ≤ d := by
        have : max m1.depth m2.depth + 1 ≤ d + 1 := hd
        omega
      have d2 : m2.depth ≤ d := by
        have : max m1.depth m2.depth + 1 ≤ d + 1 := hd
        omega
      refine ⟨_, rfl, a, _, dx, _, _, rfl, ha, cl, n1, rfl, p, _, dp, fp, spHolds c m1.tag d, rfl, hp, HA m1, lp, _, rfl, _, rfl, p, v, y, m1, zs, kvs, rfl, h1, rfl, d1, hv, ok, _, rfl, ?_⟩
      have qz : Q (.bl (m1.holds y kvs && m2.holds y kvs)) H := qq
      cases e : m1.holds y kvs with
      | false =>
        rw [e] at qz
        exact iteF qz
      | true =>
        rw [e] at qz
        refine iteT ⟨_, rfl, a, _, dx, _, _, rfl, ha, cl, n2, rfl, q, _, dq, fq, spHolds c m2.tag d, rfl, hq, HA m2, lq, _, rfl, _, rfl, q, v, y, m2, zs, kvs, rfl, h2, rfl, d2, hv, ok, ?_⟩
        exact qz
    | _ => cases ht
theorem ok_eiholds {k d : Nat} (HA : HoldsAll P w K mg base c k d) (F : Fun K "holds" "Either.holds" (sEi 4) f fd) (cl : Cls K c.ei) (n1 : NoAttr K c.ei "first") (n2 : NoAttr K c.ei "second") : FnOk P w K mg base CX0 (k + 1) f fd ["self", "key", "value"] (spHolds c 4 (d + 1)) := by
  refine F.ok sc_ei4 (fun vs H Q E h => ?_) (fun cdv A outer s H vs Q E hr h => ?_)
  · obtain ⟨a, v, y, m, zs, kvs, rfl, _⟩ := h
    rfl
  · obtain ⟨a, v, y, m, zs, kvs, rfl, hc, ht, hd, hv, ok, qq⟩ := h
    refine ⟨_, pss_one (ps_ret (pe_or (pe_methV (k := k) (pe_fld (pv 0) rfl) hr pass0 (pa_cons (pv 1) (pa_cons (pv 2) pa_nil))) (pe_one (pe_methV (k := k) (pe_fld (pv 0) rfl) hr pass0 (pa_cons (pv 1) (pa_cons (pv 2) pa_nil)))))), ?_⟩
    cases m with
    | eith m1 m2 =>
      obtain ⟨p, q, dx, ha, h1, h2⟩ := hc
      obtain ⟨dp, fp, hp, _, _, _, lp, _⟩ := h1.get
      obtain ⟨dq, fq, hq, _, _, _, lq, _⟩ := h2.get
      have d1 : m1.depth ≤ d := by
        have : max m1.depth m2.depth + 1 ≤ d + 1 := hd
        omega
      have d2 : m2.depth ≤ d := by
        have : max m1.depth m2.depth + 1 ≤ d + 1 := hd
        omega
      refine ⟨_, rfl, a, _, dx, _, _, rfl, ha, cl, n1, rfl, p, _, dp, fp, spHolds c m1.tag d, rfl, hp, HA m1, lp, _, rfl, _, rfl, p, v, y, m1, zs, kvs, rfl, h1, rfl, d1, hv, ok, _, rfl, ?_⟩
      have qz : Q (.bl (m1.holds y kvs || m2.holds y kvs)) H := qq
      cases e : m1.holds y kvs with
      | true =>
        rw [e] at qz
        exact iteT qz
      | false =>
        rw [e] at qz
        refine iteF ⟨_, rfl, a, _, dx, _, _, rfl, ha, cl, n2, rfl, q, _, dq, fq, spHolds c m2.tag d, rfl, hq, HA m2, lq, _, rfl, _, rfl, q, v, y, m2, zs, kvs, rfl, h2, rfl, d2, hv, ok, ?_⟩
        exact qz
    | _ => cases ht
theorem ok_ntholds {k d : Nat} (HA : HoldsAll P w K mg base c k d) (F : Fun K "holds" "Not.holds" (sNt 3) f fd) (cl : Cls K c.nt) (n1 : NoAttr K c.nt "inner") : FnOk P w K mg base CX0 (k + 1) f fd ["self", "key", "value"] (spHolds c 2 (d + 1)) := by
  refine F.ok sc_nt3 (fun vs H Q E h => ?_) (fun cdv A outer s H vs Q E hr h => ?_)
  · obtain ⟨a, v, y, m, zs, kvs, rfl, _⟩ := h
    rfl
  · obtain ⟨a, v, y, m, zs, kvs, rfl, hc, ht, hd, hv, ok, qq⟩ := h
    refine ⟨_, pss_one (ps_ret (pe_not (pe_methV (k := k) (pe_fld (pv 0) rfl) hr pass0 (pa_cons (pv 1) (pa_cons (pv 2) pa_nil))))), ?_⟩
    cases m with
    | neg m1 =>
      obtain ⟨p, dx, ha, h1⟩ := hc
      obtain ⟨dp, fp, hp, _, _, _, lp, _⟩ := h1.get
      have d1 : m1.depth ≤ d := by
        have : m1.depth + 1 ≤ d + 1 := hd
        omega
      exact ⟨_, rfl, a, _, dx, _, _, rfl, ha, cl, n1, rfl, p, _, dp, fp, spHolds c m1.tag d, rfl, hp, HA m1, lp, _, rfl, _, rfl, p, v, y, m1, zs, kvs, rfl, h1, rfl, d1, hv, ok, _, rfl, qq⟩
    | _ => cases ht
end
end G
set_option Elab.async false
set_option linter.all false
set_option maxRecDepth 100000
set_option maxHeartbeats 4000000
/-! D1: a leaf of the law's models. -/
namespace G
open PySem PySem.Spec PyProof.Rows L2 NdefX StX
abbrev sLeaf : Stmt := topS 52
abbrev sListed : Stmt := topS 58
theorem scListed : FnScope ["_law_box_here", "_law_names_here", "_law_some"] ["_law_box_here", "_law_names_here"] (defScope sListed) := ⟨rfl, rfl, rfl, by decide +kernel, rfl, by decide +kernel, by decide +kernel⟩
theorem scLeaf : FnScope ["_law_box_here", "_law_fields", "_law_names_here", "_law_one", "_law_small", "_law_great", "_law_way"] ["_law_box_here", "_law_fields", "_law_names_here"] (defScope sLeaf) := ⟨rfl, rfl, rfl, by decide +kernel, rfl, by decide +kernel, by decide +kernel⟩
/-- a list of names -/
structure Nm (H : Hp) (a : Addr) (zs : List Str) : Prop where
  at_ : H a = some (.lst (zs.map V.str))
  pos : 1 ≤ zs.length
  few : zs.length ≤ 100
  nm : ∀ z ∈ zs, NameZ z
theorem Nm.ne {H : Hp} {a b : Addr} {n : Nat} {zs : List Str} (h : Nm H a zs) (B : BoxAt H b n) : a ≠ b := fun e => by
  obtain ⟨x, y, u, hb, _⟩ := B
  obtain ⟨h1, h2, _, _⟩ := h
  rw [e, hb] at h1
  match zs, h2 with
  | z :: r, _ => cases h1
theorem Nm.but {H H' : Hp} {a b : Addr} {n : Nat} {zs : List Str} (h : Nm H a zs) (B : BoxAt H b n) (k : But b H H') : Nm H' a zs := ⟨k _ _ (h.ne B) h.at_, h.pos, h.few, h.nm⟩
theorem Nm.same {H H' : Hp} {a : Addr} {zs : List Str} (h : Nm H a zs) (s : Same H H') : Nm H' a zs := ⟨s _ _ h.at_, h.pos, h.few, h.nm⟩
theorem BoxAt.same {H H' : Hp} {b : Addr} {n : Nat} (h : BoxAt H b n) (s : Same H H') : BoxAt H' b n := h.keep fun o e => s _ _ e
theorem pick {α : Type} {l : List α} {j : Nat} (h : j < l.length) : ∃ x, l[j]? = some x ∧ x ∈ l := ⟨l[j], List.getElem?_eq_getElem h, List.getElem_mem h⟩
theorem pick_map {α : Type} {f : α → V} {l : List α} {j : Nat} {x : α} (h : l[j]? = some x) : (l.map f)[j]? = some (f x) := by rw [List.getElem?_map, h] <;> rfl
def spListed : Sp := fun vs H Q _ => ∃ (b nl : Addr) (n : Nat) (ns : List Str), vs = [.ref b, .ref nl] ∧ BoxAt H b n ∧ n ≤ 90000 ∧ Nm H nl ns ∧
  ∀ (p : Addr) (zs : List Str) (H' : Hp), H' p = some (.tup (zs.map V.str)) → zs.length ≤ 2 → (∀ z ∈ zs, NameZ z) → BoxAt H' b (n + 3) → But b H H' → Q (.ref p) H'
section
variable {P : Program} {w : World} {K : PySem.W.Frag} {mg : Str → Option Value} {base : Heap}
theorem ok_listed {f fT : Addr} {fd fdT : FuncData} (F : Fun K "_law_listed" "_law_listed" sListed f fd) (T : Fun K "_law_take" "_law_take" sTake fT fdT) (bT : Binds K fdT ["_law_box_here", "_law_many"] []) (gT : mg "_law_take" = some (.ref fT))
    (ml : mg "len" = none) (mT : mg "tuple" = none) : FnOk P w K mg base CX0 2 f fd ["_law_box_here", "_law_names_here"] spListed := by
  have GT : FnOk P w K mg base CX0 1 fT fdT ["_law_box_here", "_law_many"] spTake := ok_take T
  refine F.ok scListed (fun vs H Q E h => ?_) (fun cdv A outer s H vs Q E hr h => ?_)
  · obtain ⟨b, nl, n, ns, rfl, _⟩ := h
    rfl
  · obtain ⟨b, nl, n, ns, rfl, B, hn, N, q⟩ := h
    refine ⟨_, pss_cons (ps_set (i := 2) scListed.nd rfl (.inl rfl) (pe_lst (pa_cons (pe_ix ix_list (pv 1) (pe_call GT hr rfl gT T.kp bT .nil pass0 (pa_cons (pv 0) (pa_cons (pe_callB call_len_seq (by rfl) ml PySem.boot_len (pa_cons (pv 1) pa_nil)) pa_nil))) (fun _ _ => rfl))
        (pa_cons (pe_ix ix_list (pv 1) (pe_call GT hr rfl gT T.kp bT .nil pass0 (pa_cons (pv 0) (pa_cons (pe_callB call_len_seq (by rfl) ml PySem.boot_len (pa_cons (pv 1) pa_nil)) pa_nil))) (fun _ _ => rfl)) pa_nil))))
      (pss_one (ps_ret (pe_callTy call_tuple_of (by rfl) mT (by decide +kernel) (pa_cons (pe_slice sl_list (pv 2) po_none (po_some (pe_ix ix_list (pe_lst (pa_cons pe_int (pa_cons pe_int (pa_cons pe_int (pa_cons pe_int pa_nil)))))
        (pe_call GT hr rfl gT T.kp bT .nil pass0 (pa_cons (pv 0) (pa_cons pe_int pa_nil))) (fun _ _ => rfl)))) pa_nil)))), ?_⟩
    have l1 : (0 : Int) < ((ns.map V.str).length : Nat) := by
      rw [List.length_map]
      have := N.pos
      omega
    have l2 : ((ns.map V.str).length : Int) < 2 ^ 200 := by
      rw [List.length_map]
      have := N.few
      omega
    refine ⟨_, rfl, _, rfl, _, rfl, nl, _, rfl, .inl (.of N.at_), b, _, n, rfl, B, by omega, l1, l2, fun r H1 r0 r1 B1 k1 => ?_⟩
    obtain ⟨j, rfl, hj⟩ := draw_at (n := ns.length) r0 r1 (by rw [List.length_map])
    obtain ⟨z, hz, hzm⟩ := pick hj
    have N1 := N.but B k1
    refine ⟨nl, _, _, .str z, rfl, rfl, .of N1.at_, atI_nat (pick_map hz), ?_⟩
    refine ⟨_, rfl, _, rfl, _, rfl, nl, _, rfl, .inl (.of N1.at_), b, _, n + 1, rfl, B1, by omega, l1, l2, fun r H2 r0 r1 B2 k2 => ?_⟩
    obtain ⟨j2, rfl, hj2⟩ := draw_at (n := ns.length) r0 r1 (by rw [List.length_map])
    obtain ⟨y, hy, hym⟩ := pick hj2
    have N2 := N1.but B1 k2
    refine ⟨nl, _, _, .str y, rfl, rfl, .of N2.at_, atI_nat (pick_map hy), (by show 2 ≤ sizeLine; decide), fun p hp => ?_⟩
    have k02 : But b H H2 := k1.trans k2
    refine ⟨_, rfl, (by show 4 ≤ sizeLine; exact small_size (by decide)), fun u hu => ⟨_, rfl, b, 4, n + 2, rfl, box_new (box_new B2 hp) hu, by omega, by decide, by decide, fun r H3 r0 r1 B3 k3 => ?_⟩⟩
    obtain ⟨i, rfl, hi⟩ := draw_at (n := 4) r0 r1 rfl
    have npu : p ≠ u := fun e => by
      rw [← e, upd_same] at hu
      cases hu
    have ep := k3 _ _ (box_ne B2 hp) ((upd_ne npu).trans (upd_same (H := H2) (a := p) (o := .lst [.str z, .str y])))
    have eu := k3 _ _ (box_ne (box_new B2 hp) hu) (upd_same (H := upd H2 p (.lst [.str z, .str y])) (a := u) (o := .lst [.int 0, .int 1, .int 1, .int 2]))
    obtain ⟨m, hm, m2⟩ : ∃ m : Nat, ([.int 0, .int 1, .int 1, .int 2] : List V)[i]? = some (.int (m : Nat)) ∧ m ≤ 2 := by
      match i, hi with
      | 0, _ => exact ⟨0, rfl, by decide⟩
      | 1, _ => exact ⟨1, rfl, by decide⟩
      | 2, _ => exact ⟨1, rfl, by decide⟩
      | 3, _ => exact ⟨2, rfl, by decide⟩
    refine ⟨u, _, _, .int (m : Nat), rfl, rfl, .of eu, atI_nat hm, _, rfl, p, _, rfl, .of ep, fun v hv => ?_⟩
    rw [cutV_first _ m (by show m ≤ 2; exact m2)]
    refine ⟨v, _, rfl, .inl ⟨.of upd_same, fun x hx => ?_⟩⟩
    have kk : But b H (upd (upd H3 v (.lst ([V.str z, V.str y].take m))) x (.tup ([V.str z, V.str y].take m))) := (((k02.trans (But.new hp)).trans (But.new hu)).trans k3).trans ((But.new hv).trans (But.new hx))
    refine q x ([z, y].take m) _ (by rw [upd_same, List.map_take]; rfl) (by rw [List.length_take]; omega) (fun a ha => ?_) (box_new (box_new B3 hv) hx) kk
    rcases List.mem_cons.mp (List.mem_of_mem_take ha) with rfl | ha
    · exact N.nm _ hzm
    · rw [List.mem_singleton.mp ha]
      exact N.nm _ hym
end
/-! ### a leaf -/
def spLeaf : Sp := fun vs H Q _ => ∃ (b fl nl : Addr) (n : Nat) (fs ns : List Str), vs = [.ref b, .ref fl, .ref nl] ∧ BoxAt H b n ∧ n ≤ 89000 ∧ Nm H fl fs ∧ Nm H nl ns ∧
  ∀ (t : Addr) (m : Md) (H' : Hp), MdAt H' t m → m.good → m.leaves = 1 → m.depth = 1 → m.names ≤ 2 → BoxAt H' b (n + 11) → But b H H' → Q (.ref t) H'
section
variable {P : Program} {w : World} {K : PySem.W.Frag} {mg : Str → Option Value} {base : Heap}
theorem ok_leaf {f fT fN fL : Addr} {fd fdT fdN fdL : FuncData} (F : Fun K "_law_leaf" "_law_leaf" sLeaf f fd) (T : Fun K "_law_take" "_law_take" sTake fT fdT) (bT : Binds K fdT ["_law_box_here", "_law_many"] []) (gT : mg "_law_take" = some (.ref fT))
    (Nm_ : Fun K "_law_number" "_law_number" sNumber fN fdN) (bN : Binds K fdN ["_law_box_here"] []) (gN : mg "_law_number" = some (.ref fN))
    (GL : FnOk P w K mg base CX0 2 fL fdL ["_law_box_here", "_law_names_here"] spListed) (gL : mg "_law_listed" = some (.ref fL)) (kL : PySem.W.keepIn K (.ref fL) = true) (bL : Binds K fdL ["_law_box_here", "_law_names_here"] [])
    (ml : mg "len" = none) (mmn : mg "min" = none) (mmx : mg "max" = none) : FnOk P w K mg base CX0 3 f fd ["_law_box_here", "_law_fields", "_law_names_here"] spLeaf := by
  have GT : FnOk P w K mg base CX0 1 fT fdT ["_law_box_here", "_law_many"] spTake := ok_take T
  have GN : FnOk P w K mg base CX0 2 fN fdN ["_law_box_here"] spNumber := ok_number Nm_ T bT gT
  refine F.ok scLeaf (fun vs H Q E h => ?_) (fun cdv A outer s H vs Q E hr h => ?_)
  · obtain ⟨b, fl, nl, n, fs, ns, rfl, _⟩ := h
    rfl
  · obtain ⟨b, fl, nl, n, fs, ns, rfl, B, hn, F1, N1, q⟩ := h
    have hr1 := hr.mono (show 1 ≤ 2 by decide)
    refine ⟨_, pss_cons (ps_par3 (i := 3) (j := 4) (l := 5) (by rfl) scLeaf.nd rfl rfl rfl (by decide) (by decide) (by decide) rfl rfl rfl
        (pa_cons (pe_ix ix_list (pv 1) (pe_call GT hr1 rfl gT T.kp bT .nil pass0 (pa_cons (pv 0) (pa_cons (pe_callB call_len_seq (by rfl) ml PySem.boot_len (pa_cons (pv 1) pa_nil)) pa_nil))) (fun _ _ => rfl))
        (pa_cons (pe_call GN hr rfl gN Nm_.kp bN .nil pass0 (pa_cons (pv 0) pa_nil)) (pa_cons (pe_call GN hr rfl gN Nm_.kp bN .nil pass0 (pa_cons (pv 0) pa_nil)) pa_nil))) (by rfl))
      (pss_cons (ps_set (i := 6) scLeaf.nd rfl (.inl rfl) (pe_call GT hr1 rfl gT T.kp bT .nil pass0 (pa_cons (pv 0) (pa_cons pe_int pa_nil))))
      (pss_cons (ps_if (pt_cmpR op_lt (pv 6) pe_int (nomark _)) (pss_one (ps_ret (pe_op op_catT (pe_tup (pa_cons pe_str pa_nil)) (pe_call GL hr rfl gL kL bL .nil pass0 (pa_cons (pv 0) (pa_cons (pv 2) pa_nil)))))) pss_nil)
      (pss_cons (ps_if (pt_cmpR op_eq (pv 6) pe_int (nomark _)) (pss_one (ps_ret (pe_tup (pa_cons pe_str (pa_cons (pv 3) (pa_cons (pe_un un_neg pe_int) (pa_cons pe_int pa_nil))))))) pss_nil)
      (pss_one (ps_ret (pe_tup (pa_cons pe_str (pa_cons (pv 3) (pa_cons (pe_callB (call_min2 rfl) (by rfl) mmn (by decide +kernel) (pa_cons (pv 4) (pa_cons (pv 5) pa_nil)))
        (pa_cons (pe_callB (call_max2 rfl) (by rfl) mmx (by decide +kernel) (pa_cons (pv 4) (pa_cons (pv 5) pa_nil))) pa_nil)))))))))), ?_⟩
    have l1 : (0 : Int) < ((fs.map V.str).length : Nat) := by
      rw [List.length_map]
      have := F1.pos
      omega
    have l2 : ((fs.map V.str).length : Int) < 2 ^ 200 := by
      rw [List.length_map]
      have := F1.few
      omega
    refine ⟨_, rfl, _, rfl, _, rfl, fl, _, rfl, .inl (.of F1.at_), b, _, n, rfl, B, by omega, l1, l2, fun r H1 r0 r1 B1 k1 => ?_⟩
    obtain ⟨j, rfl, hj⟩ := draw_at (n := fs.length) r0 r1 (by rw [List.length_map])
    obtain ⟨z, hz, hzm⟩ := pick hj
    have F2 := F1.but B k1
    refine ⟨fl, _, _, .str z, rfl, rfl, .of F2.at_, atI_nat (pick_map hz), ?_⟩
    refine ⟨_, rfl, b, n + 1, rfl, B1, by omega, fun s1 H2 s10 s11 B2 k2 => ⟨_, rfl, b, n + 4, rfl, B2, by omega, fun s2 H3 s20 s21 B3 k3 => ⟨_, _, _, rfl, ?_⟩⟩⟩
    refine ⟨_, rfl, b, 8, n + 7, rfl, B3, by omega, by decide, by decide, fun way H4 w0 w1 B4 k4 => ?_⟩
    have N4 := ((((N1.but B k1).but B1 k2).but B2 k3).but B3 k4)
    have k04 : But b H H4 := ((k1.trans k2).trans k3).trans k4
    have hz' := F1.nm _ hzm
    refine ⟨_, rfl, _, _, rfl, rfl, _, rfl, ite2 (fun _ => ?_) (fun _ => ?_)⟩
    · refine ⟨(by show 1 ≤ sizeLine; decide), fun p hp => ?_⟩
      refine ⟨_, rfl, _, rfl, b, nl, n + 8, ns, rfl, box_new B4 hp, by omega, N4.but B4 (But.new hp), fun u zs H5 eu l2' zn B5 k5 => ?_⟩
      have ep : H5 p = some (.tup [.str "named"]) := k5 _ _ (box_ne B4 hp) upd_same
      have k05 : But b H H5 := (k04.trans (But.new hp)).trans k5
      refine ⟨p, u, _, _, rfl, rfl, .of ep, .of eu, List.cons_ne_nil _ _, ?_, fun e => ?_, fun _ x hx => ?_⟩
      · rw [List.length_map]
        exact small_size (by show 1 + zs.length ≤ 7000; omega)
      · have ez : zs = [] := List.map_eq_nil_iff.mp e
        exact q p (.nam []) H5 ep (fun _ h => by cases h) rfl rfl (Nat.zero_le _) B5 k05
      · exact q x (.nam zs) _ upd_same zn rfl rfl l2' (box_new B5 hx) (k05.trans (But.new hx))
    · refine ⟨_, rfl, rfl, _, rfl, ite2 (fun _ => ?_) (fun _ => ?_)⟩
      · refine ⟨_, rfl, _, rfl, (by show 4 ≤ sizeLine; exact small_size (by decide)), fun p hp => ?_⟩
        exact q p (.btw z (-999) 999) _ upd_same ⟨hz', by decide, by decide, by decide⟩ rfl rfl (Nat.zero_le _) ((box_new B4 hp).mono (by omega)) (k04.trans (But.new hp))
      · refine ⟨_, rfl, _, rfl, _, rfl, _, _, rfl, _, rfl, _, rfl, _, _, rfl, (by show 4 ≤ sizeLine; exact small_size (by decide)), fun p hp => ?_⟩
        obtain ⟨lo, hi, el, eh, m1, m2, m3⟩ : ∃ lo hi : Int, (if s2 < s1 then s2 else s1) = lo ∧ (if s2 > s1 then s2 else s1) = hi ∧ -999 ≤ lo ∧ lo ≤ hi ∧ hi ≤ 999 := by
          refine ⟨_, _, rfl, rfl, ?_, ?_, ?_⟩ <;> split <;> (try split) <;> omega
        rw [el, eh]
        exact q p (.btw z lo hi) _ upd_same ⟨hz', m1, m2, m3⟩ rfl rfl (Nat.zero_le _) ((box_new B4 hp).mono (by omega)) (k04.trans (But.new hp))
end
end G
set_option Elab.async false
set_option linter.all false
set_option maxRecDepth 100000
set_option maxHeartbeats 4000000
/-! D2: the law's models, drawn; holds of all classes. -/
namespace G
open PySem PySem.Spec PyProof.Rows L2 NdefX StX
abbrev sModel : Stmt := topS 53
theorem scModel : FnScope ["_law_box_here", "_law_fields", "_law_names_here", "_law_deep", "_law_most", "_law_way", "_law_first", "_law_one"] ["_law_box_here", "_law_fields", "_law_names_here", "_law_deep", "_law_most"] (defScope sModel) := ⟨rfl, rfl, rfl, by decide +kernel, rfl, by decide +kernel, by decide +kernel⟩
/-- how many draws a model of this depth takes at most -/
def cost : Nat → Nat
  | 0 => 11
  | d + 1 => 2 * cost d + 2
theorem cost_mono : ∀ {a b : Nat}, a ≤ b → cost a ≤ cost b
  | a, 0, h => by
    obtain rfl : a = 0 := by omega
    exact Nat.le_refl _
  | a, b + 1, h => by
    rcases Nat.lt_or_ge b a with e | e
    · obtain rfl : a = b + 1 := by omega
      exact Nat.le_refl _
    · have := cost_mono e
      show cost a ≤ 2 * cost b + 2
      omega
theorem cost_pos (d : Nat) : 11 ≤ cost d := cost_mono (Nat.zero_le d)
def spModel (d : Nat) : Sp := fun vs H Q _ => ∃ (b fl nl : Addr) (n deep most : Nat) (fs ns : List Str), vs = [.ref b, .ref fl, .ref nl, .int (deep : Nat), .int (most : Nat)] ∧ BoxAt H b n ∧ n + cost deep + 1 ≤ 89000 ∧ Nm H fl fs ∧ Nm H nl ns ∧ 1 ≤ deep ∧ deep ≤ d ∧ 1 ≤ most ∧ most ≤ 6 ∧
  ∀ (t : Addr) (m : Md) (H' : Hp), MdAt H' t m → m.good → m.leaves ≤ most → m.depth ≤ deep → m.names ≤ 2 * m.leaves → BoxAt H' b (n + cost deep) → But b H H' → Q (.ref t) H'
theorem fn_none {P : Program} {w : World} {K : PySem.W.Frag} {mg : Str → Option Value} {base : Heap} {CX : CXT} {k : Nat} {f : Addr} {fd : FuncData} {ps : List Str} {sp : Sp} (h : ∀ vs H Q E, sp vs H Q E → False) : FnOk P w K mg base CX k f fd ps sp :=
  ⟨fun vs H Q E z => (h vs H Q E z).elim, fun _ _ _ _ _ _ _ _ _ _ _ _ _ z => (h _ _ _ _ z).elim⟩
section
variable {P : Program} {w : World} {K : PySem.W.Frag} {mg : Str → Option Value} {base : Heap}
theorem ok_model {f fT fL : Addr} {fd fdT fdL : FuncData} (F : Fun K "_law_model" "_law_model" sModel f fd) (bF : Binds K fd ["_law_box_here", "_law_fields", "_law_names_here", "_law_deep", "_law_most"] []) (gF : mg "_law_model" = some (.ref f))
    (T : Fun K "_law_take" "_law_take" sTake fT fdT) (bT : Binds K fdT ["_law_box_here", "_law_many"] []) (gT : mg "_law_take" = some (.ref fT))
    (GL : FnOk P w K mg base CX0 3 fL fdL ["_law_box_here", "_law_fields", "_law_names_here"] spLeaf) (gL : mg "_law_leaf" = some (.ref fL)) (kL : PySem.W.keepIn K (.ref fL) = true) (bL : Binds K fdL ["_law_box_here", "_law_fields", "_law_names_here"] []) :
    ∀ d, FnOk P w K mg base CX0 (d + 4) f fd ["_law_box_here", "_law_fields", "_law_names_here", "_law_deep", "_law_most"] (spModel d)
  | 0 => fn_none fun vs H Q E h => by
    obtain ⟨b, fl, nl, n, deep, most, fs, ns, _, _, _, _, _, h1, h2, _⟩ := h
    omega
  | d + 1 => by
    have GM := ok_model F bF gF T bT gT GL gL kL bL d
    have GT : FnOk P w K mg base CX0 1 fT fdT ["_law_box_here", "_law_many"] spTake := ok_take T
    refine F.ok scModel (fun vs H Q E h => ?_) (fun cdv A outer s H vs Q E hr h => ?_)
    · obtain ⟨b, fl, nl, n, deep, most, fs, ns, rfl, _⟩ := h
      rfl
    · obtain ⟨b, fl, nl, n, deep, most, fs, ns, rfl, B, hn, F1, N1, d1, dd, m1, m6, q⟩ := h
      have hr1 := hr.mono (show 1 ≤ d + 4 by omega)
      have hr3 := hr.mono (show 3 ≤ d + 4 by omega)
      refine ⟨_, pss_cons (ps_set (i := 5) scModel.nd rfl (.inl rfl) (pe_call GT hr1 rfl gT T.kp bT .nil pass0 (pa_cons (pv 0) (pa_cons pe_int pa_nil))))
        (pss_cons (ps_if (PW.pt (pw_and (pt_cmpR op_gt (pv 3) pe_int (nomark _)) (pw_and1 (pt_cmpR op_eq (pv 5) pe_int (nomark _)))))
          (pss_one (ps_ret (pe_tup (pa_cons pe_str (pa_cons (pe_call GM hr rfl gF F.kp bF .nil pass0 (pa_cons (pv 0) (pa_cons (pv 1) (pa_cons (pv 2) (pa_cons (pe_op op_sub (pv 3) pe_int) (pa_cons (pv 4) pa_nil)))))) pa_nil))))) pss_nil)
        (pss_cons (ps_if (PW.pt (pw_or (pt_cmpR op_eq (pv 3) pe_int (nomark _)) (pw_or (pt_cmpR op_eq (pv 4) pe_int (nomark _)) (pw_or1 (pt_cmpR op_lt (pv 5) pe_int (nomark _))))))
          (pss_one (ps_ret (pe_call GL hr3 rfl gL kL bL .nil pass0 (pa_cons (pv 0) (pa_cons (pv 1) (pa_cons (pv 2) pa_nil)))))) pss_nil)
        (pss_cons (ps_set (i := 6) scModel.nd rfl (.inl rfl) (pe_op op_add pe_int (pe_call GT hr1 rfl gT T.kp bT .nil pass0 (pa_cons (pv 0) (pa_cons (pe_op op_sub (pv 4) pe_int) pa_nil)))))
        (pss_cons (ps_set (i := 7) scModel.nd rfl (.inl rfl) (pe_call GM hr rfl gF F.kp bF .nil pass0 (pa_cons (pv 0) (pa_cons (pv 1) (pa_cons (pv 2) (pa_cons (pe_op op_sub (pv 3) pe_int) (pa_cons (pv 6) pa_nil)))))))
        (pss_one (ps_ret (pe_tup (pa_cons (pe_ix ix_list (pe_lst (pa_cons pe_str (pa_cons pe_str pa_nil))) (pe_op op_mod (pv 5) pe_int) (fun _ _ => rfl)) (pa_cons (pv 7)
          (pa_cons (pe_call GM hr rfl gF F.kp bF .nil pass0 (pa_cons (pv 0) (pa_cons (pv 1) (pa_cons (pv 2) (pa_cons (pe_op op_sub (pv 3) pe_int) (pa_cons (pe_op op_sub (pv 4) (pv 6)) pa_nil)))))) pa_nil)))))))))), ?_⟩
      refine ⟨_, rfl, b, 7, n, rfl, B, by omega, by decide, by decide, fun way H1 w0 w1 B1 k1 => ?_⟩
      have F2 := F1.but B k1
      have N2 := N1.but B k1
      have cp := cost_pos deep
      have leaf : spLeaf [.ref b, .ref fl, .ref nl] H1 Q E0 := ⟨b, fl, nl, n + 1, fs, ns, rfl, B1, by omega, F2, N2, fun t m H' hm hg hl hd hnm B' k' => q t m H' hm hg (by omega) (by omega) (by omega) (B'.mono (by
        obtain ⟨e, rfl⟩ : ∃ e, deep = e + 1 := ⟨deep - 1, by omega⟩
        have := cost_pos e
        show n + 1 + 11 ≤ n + (2 * cost e + 2)
        omega)) (k1.trans k')⟩
      have rest : ∀ (h1 : deep ≠ 1) (h2 : most ≠ 1), 2 ≤ deep ∧ 2 ≤ most := fun h1 h2 => ⟨by omega, by omega⟩
      refine ⟨_, rfl, _, _, rfl, rfl, _, rfl, ite2 (fun hd => ⟨_, rfl, rfl, _, rfl, ite2 (fun _ => ?neg) (fun _ => ?_)⟩) (fun _ => ?_)⟩
      case neg =>
        have hd2 : (1 : Int) < (deep : Int) := of_decide_eq_true hd
        obtain ⟨e, rfl⟩ : ∃ e, deep = e + 1 := ⟨deep - 1, by omega⟩
        have e1 : ((e + 1 : Nat) : Int) - 1 = ((e : Nat) : Int) := by omega
        have cc : cost (e + 1) = 2 * cost e + 2 := rfl
        refine ⟨_, rfl, _, rfl, _, rfl, _, rfl, _, _, rfl, rfl, _, rfl, b, fl, nl, n + 1, e, most, fs, ns, ?_, B1, by omega, F2, N2, by omega, by omega, m1, m6, fun t m H2 hm hg hl hdp hnm B2 k2 => ?_⟩
        · show [V.ref b, V.ref fl, V.ref nl, V.int (((e + 1 : Nat) : Int) - 1), V.int (most : Int)] = _
          rw [e1]
        · refine ⟨(by show 2 ≤ sizeLine; decide), fun p hp => ?_⟩
          have sn : Same H2 (upd H2 p (.tup [.str "not", .ref t])) := Same.new hp
          exact q p (.neg m) _ ⟨t, upd_same, hm.same sn⟩ hg hl (by show m.depth + 1 ≤ e + 1; omega) hnm ((box_new B2 hp).mono (by omega)) ((k1.trans k2).trans (But.new hp))
      all_goals
        refine ⟨_, rfl, rfl, _, rfl, ite2 (fun _ => ⟨_, rfl, _, rfl, _, rfl, leaf⟩) (fun h1 => ⟨_, rfl, rfl, _, rfl, ite2 (fun _ => ⟨_, rfl, _, rfl, _, rfl, leaf⟩) (fun h2 => ⟨_, rfl, _, _, rfl, rfl, _, rfl, ite2 (fun _ => ⟨_, rfl, _, rfl, _, rfl, leaf⟩) (fun _ => ?_)⟩)⟩)⟩
        obtain ⟨g1, g2⟩ := rest (fun e => h1 (decide_eq_true (by rw [e]; rfl))) (fun e => h2 (decide_eq_true (by rw [e]; rfl)))
        obtain ⟨e, rfl⟩ : ∃ e, deep = e + 1 := ⟨deep - 1, by omega⟩
        have cc : cost (e + 1) = 2 * cost e + 2 := rfl
        have e1 : ((e + 1 : Nat) : Int) - 1 = ((e : Nat) : Int) := by omega
        refine ⟨_, rfl, _, rfl, _, _, rfl, rfl, b, _, n + 1, rfl, B1, by omega, by omega, by omega, fun r H2 r0 r1 B2 k2 => ⟨_, _, rfl, rfl, ?_⟩⟩
        obtain ⟨j, rfl, hj⟩ := draw_at (n := most - 1) r0 r1 (by omega)
        have F3 := F2.but B1 k2
        have N3 := N2.but B1 k2
        refine ⟨_, rfl, _, rfl, _, rfl, _, rfl, _, _, rfl, rfl, _, rfl, b, fl, nl, n + 2, e, j + 1, fs, ns, ?_, B2, by omega, F3, N3, by omega, by omega, by omega, by omega, fun t1 ma H3 hma ga la da na B3 k3 => ?_⟩
        · show [V.ref b, V.ref fl, V.ref nl, V.int (((e + 1 : Nat) : Int) - 1), V.int (1 + (j : Int))] = _
          rw [e1, show (1 : Int) + (j : Int) = ((j + 1 : Nat) : Int) by omega]
        obtain ⟨i, ei, hi⟩ := draw_at (n := 2) (Int.emod_nonneg way (by decide : (2 : Int) ≠ 0)) (Int.emod_lt_of_pos way (by decide : (0 : Int) < 2)) rfl
        refine ⟨(by show 2 ≤ sizeLine; decide), fun p hp => ⟨_, rfl, _, _, rfl, rfl, (by show (0 : Int) < 2; decide), p, _, _, .str (if i = 0 then "both" else "either"), rfl, rfl, .of upd_same, ?_, ?_⟩⟩
        · rw [ei]
          match i, hi with
          | 0, _ => exact atI_nat rfl
          | 1, _ => exact atI_nat rfl
        have B3' := box_new (o := .lst [.str "both", .str "either"]) B3 hp
        have k13 := (k1.trans k2).trans k3
        refine ⟨_, rfl, _, rfl, _, rfl, _, rfl, _, rfl, _, _, rfl, rfl, _, rfl, _, rfl, _, _, rfl, rfl, b, fl, nl, n + 2 + cost e, e, most - (j + 1), fs, ns, ?_, B3', by omega, (F3.but B2 k3).same (Same.new hp), (N3.but B2 k3).same (Same.new hp), by omega, by omega, by omega, by omega, fun t2 mb H4 hmb gb lb db nb B4 k4 => ?_⟩
        · show [V.ref b, V.ref fl, V.ref nl, V.int (((e + 1 : Nat) : Int) - 1), V.int ((most : Int) - (1 + (j : Int)))] = _
          rw [e1, show (most : Int) - (1 + (j : Int)) = ((most - (j + 1) : Nat) : Int) by omega]
        refine ⟨(by show 3 ≤ sizeLine; decide), fun x hx => ?_⟩
        have hma4 := ((hma.same (Same.new hp)).sk (SK.of_but B3' k4)).same (Same.new (o := .tup [.str (if i = 0 then "both" else "either"), .ref t1, .ref t2]) hx)
        have hmb4 := hmb.same (Same.new (o := .tup [.str (if i = 0 then "both" else "either"), .ref t1, .ref t2]) hx)
        have kk := ((k13.trans (But.new (o := .lst [.str "both", .str "either"]) hp)).trans k4).trans (But.new (o := .tup [.str (if i = 0 then "both" else "either"), .ref t1, .ref t2]) hx)
        have BB := (box_new (o := .tup [.str (if i = 0 then "both" else "either"), .ref t1, .ref t2]) B4 hx).mono (show n + 2 + cost e + cost e ≤ n + cost (e + 1) by omega)
        rcases (show i = 0 ∨ i = 1 by omega) with h0 | h0
        · rw [h0]
          exact q x (.both ma mb) _ ⟨t1, t2, upd_same, (by rw [h0] at hma4; exact hma4), (by rw [h0] at hmb4; exact hmb4)⟩ ⟨ga, gb⟩ (by show ma.leaves + mb.leaves ≤ most; omega) (by show max ma.depth mb.depth + 1 ≤ e + 1; omega) (by show ma.names + mb.names ≤ 2 * (ma.leaves + mb.leaves); omega) (by rw [h0] at BB; exact BB) (by rw [h0] at kk; exact kk)
        · rw [h0]
          exact q x (.eith ma mb) _ ⟨t1, t2, upd_same, (by rw [h0] at hma4; exact hma4), (by rw [h0] at hmb4; exact hmb4)⟩ ⟨ga, gb⟩ (by show ma.leaves + mb.leaves ≤ most; omega) (by show max ma.depth mb.depth + 1 ≤ e + 1; omega) (by show ma.names + mb.names ≤ 2 * (ma.leaves + mb.leaves); omega) (by rw [h0] at BB; exact BB) (by rw [h0] at kk; exact kk)
end
end G
set_option Elab.async false
set_option linter.all false
set_option maxRecDepth 100000
set_option maxHeartbeats 4000000
/-! D3: the law's models built into conditions. -/
namespace G
open PySem PySem.Spec PyProof.Rows L2 NdefX StX
abbrev sBuilt : Stmt := topS 54
theorem scBuilt : FnScope ["_law_box_here", "_law_model_here", "_law_way", "_law_one", "_law_other_here"] ["_law_box_here", "_law_model_here"] (defScope sBuilt) := ⟨rfl, rfl, rfl, by decide +kernel, rfl, by decide +kernel, by decide +kernel⟩
theorem ifN {c : Bool} {A B : Prop} (e : c = false) (h : B) : if c = true then A else B := by
  rw [e]
  exact iteF h
theorem ifY {c : Bool} {A B : Prop} (e : c = true) (h : A) : if c = true then A else B := by
  rw [e]
  exact iteT h
theorem nm_bt : decide (V.str ("named" : Str) = V.str ("between" : Str)) = false := by decide +kernel
theorem nt_bt : decide (V.str ("not" : Str) = V.str ("between" : Str)) = false := by decide +kernel
theorem nt_nm : decide (V.str ("not" : Str) = V.str ("named" : Str)) = false := by decide +kernel
theorem bo_bt : decide (V.str ("both" : Str) = V.str ("between" : Str)) = false := by decide +kernel
theorem bo_nm : decide (V.str ("both" : Str) = V.str ("named" : Str)) = false := by decide +kernel
theorem bo_nt : decide (V.str ("both" : Str) = V.str ("not" : Str)) = false := by decide +kernel
theorem ei_bt : decide (V.str ("either" : Str) = V.str ("between" : Str)) = false := by decide +kernel
theorem ei_nm : decide (V.str ("either" : Str) = V.str ("named" : Str)) = false := by decide +kernel
theorem ei_nt : decide (V.str ("either" : Str) = V.str ("not" : Str)) = false := by decide +kernel
theorem ei_bo : decide (V.str ("either" : Str) = V.str ("both" : Str)) = false := by decide +kernel
theorem self_eq (z : Str) : decide (V.str z = V.str z) = true := decide_eq_true rfl
theorem cut_tail (x : V) (r : List V) : cutV (x :: r) (some 1) none = r := by
  unfold cutV
  rw [HT.sIx_none, show ((1 : Int)) = ((1 : Nat) : Int) from rfl, HT.sIx_nat]
  have h : min 1 (x :: r).length = 1 := by
    rw [List.length_cons]
    omega
  rw [h]
  show (r.take ((r.length + 1) - 1)) = r
  rw [Nat.add_sub_cancel, List.take_length]
theorem not_whole (x : V) (r : List V) : ¬ (HT.sIx (x :: r).length 0 (some 1) = 0 ∧ HT.sIx (x :: r).length (x :: r).length none = (x :: r).length) := fun h => by
  have h1 := h.1
  rw [show ((1 : Int)) = ((1 : Nat) : Int) from rfl, HT.sIx_nat, List.length_cons] at h1
  omega
/-- the five classes and what they do -/
structure Conds (P : Program) (w : World) (K : PySem.W.Frag) (mg : Str → Option Value) (base : Heap) (D : Addr) (c : Cs) : Prop where
  ok : CsOk K D c
  mbt : ∃ (fB cda cc Dk : Addr) (fdB : FuncData), Mk K c.bt fB ∧ FunX K "__init__" "Between.__init__" sBtwInit fB cda cc (.ref Dk) fdB ∧ BtwDef K Dk ∧ FnOk P w K mg base CX0 3 fB fdB psBtw (spBtw c.bt)
  gbt : mg "Between" = some (.ref c.bt)
  mbo : ∃ (fB : Addr) (fdB : FuncData), Mk K c.bo fB ∧ Binds K fdB ["self", "one", "other"] [] ∧ FnOk P w K mg base CX0 3 fB fdB ["self", "one", "other"] (spPair c c.bo)
  gbo : mg "Both" = some (.ref c.bo)
  mei : ∃ (fB : Addr) (fdB : FuncData), Mk K c.ei fB ∧ Binds K fdB ["self", "one", "other"] [] ∧ FnOk P w K mg base CX0 3 fB fdB ["self", "one", "other"] (spPair c c.ei)
  gei : mg "Either" = some (.ref c.ei)
  mnt : ∃ (fB : Addr) (fdB : FuncData), Mk K c.nt fB ∧ Binds K fdB ["self", "one"] [] ∧ FnOk P w K mg base CX0 2 fB fdB ["self", "one"] (spNeg c c.nt)
  gnt : mg "Not" = some (.ref c.nt)
  and_ : ∀ m n : Md, PolyO P w K mg base 5 (m.cls c) (n.cls c) .BitAnd (spAnd c)
  or_ : ∀ m n : Md, PolyO P w K mg base 5 (m.cls c) (n.cls c) .BitOr (spOr c)
  inv : ∀ m : Md, PolyU P w K mg base 4 (m.cls c) (spInv c)
theorem btw_made {c : Cs} {H1 : Hp} {Q : VK} {E : XK} {z : Str} {lo hi : Int} (hz : NameZ z) (m1 : -999 ≤ lo) (m2 : lo ≤ hi) (m3 : hi ≤ 999) (q : ∀ r H', CoAt c H' r (.btw z lo hi) → Same H1 H' → Q (.ref r) H') :
    ∀ x dx, H1 x = Option.none → H1 dx = Option.none → dx ≠ x → spBtw c.bt [.ref x, .str z, .int lo, .int hi] (upd (upd H1 dx (.own x)) x (.ins c.bt dx [])) (fun v H2 => v = .non ∧ Q (.ref x) H2) E := by
  intro x dx hx hdx _
  exact ⟨x, dx, z, lo, hi, rfl, upd_same, hz, m1, m2, m3, fun H' s' => ⟨rfl, q x _ ⟨dx, upd_same⟩ (put_same hx hdx s')⟩⟩
def spBuilt (c : Cs) (d : Nat) : Sp := fun vs H Q _ => ∃ (b t : Addr) (n : Nat) (m : Md), vs = [.ref b, .ref t] ∧ BoxAt H b n ∧ n + m.size ≤ 90000 ∧ MdAt H t m ∧ m.good ∧ m.leaves ≤ 6 ∧ m.depth ≤ 5 ∧ m.depth ≤ d ∧ m.names ≤ 8 ∧
  ∀ r H', CoAt c H' r m → BoxAt H' b (n + m.size) → But b H H' → Q (.ref r) H'
section
variable {P : Program} {w : World} {K : PySem.W.Frag} {mg : Str → Option Value} {base : Heap}
theorem ok_built {f fT fL D : Addr} {fd fdT fdL : FuncData} {c : Cs} (F : Fun K "_law_built" "_law_built" sBuilt f fd) (bF : Binds K fd ["_law_box_here", "_law_model_here"] []) (gF : mg "_law_built" = some (.ref f))
    (T : Fun K "_law_take" "_law_take" sTake fT fdT) (bT : Binds K fdT ["_law_box_here", "_law_many"] []) (gT : mg "_law_take" = some (.ref fT))
    (GL : FnOk P w K mg base CX0 5 fL fdL ["_law_some"] (spMkNam K c.nm)) (gL : mg "_law_named" = some (.ref fL)) (kL : PySem.W.keepIn K (.ref fL) = true) (bL : Binds K fdL ["_law_some"] []) (O : Conds P w K mg base D c) :
    ∀ d, FnOk P w K mg base CX0 (d + 6) f fd ["_law_box_here", "_law_model_here"] (spBuilt c d)
  | 0 => fn_none fun vs H Q E h => by
    obtain ⟨b, t, n, m, _, _, _, _, _, _, _, h0, _⟩ := h
    have := m.depth_pos
    omega
  | d + 1 => by
    have GR := ok_built F bF gF T bT gT GL gL kL bL O d
    have GT : FnOk P w K mg base CX0 1 fT fdT ["_law_box_here", "_law_many"] spTake := ok_take T
    obtain ⟨fB, cda, cc, Dk, fdB, MB, FB, dB, GB⟩ := O.mbt
    obtain ⟨t2, b2⟩ := btw_b2 FB dB
    have b4 := btw_b4 FB
    obtain ⟨fO, fdO, MO, bO, GO⟩ := O.mbo
    obtain ⟨fE, fdE, ME, bE, GE⟩ := O.mei
    obtain ⟨fN, fdN, MN, bN, GN⟩ := O.mnt
    refine F.ok scBuilt (fun vs H Q E h => ?_) (fun cdv A outer s H vs Q E hr h => ?_)
    · obtain ⟨b, t, n, m, rfl, _⟩ := h
      rfl
    · obtain ⟨b, t, n, m, rfl, B, hn, hm, hg, h6, h5, hd, h8, q⟩ := h
      have hr1 := hr.mono (show 1 ≤ d + 6 by omega)
      have hr5 := hr.mono (show 5 ≤ d + 6 by omega)
      have hr4 := hr.mono (show 4 ≤ d + 6 by omega)
      have hr4' := hr.mono (show 3 + 1 ≤ d + 6 by omega)
      have hr3' := hr.mono (show 2 + 1 ≤ d + 6 by omega)
      refine ⟨_, pss_cons (ps_set (i := 2) scBuilt.nd rfl (.inl rfl) (pe_call GT hr1 rfl gT T.kp bT .nil pass0 (pa_cons (pv 0) (pa_cons pe_int pa_nil))))
        (pss_cons (ps_if (pt_cmpR op_eq (pe_ix ix_tup (pv 1) pe_int (fun _ _ => rfl)) pe_str (nomark _))
          (pss_cons (ps_if (PW.pt (pw_and (pt_cmpR op_eq (pv 2) pe_int (nomark _)) (pw_and1 (pt_cmpR op_eq (pe_ix ix_tup (pv 1) pe_int (fun _ _ => rfl)) pe_int (nomark _)))))
            (pss_one (ps_ret (pe_makeK (n := 1) MB GB hr4' rfl O.gbt b2 pass0 (pa_cons (pe_ix ix_tup (pv 1) pe_int (fun _ _ => rfl)) pa_nil) (pk_cons (pe_ix ix_tup (pv 1) pe_int (fun _ _ => rfl)) pk_nil)))) pss_nil)
          (pss_one (ps_ret (pe_makeK (n := 1) MB GB hr4' rfl O.gbt b4 pass0 (pa_cons (pe_ix ix_tup (pv 1) pe_int (fun _ _ => rfl)) pa_nil) (pk_cons (pe_ix ix_tup (pv 1) pe_int (fun _ _ => rfl)) (pk_cons (pe_ix ix_tup (pv 1) pe_int (fun _ _ => rfl)) pk_nil)))))) pss_nil)
        (pss_cons (ps_if (pt_cmpR op_eq (pe_ix ix_tup (pv 1) pe_int (fun _ _ => rfl)) pe_str (nomark _)) (pss_one (ps_ret (pe_call GL hr5 rfl gL kL bL .nil pass0 (pa_cons (pe_slice sl_tup (pv 1) (po_some pe_int) po_none) pa_nil)))) pss_nil)
        (pss_cons (ps_set (i := 3) scBuilt.nd rfl (.inl rfl) (pe_call GR hr rfl gF F.kp bF .nil pass0 (pa_cons (pv 0) (pa_cons (pe_ix ix_tup (pv 1) pe_int (fun _ _ => rfl)) pa_nil))))
        (pss_cons (ps_if (pt_cmpR op_eq (pe_ix ix_tup (pv 1) pe_int (fun _ _ => rfl)) pe_str (nomark _))
          (pss_one (ps_ret (pe_ifExp (pt_cmpR op_eq (pv 2) pe_int (nomark _)) (pe_un (un_own (sp := spInv c) hr4 pass0) (pv 3)) (pe_make MN GN hr3' rfl O.gnt bN .nil pass0 (pa_cons (pv 3) pa_nil))))) pss_nil)
        (pss_cons (ps_set (i := 4) scBuilt.nd rfl (.inl rfl) (pe_call GR hr rfl gF F.kp bF .nil pass0 (pa_cons (pv 0) (pa_cons (pe_ix ix_tup (pv 1) pe_int (fun _ _ => rfl)) pa_nil))))
        (pss_cons (ps_if (pt_cmpR op_eq (pe_ix ix_tup (pv 1) pe_int (fun _ _ => rfl)) pe_str (nomark _))
          (pss_one (ps_ret (pe_ifExp (pt_cmpR op_eq (pv 2) pe_int (nomark _)) (pe_op (op_own (sp := spAnd c) .BitAnd hr5 pass0) (pv 3) (pv 4)) (pe_make MO GO hr4' rfl O.gbo bO .nil pass0 (pa_cons (pv 3) (pa_cons (pv 4) pa_nil)))))) pss_nil)
        (pss_one (ps_ret (pe_ifExp (pt_cmpR op_eq (pv 2) pe_int (nomark _)) (pe_op (op_own (sp := spOr c) .BitOr hr5 pass0) (pv 3) (pv 4)) (pe_make ME GE hr4' rfl O.gei bE .nil pass0 (pa_cons (pv 3) (pa_cons (pv 4) pa_nil)))))))))))), ?_⟩
      refine ⟨_, rfl, b, 2, n, rfl, B, by omega, by decide, by decide, fun way H1 w0 w1 B1 k1 => ?_⟩
      have hm1 := hm.sk (SK.of_but B k1)
      cases m with
      | btw z lo hi =>
        have e : H1 t = some (.tup [.str "between", .str z, .int lo, .int hi]) := hm1
        obtain ⟨hz, m1, m2, m3⟩ := hg
        have fin : ∀ r H', CoAt c H' r (.btw z lo hi) → Same H1 H' → Q (.ref r) H' := fun r H' h s => q r H' h (B1.same s) (k1.trans (But.same s))
        refine ⟨_, rfl, t, _, 0, _, rfl, rfl, .of e, rfl, rfl, _, rfl, ifY (self_eq _) ?_⟩
        refine ⟨_, rfl, rfl, _, rfl, ite2 (fun _ => ⟨_, rfl, t, _, 3, _, rfl, rfl, .of e, rfl, rfl, _, rfl, ite2 (fun e9 => ?_) (fun _ => ?_)⟩) (fun _ => ?_)⟩
        · have h9 : hi = 999 := by
            have := of_decide_eq_true e9
            injection this
          subst h9
          exact ⟨_, rfl, t, _, 1, _, rfl, rfl, .of e, rfl, _, rfl, t, _, 2, _, rfl, rfl, .of e, rfl, rfl, rfl, btw_made hz m1 m2 m3 fin⟩
        all_goals exact ⟨_, rfl, t, _, 1, _, rfl, rfl, .of e, rfl, _, rfl, t, _, 3, _, rfl, rfl, .of e, rfl, _, rfl, t, _, 2, _, rfl, rfl, .of e, rfl, rfl, rfl, btw_made hz m1 m2 m3 fin⟩
      | nam zs =>
        have e : H1 t = some (.tup (.str "named" :: zs.map V.str)) := hm1
        refine ⟨_, rfl, t, _, ((0 : Nat) : Int), .str "named", rfl, rfl, .of e, atI_nat (j := 0) rfl, rfl, _, rfl, ifN nm_bt ?_⟩
        refine ⟨_, rfl, t, _, ((0 : Nat) : Int), .str "named", rfl, rfl, .of e, atI_nat (j := 0) rfl, rfl, _, rfl, ifY (self_eq _) ?_⟩
        refine ⟨_, rfl, _, rfl, t, _, rfl, .of e, not_whole _ _, fun p hp => ?_⟩
        rw [cut_tail]
        refine ⟨p, zs, rfl, .inr (.of upd_same), h8, hg, fun a u H' na s' => ?_⟩
        have s2 := (Same.new (o := .tup (zs.map V.str)) hp).trans s'
        exact q a H' ⟨u, na⟩ (B1.same s2) (k1.trans (But.same s2))
      | neg m1 =>
        obtain ⟨u, e, hu⟩ : ∃ u, H1 t = some (.tup [.str "not", .ref u]) ∧ MdAt H1 u m1 := hm1
        refine ⟨_, rfl, t, _, 0, _, rfl, rfl, .of e, rfl, rfl, _, rfl, ifN nt_bt ?_⟩
        refine ⟨_, rfl, t, _, 0, _, rfl, rfl, .of e, rfl, rfl, _, rfl, ifN nt_nm ?_⟩
        have hs : n + (m1.size + 1) ≤ 90000 := hn
        have hd5 : m1.depth + 1 ≤ 5 := h5
        have hdd : m1.depth + 1 ≤ d + 1 := hd
        refine ⟨_, rfl, _, rfl, t, _, 1, _, rfl, rfl, .of e, rfl, b, u, n + 1, m1, rfl, B1, by omega, hu, hg, h6, by omega, by omega, h8, fun r1 H2 c1 B2 k2 => ?_⟩
        have e2 : H2 t = some (.tup [.str "not", .ref u]) := SK.of_but B1 k2 _ _ e rfl
        have fin : ∀ r H', CoAt c H' r (.neg m1) → Same H2 H' → Q (.ref r) H' := fun r H' h s => q r H' h ((B2.same s).mono (by show n + 1 + m1.size ≤ n + (m1.size + 1); omega)) ((k1.trans k2).trans (But.same s))
        refine ⟨_, rfl, t, _, 0, _, rfl, rfl, .of e2, rfl, rfl, _, rfl, ifY (self_eq _) ?_⟩
        obtain ⟨dx, fs, ha, _⟩ := c1.get
        refine ⟨_, rfl, rfl, _, rfl, ite2 (fun _ => ⟨_, rfl, r1, _, dx, fs, rfl, ha, O.inv m1, r1, m1, rfl, c1, h6, hd5, h8, fin⟩) (fun _ => ⟨_, rfl, nt_made c1 h6 hd5 h8 fin⟩)⟩
      | both m1 m2 =>
        obtain ⟨u, v, e, hu, hv⟩ : ∃ u v, H1 t = some (.tup [.str "both", .ref u, .ref v]) ∧ MdAt H1 u m1 ∧ MdAt H1 v m2 := hm1
        refine ⟨_, rfl, t, _, 0, _, rfl, rfl, .of e, rfl, rfl, _, rfl, ifN bo_bt ?_⟩
        refine ⟨_, rfl, t, _, 0, _, rfl, rfl, .of e, rfl, rfl, _, rfl, ifN bo_nm ?_⟩
        have hs : n + (m1.size + m2.size + 1) ≤ 90000 := hn
        have hd5 : max m1.depth m2.depth + 1 ≤ 5 := h5
        have hdd : max m1.depth m2.depth + 1 ≤ d + 1 := hd
        have hl : m1.leaves + m2.leaves ≤ 6 := h6
        have hk : m1.names + m2.names ≤ 8 := h8
        refine ⟨_, rfl, _, rfl, t, _, 1, _, rfl, rfl, .of e, rfl, b, u, n + 1, m1, rfl, B1, by omega, hu, hg.1, by omega, by omega, by omega, by omega, fun r1 H2 c1 B2 k2 => ?_⟩
        have e2 : H2 t = some (.tup [.str "both", .ref u, .ref v]) := SK.of_but B1 k2 _ _ e rfl
        have hv2 := hv.sk (SK.of_but B1 k2)
        refine ⟨_, rfl, t, _, 0, _, rfl, rfl, .of e2, rfl, rfl, _, rfl, ifN bo_nt ?_⟩
        refine ⟨_, rfl, _, rfl, t, _, 2, _, rfl, rfl, .of e2, rfl, b, v, n + 1 + m1.size, m2, rfl, B2, by omega, hv2, hg.2, by omega, by omega, by omega, by omega, fun r2 H3 c2 B3 k3 => ?_⟩
        have e3 : H3 t = some (.tup [.str "both", .ref u, .ref v]) := SK.of_but B2 k3 _ _ e2 rfl
        have c1' := c1.sk (SK.of_but B2 k3)
        have fin : ∀ r H', CoAt c H' r (.both m1 m2) → Same H3 H' → Q (.ref r) H' := fun r H' h s => q r H' h ((B3.same s).mono (by show n + 1 + m1.size + m2.size ≤ n + (m1.size + m2.size + 1); omega)) (((k1.trans k2).trans k3).trans (But.same s))
        obtain ⟨dx, fs, ha, _⟩ := c1'.get
        obtain ⟨dy, gs, hb, _⟩ := c2.get
        refine ⟨_, rfl, t, _, 0, _, rfl, rfl, .of e3, rfl, rfl, _, rfl, ifY (self_eq _) ?_⟩
        refine ⟨_, rfl, rfl, _, rfl, ite2 (fun _ => ⟨_, rfl, _, rfl, r1, r2, _, _, dx, dy, fs, gs, rfl, rfl, ha, hb, O.and_ m1 m2, r1, r2, m1, m2, rfl, c1', c2, ⟨hl, hd5, hk⟩, fun r H' h s => ⟨⟨r, rfl⟩, fin r H' h s⟩⟩)
          (fun _ => ⟨_, rfl, _, rfl, bo_made c1' c2 ⟨hl, hd5, hk⟩ fin⟩)⟩
      | eith m1 m2 =>
        obtain ⟨u, v, e, hu, hv⟩ : ∃ u v, H1 t = some (.tup [.str "either", .ref u, .ref v]) ∧ MdAt H1 u m1 ∧ MdAt H1 v m2 := hm1
        refine ⟨_, rfl, t, _, 0, _, rfl, rfl, .of e, rfl, rfl, _, rfl, ifN ei_bt ?_⟩
        refine ⟨_, rfl, t, _, 0, _, rfl, rfl, .of e, rfl, rfl, _, rfl, ifN ei_nm ?_⟩
        have hs : n + (m1.size + m2.size + 1) ≤ 90000 := hn
        have hd5 : max m1.depth m2.depth + 1 ≤ 5 := h5
        have hdd : max m1.depth m2.depth + 1 ≤ d + 1 := hd
        have hl : m1.leaves + m2.leaves ≤ 6 := h6
        have hk : m1.names + m2.names ≤ 8 := h8
        refine ⟨_, rfl, _, rfl, t, _, 1, _, rfl, rfl, .of e, rfl, b, u, n + 1, m1, rfl, B1, by omega, hu, hg.1, by omega, by omega, by omega, by omega, fun r1 H2 c1 B2 k2 => ?_⟩
        have e2 : H2 t = some (.tup [.str "either", .ref u, .ref v]) := SK.of_but B1 k2 _ _ e rfl
        have hv2 := hv.sk (SK.of_but B1 k2)
        refine ⟨_, rfl, t, _, 0, _, rfl, rfl, .of e2, rfl, rfl, _, rfl, ifN ei_nt ?_⟩
        refine ⟨_, rfl, _, rfl, t, _, 2, _, rfl, rfl, .of e2, rfl, b, v, n + 1 + m1.size, m2, rfl, B2, by omega, hv2, hg.2, by omega, by omega, by omega, by omega, fun r2 H3 c2 B3 k3 => ?_⟩
        have e3 : H3 t = some (.tup [.str "either", .ref u, .ref v]) := SK.of_but B2 k3 _ _ e2 rfl
        have c1' := c1.sk (SK.of_but B2 k3)
        have fin : ∀ r H', CoAt c H' r (.eith m1 m2) → Same H3 H' → Q (.ref r) H' := fun r H' h s => q r H' h ((B3.same s).mono (by show n + 1 + m1.size + m2.size ≤ n + (m1.size + m2.size + 1); omega)) (((k1.trans k2).trans k3).trans (But.same s))
        obtain ⟨dx, fs, ha, _⟩ := c1'.get
        obtain ⟨dy, gs, hb, _⟩ := c2.get
        refine ⟨_, rfl, t, _, 0, _, rfl, rfl, .of e3, rfl, rfl, _, rfl, ifN ei_bo ?_⟩
        refine ⟨_, rfl, rfl, _, rfl, ite2 (fun _ => ⟨_, rfl, _, rfl, r1, r2, _, _, dx, dy, fs, gs, rfl, rfl, ha, hb, O.or_ m1 m2, r1, r2, m1, m2, rfl, c1', c2, ⟨hl, hd5, hk⟩, fun r H' h s => ⟨⟨r, rfl⟩, fin r H' h s⟩⟩)
          (fun _ => ⟨_, rfl, _, rfl, ei_made c1' c2 ⟨hl, hd5, hk⟩ fin⟩)⟩
end
end G
set_option Elab.async false
set_option linter.all false
set_option maxRecDepth 100000
set_option maxHeartbeats 2000000
/-! F1: conditions compared. -/
namespace G
open PySem PySem.Spec PyProof.Rows L2 NdefX StX
def Md.eqb : Md → Md → Bool
  | .btw z lo hi, .btw z2 lo2 hi2 => decide (z = z2) && (decide (lo = lo2) && decide (hi = hi2))
  | .nam zs, .nam ys => decide (zs = ys)
  | .neg a, .neg b => a.eqb b
  | .both a b, .both a2 b2 => a.eqb a2 && b.eqb b2
  | .eith a b, .eith a2 b2 => a.eqb a2 && b.eqb b2
  | _, _ => false
theorem Md.eqb_iff : ∀ m n : Md, m.eqb n = true ↔ m = n
  | .btw z lo hi, n => by
    cases n <;> simp [Md.eqb]
  | .nam zs, n => by
    cases n <;> simp [Md.eqb]
  | .neg a, n => by
    cases n <;> simp [Md.eqb]
    exact Md.eqb_iff a _
  | .both a b, n => by
    cases n <;> simp [Md.eqb]
    rw [Md.eqb_iff a, Md.eqb_iff b]
  | .eith a b, n => by
    cases n <;> simp [Md.eqb]
    rw [Md.eqb_iff a, Md.eqb_iff b]
theorem Md.eqb_tag {m n : Md} (h : ¬ n.tag = m.tag) : m.eqb n = false := by
  cases m <;> cases n <;> first | rfl | exact (h rfl).elim
def Cs.at (c : Cs) : Nat → Addr
  | 0 => c.bt
  | 1 => c.nm
  | 2 => c.nt
  | 3 => c.bo
  | _ => c.ei
theorem clsT (c : Cs) (m : Md) : m.cls c = c.at m.tag := by cases m <;> rfl
theorem tag_lt : ∀ m : Md, m.tag < 5
  | .btw _ _ _ => (by decide : 0 < 5)
  | .nam _ => (by decide : 1 < 5)
  | .neg _ => (by decide : 2 < 5)
  | .both _ _ => (by decide : 3 < 5)
  | .eith _ _ => (by decide : 4 < 5)
/-- what isinstance and == ask of the five classes -/
structure EqK (K : PySem.W.Frag) (c : Cs) : Prop where
  kit : ∀ i j, i < 5 → j < 5 → PySem.W.kitOne K (.ref (c.at i)) (.ref (c.at j)) = some (decide (i = j))
  kT : ∀ T ∈ (["NoneType", "int", "str", "list", "tuple"] : List String), ∀ j, j < 5 → PySem.W.kitOne K (.type T) (.ref (c.at j)) = some false
  nf : ∀ i j, i < 5 → j < 5 → PySem.W.notFirst K (c.at j) (.ref (c.at i)) = true
  nT : ∀ T ∈ (["NoneType", "int", "str", "list", "tuple"] : List String), ∀ j, j < 5 → PySem.W.notFirst K (c.at j) (.type T) = true
/-- what a condition is compared with -/
inductive EqM (c : Cs) (H : Hp) : V → Option Md → Prop where
  | co {b : Addr} {m : Md} (h : CoAt c H b m) : EqM c H (.ref b) (some m)
  | non : EqM c H .non none
  | int (i : Int) : EqM c H (.int i) none
  | str (z : Str) : EqM c H (.str z) none
  | lst {a : Addr} {xs : List V} (e : H a = some (.lst xs)) : EqM c H (.ref a) none
  | tup {a : Addr} {xs : List V} (e : H a = some (.tup xs)) : EqM c H (.ref a) none
def eqM (m : Md) : Option Md → Bool
  | some n => m.eqb n
  | none => false
def isTag (j : Nat) : Option Md → Bool
  | some n => decide (n.tag = j)
  | none => false
section
variable {P : Program} {w : World} {K : PySem.W.Frag} {mg : Str → Option Value} {base : Heap} {c : Cs} {D : Addr}
theorem EqM.isi {H : Hp} {y : V} {o : Option Md} (O : CsOk K D c) (k : EqK K c) (h : EqM c H y o) {j : Nat} (hj : j < 5) : ∃ t, TyX K H y t ∧ PySem.W.kitOne K t (.ref (c.at j)) = some (isTag j o) := by
  cases h with
  | @co b m h =>
    obtain ⟨dx, fs, hb, _⟩ := h.get
    have u := O.of m
    refine ⟨_, .base (.ins hb u.cl u.ha u.hn u.htk u.hm), ?_⟩
    rw [clsT]
    exact k.kit m.tag j (tag_lt m) hj
  | non => exact ⟨_, .base .non, k.kT _ (by decide) j hj⟩
  | int i => exact ⟨_, .base (.int i), k.kT _ (by decide) j hj⟩
  | str z => exact ⟨_, .base (.str z), k.kT _ (by decide) j hj⟩
  | lst e => exact ⟨_, .base (.lst e), k.kT _ (by decide) j hj⟩
  | tup e => exact ⟨_, .base (.tup e), k.kT _ (by decide) j hj⟩
theorem EqM.oth {H : Hp} {y : V} {o : Option Md} (k : EqK K c) (h : EqM c H y o) {j : Nat} (hj : j < 5) : ∃ t, Oth H y t ∧ PySem.W.notFirst K (c.at j) t = true := by
  cases h with
  | @co b m h =>
    obtain ⟨dx, fs, hb, _⟩ := h.get
    refine ⟨_, .ins hb, ?_⟩
    rw [clsT]
    exact k.nf m.tag j (tag_lt m) hj
  | non => exact ⟨_, .non, k.nT _ (by decide) j hj⟩
  | int i => exact ⟨_, .int i, k.nT _ (by decide) j hj⟩
  | str z => exact ⟨_, .str z, k.nT _ (by decide) j hj⟩
  | lst e => exact ⟨_, .lst e, k.nT _ (by decide) j hj⟩
  | tup e => exact ⟨_, .tup e, k.nT _ (by decide) j hj⟩
theorem EqM.tag {H : Hp} {y : V} {o : Option Md} {j : Nat} (h : EqM c H y o) (e : isTag j o = true) : ∃ b m, y = .ref b ∧ o = some m ∧ CoAt c H b m ∧ m.tag = j := by
  cases h with
  | @co b m h => exact ⟨b, m, rfl, rfl, h, of_decide_eq_true e⟩
  | _ => cases e
theorem eqM_no {m : Md} {o : Option Md} (e : isTag m.tag o = false) : eqM m o = false := by
  cases o with
  | none => rfl
  | some n => exact Md.eqb_tag (of_decide_eq_false e)
def spEqC (c : Cs) (t d : Nat) : Sp := fun vs H Q _ => ∃ (a : Addr) (m : Md) (y : V) (o : Option Md), vs = [.ref a, y] ∧ CoAt c H a m ∧ m.tag = t ∧ m.depth ≤ d ∧ m.good ∧ (∀ n, o = some n → n.good) ∧ EqM c H y o ∧ Q (.bl (eqM m o)) H
/-- each class's __eq__ keeps its promise, of depth d -/
structure EqAll (P : Program) (w : World) (K : PySem.W.Frag) (mg : Str → Option Value) (base : Heap) (c : Cs) (k d : Nat) : Prop where
  fn : ∀ t, t < 5 → ∃ (f : Addr) (fd : FuncData), EqO K (c.at t) f ∧ Binds K fd ["self", "other"] [] ∧ FnOk P w K mg base CX0 k f fd ["self", "other"] (spEqC c t d)
  ek : EqK K c
def rEqM (c : Cs) (d : Nat) (pos : Bool) : R2 := fun x y H Q => ∃ (a : Addr) (m : Md) (o : Option Md), x = .ref a ∧ CoAt c H a m ∧ m.depth ≤ d ∧ m.good ∧ (∀ n, o = some n → n.good) ∧ EqM c H y o ∧ Q (.bl (cond pos (eqM m o) (!eqM m o))) H
theorem op_eqM {X : Cx} {k d : Nat} (A : EqAll X.prog X.w X.K X.mg X.base c k d) (hr : Room k X.A) : OpR X (compareOp .Eq) (rEqM c d true) := by
  intro pins s σ H x y v u Q I rx ry h
  obtain ⟨a, m, o, rfl, hm, hd, g1, g2, ho, q⟩ := h
  obtain ⟨f, fd, e, hb, F⟩ := A.fn m.tag (tag_lt m)
  obtain ⟨dx, fs, ha, _⟩ := hm.get
  obtain ⟨t, ot, nf⟩ := ho.oth A.ek (tag_lt m)
  rw [clsT] at ha
  exact op_eqB (E := E0) e hb F hr pass0 pins s σ H _ y v u Q I rx ry ⟨a, dx, fs, t, rfl, ha, ot, nf, a, m, y, o, rfl, hm, rfl, hd, g1, g2, ho, _, rfl, q⟩
theorem op_neM {X : Cx} {k d : Nat} (A : EqAll X.prog X.w X.K X.mg X.base c k d) (hr : Room (k + 1) X.A) : OpR X (compareOp .NotEq) (rEqM c d false) := by
  intro pins s σ H x y v u Q I rx ry h
  obtain ⟨a, m, o, rfl, hm, hd, g1, g2, ho, q⟩ := h
  obtain ⟨f, fd, e, hb, F⟩ := A.fn m.tag (tag_lt m)
  obtain ⟨dx, fs, ha, _⟩ := hm.get
  obtain ⟨t, ot, nf⟩ := ho.oth A.ek (tag_lt m)
  rw [clsT] at ha
  exact op_neB (E := E0) e hb F hr pins s σ H _ y v u Q I rx ry ⟨a, dx, fs, t, rfl, ha, ot, nf, a, m, y, o, rfl, hm, rfl, hd, g1, g2, ho, _, rfl, q⟩
theorem int_dec (i j : Int) : decide (V.int i = V.int j) = decide (i = j) := by
  by_cases z : i = j
  · rw [decide_eq_true z, decide_eq_true (congrArg V.int z)]
  · rw [decide_eq_false z, decide_eq_false fun h => z (V.int.inj h)]
theorem str_dec (i j : Str) : decide (V.str i = V.str j) = decide (i = j) := by
  by_cases z : i = j
  · rw [decide_eq_true z, decide_eq_true (congrArg V.str z)]
  · rw [decide_eq_false z, decide_eq_false fun h => z (V.str.inj h)]
theorem sc_bt11 : FnScope ["self", "other"] ["self", "other"] (defScope (sBtw 11)) := ⟨rfl, rfl, rfl, by decide +kernel, rfl, by decide +kernel, by decide +kernel⟩
theorem sc_nm9 : FnScope ["self", "other"] ["self", "other"] (defScope (sNam 9)) := ⟨rfl, rfl, rfl, by decide +kernel, rfl, by decide +kernel, by decide +kernel⟩
theorem sc_bo10 : FnScope ["self", "other"] ["self", "other"] (defScope (sBo 10)) := ⟨rfl, rfl, rfl, by decide +kernel, rfl, by decide +kernel, by decide +kernel⟩
theorem sc_ei10 : FnScope ["self", "other"] ["self", "other"] (defScope (sEi 10)) := ⟨rfl, rfl, rfl, by decide +kernel, rfl, by decide +kernel, by decide +kernel⟩
theorem sc_nt10 : FnScope ["self", "other"] ["self", "other"] (defScope (sNt 10)) := ⟨rfl, rfl, rfl, by decide +kernel, rfl, by decide +kernel, by decide +kernel⟩
theorem spEqC_len {t d : Nat} : ∀ vs H Q E, spEqC c t d vs H Q E → vs.length = (["self", "other"] : List Str).length := fun vs H Q E h => by
  obtain ⟨a, m, y, o, rfl, _⟩ := h
  rfl
theorem ok_bteq {d : Nat} {f : Addr} {fd : FuncData} (F : Fun K "__eq__" "Between.__eq__" (sBtw 11) f fd) (O : CsOk K D c) (ek : EqK K c) (gC : mg "Between" = some (.ref c.bt)) (mi : mg "isinstance" = none)
    (n1 : NoAttr K c.bt "field_name") (n2 : NoAttr K c.bt "lowest") (n3 : NoAttr K c.bt "highest") : FnOk P w K mg base CX0 1 f fd ["self", "other"] (spEqC c 0 d) := by
  refine F.ok sc_bt11 spEqC_len (fun cdv A outer s H vs Q E hr h => ?_)
  obtain ⟨a, m, y, o, rfl, hm, ht, hd, g1, g2, ho, q⟩ := h
  refine ⟨_, pss_one (ps_ret (pe_and (pe_callB call_isi (by rfl) mi (by decide +kernel) (pa_cons (pv 1) (pa_cons (pe_glob (v := .ref c.bt) rfl gC rfl) pa_nil)))
    (pe_and (pe_cmpR op_eq (pe_fld (pv 0) rfl) (pe_fld (pv 1) rfl) (nomark _)) (pe_and (pe_cmpR op_eq (pe_fld (pv 0) rfl) (pe_fld (pv 1) rfl) (nomark _)) (pe_one (pe_cmpR op_eq (pe_fld (pv 0) rfl) (pe_fld (pv 1) rfl) (nomark _))))))), ?_⟩
  obtain ⟨t, ty, kt⟩ := ho.isi O ek (j := 0) (by decide)
  refine ⟨_, rfl, _, _, _, _, _, rfl, .own _, ty, kt, _, rfl, ?_⟩
  cases m with
  | btw z lo hi =>
    cases e : isTag 0 o with
    | false =>
      rw [eqM_no (m := .btw z lo hi) e] at q
      exact iteF q
    | true =>
      obtain ⟨b, n, rfl, rfl, hb, tn⟩ := ho.tag e
      cases n with
      | btw z2 lo2 hi2 =>
        obtain ⟨dx, ha⟩ := hm
        obtain ⟨dy, hb⟩ := hb
        have q' : Q (.bl (decide (z = z2) && (decide (lo = lo2) && decide (hi = hi2)))) H := by
          exact q
        refine iteT ⟨_, rfl, a, c.bt, dx, _, _, rfl, ha, O.bt.cl, n1, rfl, _, rfl, b, c.bt, dy, _, _, rfl, hb, O.bt.cl, n1, rfl, rfl, _, rfl, ?_⟩
        rw [str_dec]
        cases e1 : decide (z = z2) with
        | false =>
          rw [e1] at q'
          exact iteF q'
        | true =>
          rw [e1] at q'
          refine iteT ⟨_, rfl, a, c.bt, dx, _, _, rfl, ha, O.bt.cl, n2, rfl, _, rfl, b, c.bt, dy, _, _, rfl, hb, O.bt.cl, n2, rfl, rfl, _, rfl, ?_⟩
          rw [int_dec]
          cases e2 : decide (lo = lo2) with
          | false =>
            rw [e2] at q'
            exact iteF q'
          | true =>
            rw [e2] at q'
            refine iteT ⟨_, rfl, a, c.bt, dx, _, _, rfl, ha, O.bt.cl, n3, rfl, _, rfl, b, c.bt, dy, _, _, rfl, hb, O.bt.cl, n3, rfl, rfl, ?_⟩
            rw [int_dec]
            exact q'
      | _ => cases tn
  | _ => cases ht
theorem name_lay {z : Str} (h : NameZ z) : lay (.str z) := by
  refine ⟨rfl, ?_, Nat.zero_le _⟩
  show z.cps.all (· < 0x110000) = true
  rw [Array.all_eq_true]
  intro i hi
  have hm : z.cps[i] ∈ cs z := by simp [cs]
  have := h.1 _ hm
  exact decide_eq_true (by omega)
theorem names_shaped {zs : List Str} (h : ∀ z ∈ zs, NameZ z) : SeqAt.shaped (.tuple (zs.map PyData.str)) = true := lay_list (ds := zs.map PyData.str) fun d hd => by
  obtain ⟨z, hz, rfl⟩ := List.mem_map.mp hd
  exact name_lay (h z hz)
theorem dp_strs {H : Hp} : ∀ zs : List Str, DpAll K H (zs.map V.str) (zs.map PyData.str)
  | [] => .nil
  | z :: zs => .cons (.str z) (dp_strs zs)
theorem eqv_strs : ∀ xs ys : List Str, PyData.eqvAll (xs.map PyData.str) (ys.map PyData.str) = decide (xs = ys)
  | [], [] => rfl
  | [], _ :: _ => rfl
  | _ :: _, [] => rfl
  | x :: xs, y :: ys => by
    show (PyData.eqv (.str x) (.str y) && PyData.eqvAll (xs.map PyData.str) (ys.map PyData.str)) = _
    rw [eqv_strs xs ys]
    by_cases h : x = y
    · by_cases h2 : xs = ys
      · rw [decide_eq_true h2, h, h2]
        simp [PyData.eqv]
      · simp [h2]
    · simp [PyData.eqv, h]
theorem ok_nmeq {d : Nat} {f : Addr} {fd : FuncData} (F : Fun K "__eq__" "Named.__eq__" (sNam 9) f fd) (O : CsOk K D c) (ek : EqK K c) (gC : mg "Named" = some (.ref c.nm)) (mi : mg "isinstance" = none)
    (n1 : NoAttr K c.nm "accepted_names") : FnOk P w K mg base CX0 1 f fd ["self", "other"] (spEqC c 1 d) := by
  refine F.ok sc_nm9 spEqC_len (fun cdv A outer s H vs Q E hr h => ?_)
  obtain ⟨a, m, y, o, rfl, hm, ht, hd, g1, g2, ho, q⟩ := h
  refine ⟨_, pss_one (ps_ret (pe_and (pe_callB call_isi (by rfl) mi (by decide +kernel) (pa_cons (pv 1) (pa_cons (pe_glob (v := .ref c.nm) rfl gC rfl) pa_nil)))
    (pe_one (pe_cmpR (op_eqD hr.units) (pe_fld (pv 0) rfl) (pe_fld (pv 1) rfl) (nomark _))))), ?_⟩
  obtain ⟨t, ty, kt⟩ := ho.isi O ek (j := 1) (by decide)
  refine ⟨_, rfl, _, _, _, _, _, rfl, .own _, ty, kt, _, rfl, ?_⟩
  cases m with
  | nam zs =>
    cases e : isTag 1 o with
    | false =>
      rw [eqM_no (m := .nam zs) e] at q
      exact iteF q
    | true =>
      obtain ⟨b, n, rfl, rfl, hb, tn⟩ := ho.tag e
      cases n with
      | nam ys =>
        obtain ⟨ta, dx, ha, hta⟩ := hm
        obtain ⟨tb, dy, hb, htb⟩ := hb
        refine iteT ⟨_, rfl, a, c.nm, dx, _, _, rfl, ha, O.nm.cl, n1, rfl, _, rfl, b, c.nm, dy, _, _, rfl, hb, O.nm.cl, n1, rfl, ?_⟩
        refine ⟨.tuple (zs.map PyData.str), .tuple (ys.map PyData.str), .tup (.of hta) (dp_strs zs), .tup (.of htb) (dp_strs ys), names_shaped g1, names_shaped (g2 _ rfl), ?_⟩
        have e2 : PyData.eqv (.tuple (zs.map PyData.str)) (.tuple (ys.map PyData.str)) = eqM (.nam zs) (some (.nam ys)) := by
          show PyData.eqvAll _ _ = decide (zs = ys)
          exact eqv_strs zs ys
        rw [e2]
        exact q
      | _ => cases tn
  | _ => cases ht
end
end G
set_option Elab.async false
set_option linter.all false
set_option maxRecDepth 100000
set_option maxHeartbeats 2000000
/-! F2: conditions of parts compared; all of them. -/
namespace G
open PySem PySem.Spec PyProof.Rows L2 NdefX StX
section
variable {P : Program} {w : World} {K : PySem.W.Frag} {mg : Str → Option Value} {base : Heap} {c : Cs} {D : Addr}
theorem ok_boeq {k d : Nat} {f : Addr} {fd : FuncData} (A : EqAll P w K mg base c k d) (F : Fun K "__eq__" "Both.__eq__" (sBo 10) f fd) (O : CsOk K D c) (gC : mg "Both" = some (.ref c.bo)) (mi : mg "isinstance" = none)
    (n1 : NoAttr K c.bo "first") (n2 : NoAttr K c.bo "second") : FnOk P w K mg base CX0 (k + 1) f fd ["self", "other"] (spEqC c 3 (d + 1)) := by
  refine F.ok sc_bo10 spEqC_len (fun cdv A' outer s H vs Q E hr h => ?_)
  obtain ⟨a, m, y, o, rfl, hm, ht, hd, g1, g2, ho, q⟩ := h
  refine ⟨_, pss_one (ps_ret (pe_and (pe_callB call_isi (by rfl) mi (by decide +kernel) (pa_cons (pv 1) (pa_cons (pe_glob (v := .ref c.bo) rfl gC rfl) pa_nil)))
    (pe_and (pe_cmpR (op_eqM (d := d) A hr) (pe_fld (pv 0) rfl) (pe_fld (pv 1) rfl) (nomark _)) (pe_one (pe_cmpR (op_eqM (d := d) A hr) (pe_fld (pv 0) rfl) (pe_fld (pv 1) rfl) (nomark _)))))), ?_⟩
  obtain ⟨t, ty, kt⟩ := ho.isi O A.ek (j := 3) (by decide)
  refine ⟨_, rfl, _, _, _, _, _, rfl, .own _, ty, kt, _, rfl, ?_⟩
  cases m with
  | both m1 m2 =>
    cases e : isTag 3 o with
    | false =>
      rw [eqM_no (m := .both m1 m2) e] at q
      exact iteF q
    | true =>
      obtain ⟨b, n, rfl, rfl, hb, tn⟩ := ho.tag e
      cases n with
      | both u1 u2 =>
        obtain ⟨p1, p2, dx, ha, h1, h2⟩ := hm
        obtain ⟨q1, q2, dy, hb, r1, r2⟩ := hb
        have hd' : max m1.depth m2.depth + 1 ≤ d + 1 := hd
        have g3 : u1.good ∧ u2.good := g2 _ rfl
        have q' : Q (.bl (m1.eqb u1 && m2.eqb u2)) H := q
        refine iteT ⟨_, rfl, a, c.bo, dx, _, _, rfl, ha, O.bo.cl, n1, rfl, _, rfl, b, c.bo, dy, _, _, rfl, hb, O.bo.cl, n1, rfl, ?_⟩
        refine ⟨p1, m1, some u1, rfl, h1, by omega, g1.1, fun n z => by cases z; exact g3.1, .co r1, _, rfl, ?_⟩
        show if m1.eqb u1 = true then _ else _
        cases e1 : m1.eqb u1 with
        | false =>
          rw [e1] at q'
          exact iteF q'
        | true =>
          rw [e1] at q'
          refine iteT ⟨_, rfl, a, c.bo, dx, _, _, rfl, ha, O.bo.cl, n2, rfl, _, rfl, b, c.bo, dy, _, _, rfl, hb, O.bo.cl, n2, rfl, ?_⟩
          exact ⟨p2, m2, some u2, rfl, h2, by omega, g1.2, fun n z => by cases z; exact g3.2, .co r2, q'⟩
      | _ => cases tn
  | _ => cases ht
theorem ok_eieq {k d : Nat} {f : Addr} {fd : FuncData} (A : EqAll P w K mg base c k d) (F : Fun K "__eq__" "Either.__eq__" (sEi 10) f fd) (O : CsOk K D c) (gC : mg "Either" = some (.ref c.ei)) (mi : mg "isinstance" = none)
    (n1 : NoAttr K c.ei "first") (n2 : NoAttr K c.ei "second") : FnOk P w K mg base CX0 (k + 1) f fd ["self", "other"] (spEqC c 4 (d + 1)) := by
  refine F.ok sc_ei10 spEqC_len (fun cdv A' outer s H vs Q E hr h => ?_)
  obtain ⟨a, m, y, o, rfl, hm, ht, hd, g1, g2, ho, q⟩ := h
  refine ⟨_, pss_one (ps_ret (pe_and (pe_callB call_isi (by rfl) mi (by decide +kernel) (pa_cons (pv 1) (pa_cons (pe_glob (v := .ref c.ei) rfl gC rfl) pa_nil)))
    (pe_and (pe_cmpR (op_eqM (d := d) A hr) (pe_fld (pv 0) rfl) (pe_fld (pv 1) rfl) (nomark _)) (pe_one (pe_cmpR (op_eqM (d := d) A hr) (pe_fld (pv 0) rfl) (pe_fld (pv 1) rfl) (nomark _)))))), ?_⟩
  obtain ⟨t, ty, kt⟩ := ho.isi O A.ek (j := 4) (by decide)
  refine ⟨_, rfl, _, _, _, _, _, rfl, .own _, ty, kt, _, rfl, ?_⟩
  cases m with
  | eith m1 m2 =>
    cases e : isTag 4 o with
    | false =>
      rw [eqM_no (m := .eith m1 m2) e] at q
      exact iteF q
    | true =>
      obtain ⟨b, n, rfl, rfl, hb, tn⟩ := ho.tag e
      cases n with
      | eith u1 u2 =>
        obtain ⟨p1, p2, dx, ha, h1, h2⟩ := hm
        obtain ⟨q1, q2, dy, hb, r1, r2⟩ := hb
        have hd' : max m1.depth m2.depth + 1 ≤ d + 1 := hd
        have g3 : u1.good ∧ u2.good := g2 _ rfl
        have q' : Q (.bl (m1.eqb u1 && m2.eqb u2)) H := q
        refine iteT ⟨_, rfl, a, c.ei, dx, _, _, rfl, ha, O.ei.cl, n1, rfl, _, rfl, b, c.ei, dy, _, _, rfl, hb, O.ei.cl, n1, rfl, ?_⟩
        refine ⟨p1, m1, some u1, rfl, h1, by omega, g1.1, fun n z => by cases z; exact g3.1, .co r1, _, rfl, ?_⟩
        show if m1.eqb u1 = true then _ else _
        cases e1 : m1.eqb u1 with
        | false =>
          rw [e1] at q'
          exact iteF q'
        | true =>
          rw [e1] at q'
          refine iteT ⟨_, rfl, a, c.ei, dx, _, _, rfl, ha, O.ei.cl, n2, rfl, _, rfl, b, c.ei, dy, _, _, rfl, hb, O.ei.cl, n2, rfl, ?_⟩
          exact ⟨p2, m2, some u2, rfl, h2, by omega, g1.2, fun n z => by cases z; exact g3.2, .co r2, q'⟩
      | _ => cases tn
  | _ => cases ht
theorem ok_nteq {k d : Nat} {f : Addr} {fd : FuncData} (A : EqAll P w K mg base c k d) (F : Fun K "__eq__" "Not.__eq__" (sNt 10) f fd) (O : CsOk K D c) (gC : mg "Not" = some (.ref c.nt)) (mi : mg "isinstance" = none)
    (n1 : NoAttr K c.nt "inner") : FnOk P w K mg base CX0 (k + 1) f fd ["self", "other"] (spEqC c 2 (d + 1)) := by
  refine F.ok sc_nt10 spEqC_len (fun cdv A' outer s H vs Q E hr h => ?_)
  obtain ⟨a, m, y, o, rfl, hm, ht, hd, g1, g2, ho, q⟩ := h
  refine ⟨_, pss_one (ps_ret (pe_and (pe_callB call_isi (by rfl) mi (by decide +kernel) (pa_cons (pv 1) (pa_cons (pe_glob (v := .ref c.nt) rfl gC rfl) pa_nil)))
    (pe_one (pe_cmpR (op_eqM (d := d) A hr) (pe_fld (pv 0) rfl) (pe_fld (pv 1) rfl) (nomark _))))), ?_⟩
  obtain ⟨t, ty, kt⟩ := ho.isi O A.ek (j := 2) (by decide)
  refine ⟨_, rfl, _, _, _, _, _, rfl, .own _, ty, kt, _, rfl, ?_⟩
  cases m with
  | neg m1 =>
    cases e : isTag 2 o with
    | false =>
      rw [eqM_no (m := .neg m1) e] at q
      exact iteF q
    | true =>
      obtain ⟨b, n, rfl, rfl, hb, tn⟩ := ho.tag e
      cases n with
      | neg u1 =>
        obtain ⟨p1, dx, ha, h1⟩ := hm
        obtain ⟨q1, dy, hb, r1⟩ := hb
        have hd' : m1.depth + 1 ≤ d + 1 := hd
        have g3 : u1.good := g2 (.neg u1) rfl
        refine iteT ⟨_, rfl, a, c.nt, dx, _, _, rfl, ha, O.nt.cl, n1, rfl, _, rfl, b, c.nt, dy, _, _, rfl, hb, O.nt.cl, n1, rfl, ?_⟩
        exact ⟨p1, m1, some u1, rfl, h1, by omega, g1, fun n z => by cases z; exact g3, .co r1, q⟩
      | _ => cases tn
  | _ => cases ht
def LeafEq (P : Program) (w : World) (K : PySem.W.Frag) (mg : Str → Option Value) (base : Heap) (c : Cs) (t : Nat) : Prop := ∃ (f : Addr) (fd : FuncData), EqO K (c.at t) f ∧ Binds K fd ["self", "other"] [] ∧ ∀ d, FnOk P w K mg base CX0 1 f fd ["self", "other"] (spEqC c t d)
def TreeEq (P : Program) (w : World) (K : PySem.W.Frag) (mg : Str → Option Value) (base : Heap) (c : Cs) (t : Nat) : Prop := ∃ (f : Addr) (fd : FuncData), EqO K (c.at t) f ∧ Binds K fd ["self", "other"] [] ∧ ∀ k d, EqAll P w K mg base c k d → FnOk P w K mg base CX0 (k + 1) f fd ["self", "other"] (spEqC c t (d + 1))
theorem eq_none {t : Nat} : ∀ vs H Q E, spEqC c t 0 vs H Q E → False := fun vs H Q E h => by
  obtain ⟨a, m, y, o, _, _, _, hd, _⟩ := h
  have := m.depth_pos
  omega
theorem eq_all (ek : EqK K c) (h0 : LeafEq P w K mg base c 0) (h1 : LeafEq P w K mg base c 1) (h2 : TreeEq P w K mg base c 2) (h3 : TreeEq P w K mg base c 3) (h4 : TreeEq P w K mg base c 4) : ∀ d, EqAll P w K mg base c (d + 1) d
  | 0 => ⟨fun t ht => by
    obtain ⟨f0, fd0, m0, b0, e0⟩ := h0
    obtain ⟨f1, fd1, m1, b1, e1⟩ := h1
    obtain ⟨f2, fd2, m2, b2, _⟩ := h2
    obtain ⟨f3, fd3, m3, b3, _⟩ := h3
    obtain ⟨f4, fd4, m4, b4, _⟩ := h4
    match t, ht with
    | 0, _ => exact ⟨f0, fd0, m0, b0, e0 0⟩
    | 1, _ => exact ⟨f1, fd1, m1, b1, e1 0⟩
    | 2, _ => exact ⟨f2, fd2, m2, b2, fn_none eq_none⟩
    | 3, _ => exact ⟨f3, fd3, m3, b3, fn_none eq_none⟩
    | 4, _ => exact ⟨f4, fd4, m4, b4, fn_none eq_none⟩, ek⟩
  | d + 1 => ⟨fun t ht => by
    have A := eq_all ek h0 h1 h2 h3 h4 d
    obtain ⟨f0, fd0, m0, b0, e0⟩ := h0
    obtain ⟨f1, fd1, m1, b1, e1⟩ := h1
    obtain ⟨f2, fd2, m2, b2, e2⟩ := h2
    obtain ⟨f3, fd3, m3, b3, e3⟩ := h3
    obtain ⟨f4, fd4, m4, b4, e4⟩ := h4
    match t, ht with
    | 0, _ => exact ⟨f0, fd0, m0, b0, (e0 _).mono (by omega)⟩
    | 1, _ => exact ⟨f1, fd1, m1, b1, (e1 _).mono (by omega)⟩
    | 2, _ => exact ⟨f2, fd2, m2, b2, e2 _ _ A⟩
    | 3, _ => exact ⟨f3, fd3, m3, b3, e3 _ _ A⟩
    | 4, _ => exact ⟨f4, fd4, m4, b4, e4 _ _ A⟩, ek⟩
end
end G
set_option Elab.async false
set_option linter.all false
set_option maxRecDepth 100000
set_option maxHeartbeats 2000000
/-! F3: conditions as texts. -/
namespace G
open PySem PySem.Spec PyProof.Rows L2 NdefX StX
def Md.txt : Md → Str
  | .btw z lo hi => Str.empty ++ z ++ (" " : Str) ++ ((toString lo : String) : Str) ++ (".." : Str) ++ ((toString hi : String) : Str)
  | .nam zs => Str.empty ++ ("[" : Str) ++ Txt.join " " zs ++ ("]" : Str)
  | .neg m => Str.empty ++ ("not " : Str) ++ m.txt
  | .both a b => Str.empty ++ ("(" : Str) ++ a.txt ++ (" and " : Str) ++ b.txt ++ (")" : Str)
  | .eith a b => Str.empty ++ ("(" : Str) ++ a.txt ++ (" or " : Str) ++ b.txt ++ (")" : Str)
theorem slog {i : Int} (h1 : -999 ≤ i) (h2 : i ≤ 999) : i.natAbs.log2 < 1920 := by
  have h : i.natAbs < 2 ^ 10 := by omega
  by_cases z : i.natAbs = 0
  · rw [z]
    decide
  · exact Nat.lt_trans ((Nat.log2_lt z).mpr h) (by decide)
theorem int_text {i : Int} (h1 : -999 ≤ i) (h2 : i ≤ 999) : ((toString i : String) : Str).length ≤ 1921 := shown_le (.int i) (decide_eq_true (slog h1 h2))
theorem sum_le {L : Nat} : ∀ {ys : List Str}, (∀ y ∈ ys, y.length ≤ L) → (ys.map (·.length)).sum ≤ ys.length * L
  | [], _ => Nat.zero_le _
  | y :: ys, h => by
    have h1 := h y List.mem_cons_self
    have h2 := sum_le (L := L) (ys := ys) fun x hx => h x (List.mem_cons_of_mem _ hx)
    rw [List.map_cons, List.sum_cons, List.length_cons, Nat.add_mul, Nat.one_mul]
    omega
theorem join_len (y : Str) (ys : List Str) : (Txt.join y ys).length ≤ (ys.map (·.length)).sum + ys.length * y.length := by
  rw [TL.join_eq]
  exact StrLaws.join_length_le y ys
theorem joinN_le (zs : List Str) (h : ∀ z ∈ zs, NameZ z) : (Txt.join " " zs).length ≤ 9 * zs.length := by
  refine Nat.le_trans (join_len " " zs) ?_
  have e1 : ((" " : String) : Str).length = 1 := rfl
  rw [e1]
  induction zs with
  | nil => exact Nat.le_refl _
  | cons z r ih =>
    have h8 := (h z List.mem_cons_self).2.2
    have := ih fun g hg => h g (List.mem_cons_of_mem _ hg)
    simp only [List.map_cons, List.sum_cons, List.length_cons] at *
    omega
theorem txt_len : ∀ m : Md, m.good → m.names ≤ 8 → m.txt.length ≤ 4000 * m.size
  | .btw z lo hi, g, _ => by
    have h8 := g.1.2.2
    have i1 := int_text (i := lo) g.2.1 (by have := g.2.2.1; have := g.2.2.2; omega)
    have i2 := int_text (i := hi) (by have := g.2.1; have := g.2.2.1; omega) g.2.2.2
    unfold Md.txt Md.size
    simp only [app_len]
    have e0 : Str.empty.length = 0 := rfl
    have e1 : ((" " : String) : Str).length = 1 := rfl
    have e2 : ((".." : String) : Str).length = 2 := rfl
    omega
  | .nam zs, g, n => by
    have n' : zs.length ≤ 8 := n
    have j := joinN_le zs g
    unfold Md.txt Md.size
    simp only [app_len]
    have e0 : Str.empty.length = 0 := rfl
    have e1 : (("[" : String) : Str).length = 1 := rfl
    have e2 : (("]" : String) : Str).length = 1 := rfl
    omega
  | .neg m, g, n => by
    have i := txt_len m g n
    unfold Md.txt Md.size
    simp only [app_len]
    have e0 : Str.empty.length = 0 := rfl
    have e1 : (("not " : String) : Str).length = 4 := rfl
    omega
  | .both a b, g, n => by
    have n' : a.names + b.names ≤ 8 := n
    have i := txt_len a g.1 (by omega)
    have j := txt_len b g.2 (by omega)
    unfold Md.txt Md.size
    simp only [app_len]
    have e0 : Str.empty.length = 0 := rfl
    have e1 : (("(" : String) : Str).length = 1 := rfl
    have e2 : ((")" : String) : Str).length = 1 := rfl
    have e3 : ((" and " : String) : Str).length = 5 := rfl
    omega
  | .eith a b, g, n => by
    have n' : a.names + b.names ≤ 8 := n
    have i := txt_len a g.1 (by omega)
    have j := txt_len b g.2 (by omega)
    unfold Md.txt Md.size
    simp only [app_len]
    have e0 : Str.empty.length = 0 := rfl
    have e1 : (("(" : String) : Str).length = 1 := rfl
    have e2 : ((")" : String) : Str).length = 1 := rfl
    have e3 : ((" or " : String) : Str).length = 4 := rfl
    omega
def spStrC (c : Cs) (t d : Nat) : Sp := fun vs H Q _ => ∃ (a : Addr) (m : Md), vs = [.ref a] ∧ CoAt c H a m ∧ m.tag = t ∧ m.depth ≤ d ∧ m.depth ≤ 5 ∧ m.good ∧ m.names ≤ 8 ∧ Q (.str m.txt) H
structure StrK (K : PySem.W.Frag) (C f : Addr) : Prop where
  st : PySem.W.findIn K (.ref C) "__str__" = some (some (.ref f))
  fn : PySem.W.isFn K (.ref f) = true
  fm : PySem.W.findIn K (.ref C) "__format__" = some (some (.builtin "object.__format__"))
  ob : PySem.W.mroIn K C (.type "object") = some true
/-- each class's __str__ keeps its promise, of depth d -/
def StrAll (P : Program) (w : World) (K : PySem.W.Frag) (mg : Str → Option Value) (base : Heap) (c : Cs) (k d : Nat) : Prop := ∀ t, t < 5 → ∃ (f : Addr) (fd : FuncData), StrK K (c.at t) f ∧ Binds K fd ["self"] [] ∧ FnOk P w K mg base CX0 k f fd ["self"] (spStrC c t d)
section
variable {P : Program} {w : World} {K : PySem.W.Frag} {mg : Str → Option Value} {base : Heap} {c : Cs} {D : Addr}
def tFmtM (c : Cs) (d : Nat) (te : TE) : TE := fun σ H Q => te σ H fun x H1 => ∃ (a : Addr) (m : Md), x = .ref a ∧ CoAt c H1 a m ∧ m.depth ≤ d ∧ m.depth ≤ 5 ∧ m.good ∧ m.names ≤ 8 ∧ Q (.str m.txt) H1
/-- a condition in an f-string -/
theorem pe_fmtM {X : Cx} {k d : Nat} {e : Expr} {te : TE} {pos : Pos} (A : StrAll X.prog X.w X.K X.mg X.base c k d) (hr : Room (k + 2) X.A) (he : PE X e te) : PE X (.FormattedValue e (-1) none pos) (tFmtM c d te) := by
  refine ⟨fun pins s σ H Q J h => wpAny_FormattedValue_plain (thn (he.run pins s σ H _ J h) fun u s2 z => ?_)⟩
  obtain ⟨x, H1, I1, r1, a, m, rfl, hm, hd, h5, g, n8, q⟩ := z
  cases (show u = Value.ref a from r1)
  obtain ⟨f, fd, sk, hb, F⟩ := A m.tag (tag_lt m)
  obtain ⟨dx, fs, ha, _⟩ := hm.get
  rw [clsT] at ha
  obtain ⟨ox, od, O⟩ := insX_at I1 ha
  have hr2 : Room (k + 1) X.A.in1 := Room.in1 hr
  have I2 := I1.tok (s2.toks + 1)
  have hq : spStrC c m.tag d [V.ref a] H1 (fun v H2 => ∃ y, v = .str y ∧ Q (.str y) H2) E0 := ⟨a, m, rfl, hm, rfl, hd, h5, g, n8, _, rfl, q⟩
  have hl : ([Value.ref a] ++ []).length = (["self"] : List Str).length := rfl
  refine PySem.W.kfo_fieldS (by have := hr2.units; omega) I1.kIn O sk.fm sk.ob sk.st sk.fn ?_
  refine wpAny_call (codeAny_mono (F.run X.A.in1 X.stack { s2 with toks := s2.toks + 1 } H1 ⟨[Value.ref a], []⟩ ([Value.ref a] ++ []) [V.ref a] _ E0 (hr2.mono (Nat.le_succ k)) I2.env0.in1 (hb _ [Value.ref a] I2.kIn hl) (show Vals [V.ref a] [Value.ref a] from .cons rfl .nil) hq) fun r s' z => ?_)
  cases r with
  | error e => exact False.elim z
  | ok fl =>
    cases fl with
    | ret u =>
      obtain ⟨v, H', I3, rv, y, rfl, q⟩ := I2.after z
      obtain ⟨t, rfl⟩ := (show ∃ t, u = Value.str y t from rv)
      exact ⟨.str y, H', I3, ⟨t, rfl⟩, q⟩
    | next => exact False.elim z
    | brk => exact False.elim z
    | cont => exact False.elim z
theorem spStrC_len {t d : Nat} : ∀ vs H Q E, spStrC c t d vs H Q E → vs.length = (["self"] : List Str).length := fun vs H Q E h => by
  obtain ⟨a, m, rfl, _⟩ := h
  rfl
theorem sc_bt_s : FnScope ["self"] ["self"] (defScope (sBtw 12)) := ⟨rfl, rfl, rfl, by decide +kernel, rfl, by decide +kernel, by decide +kernel⟩
theorem sc_nm_s : FnScope ["self"] ["self"] (defScope (sNam 10)) := ⟨rfl, rfl, rfl, by decide +kernel, rfl, by decide +kernel, by decide +kernel⟩
theorem sc_bo_s : FnScope ["self"] ["self"] (defScope (sBo 11)) := ⟨rfl, rfl, rfl, by decide +kernel, rfl, by decide +kernel, by decide +kernel⟩
theorem sc_ei_s : FnScope ["self"] ["self"] (defScope (sEi 11)) := ⟨rfl, rfl, rfl, by decide +kernel, rfl, by decide +kernel, by decide +kernel⟩
theorem sc_nt_s : FnScope ["self"] ["self"] (defScope (sNt 11)) := ⟨rfl, rfl, rfl, by decide +kernel, rfl, by decide +kernel, by decide +kernel⟩
theorem ok_btstr {d : Nat} {f : Addr} {fd : FuncData} (F : Fun K "__str__" "Between.__str__" (sBtw 12) f fd) (O : CsOk K D c) (n1 : NoAttr K c.bt "field_name") (n2 : NoAttr K c.bt "lowest") (n3 : NoAttr K c.bt "highest") :
    FnOk P w K mg base CX0 1 f fd ["self"] (spStrC c 0 d) := by
  refine F.ok sc_bt_s spStrC_len (fun cdv A' outer s H vs Q E hr h => ?_)
  obtain ⟨a, m, rfl, hm, ht, hd, h5, g, n8, q⟩ := h
  refine ⟨_, pss_one (ps_ret (pe_joined (.cons (pe_fmt (pe_fld (pv 0) rfl)) (.cons pe_str (.cons (pe_fmt (pe_fld (pv 0) rfl)) (.cons pe_str (.cons (pe_fmt (pe_fld (pv 0) rfl)) .nil))))))), ?_⟩
  cases m with
  | btw z lo hi =>
    obtain ⟨dx, ha⟩ := hm
    have h8 := g.1.2.2
    have i1 := int_text (i := lo) g.2.1 (by have := g.2.2.1; have := g.2.2.2; omega)
    have i2 := int_text (i := hi) (by have := g.2.1; have := g.2.2.1; omega) g.2.2.2
    have j1 := slog (i := lo) g.2.1 (by have := g.2.2.1; have := g.2.2.2; omega)
    have j2 := slog (i := hi) (by have := g.2.1; have := g.2.2.1; omega) g.2.2.2
    refine ⟨_, rfl, a, c.bt, dx, _, _, rfl, ha, O.bt.cl, n1, rfl, .inl ⟨z, rfl, small_size (by omega), _, rfl, ?_, _, rfl, ?_, _, rfl, a, c.bt, dx, _, _, rfl, ha, O.bt.cl, n2, rfl, .inr ⟨lo, rfl, j1, _, rfl, ?_, _, rfl, ?_, _, rfl, a, c.bt, dx, _, _, rfl, ha, O.bt.cl, n3, rfl, .inr ⟨hi, rfl, j2, _, rfl, ?_, q⟩⟩⟩⟩
    all_goals
      simp only [app_len]
      have e0 : Str.empty.length = 0 := rfl
      have e1 : ((".." : String) : Str).length = 2 := rfl
      have e2 : ((" " : String) : Str).length = 1 := rfl
      rw [sizeLine_eq]
      omega
  | _ => cases ht
theorem ok_nmstr {d : Nat} {f : Addr} {fd : FuncData} (F : Fun K "__str__" "Named.__str__" (sNam 10) f fd) (O : CsOk K D c) (n1 : NoAttr K c.nm "accepted_names") : FnOk P w K mg base CX0 1 f fd ["self"] (spStrC c 1 d) := by
  refine F.ok sc_nm_s spStrC_len (fun cdv A' outer s H vs Q E hr h => ?_)
  obtain ⟨a, m, rfl, hm, ht, hd, h5, g, n8, q⟩ := h
  refine ⟨_, pss_one (ps_ret (pe_joined (.cons pe_str (.cons (pe_fmt (pe_m1 PySem.F.slot_str_join PySem.F.type_str_join mt_join pe_str (pe_fld (pv 0) rfl))) (.cons pe_str .nil))))), ?_⟩
  cases m with
  | nam zs =>
    obtain ⟨t, dx, ha, hta⟩ := hm
    have n8' : zs.length ≤ 8 := n8
    have j := joinN_le zs g
    have j2 : (zs.map (·.length)).sum + zs.length * ((" " : String) : Str).length ≤ 100 := by
      have e1 : ((" " : String) : Str).length = 1 := rfl
      rw [e1]
      have : (zs.map (·.length)).sum ≤ zs.length * 8 := sum_le fun y hy => (g y hy).2.2
      omega
    refine ⟨_, rfl, by decide, ⟨_, rfl⟩, _, rfl, a, c.nm, dx, _, _, rfl, ha, O.nm.cl, n1, rfl, _, t, zs, rfl, rfl, .inr (.of hta), by omega, .inl ⟨_, rfl, small_size (by omega), _, rfl, ?_, _, rfl, ?_, q⟩⟩
    all_goals
      simp only [app_len]
      have e0 : Str.empty.length = 0 := rfl
      have e1 : (("[" : String) : Str).length = 1 := rfl
      have e2 : (("]" : String) : Str).length = 1 := rfl
      rw [sizeLine_eq]
      omega
  | _ => cases ht
theorem ok_bostr {k d : Nat} {f : Addr} {fd : FuncData} (A : StrAll P w K mg base c k d) (F : Fun K "__str__" "Both.__str__" (sBo 11) f fd) (O : CsOk K D c) (n1 : NoAttr K c.bo "first") (n2 : NoAttr K c.bo "second") :
    FnOk P w K mg base CX0 (k + 3) f fd ["self"] (spStrC c 3 (d + 1)) := by
  refine F.ok sc_bo_s spStrC_len (fun cdv A' outer s H vs Q E hr h => ?_)
  obtain ⟨a, m, rfl, hm, ht, hd, h5, g, n8, q⟩ := h
  refine ⟨_, pss_one (ps_ret (pe_joined (.cons pe_str (.cons (pe_fmtM (c := c) A hr (pe_fld (pv 0) rfl)) (.cons pe_str (.cons (pe_fmtM (c := c) A hr (pe_fld (pv 0) rfl)) (.cons pe_str .nil))))))), ?_⟩
  cases m with
  | both m1 m2 =>
    obtain ⟨p1, p2, dx, ha, h1, h2⟩ := hm
    have hd' : max m1.depth m2.depth + 1 ≤ d + 1 := hd
    have h5' : max m1.depth m2.depth + 1 ≤ 5 := h5
    have n8' : m1.names + m2.names ≤ 8 := n8
    have l1 := txt_len m1 g.1 (by omega)
    have l2 := txt_len m2 g.2 (by omega)
    have s1 := Md.size_31 (m := m1) (by omega)
    have s2 := Md.size_31 (m := m2) (by omega)
    refine ⟨_, rfl, by decide, _, rfl, a, c.bo, dx, _, _, rfl, ha, O.bo.cl, n1, rfl, p1, m1, rfl, h1, by omega, by omega, g.1, by omega, _, rfl, ?_, _, rfl, ?_, _, rfl, a, c.bo, dx, _, _, rfl, ha, O.bo.cl, n2, rfl, p2, m2, rfl, h2, by omega, by omega, g.2, by omega, _, rfl, ?_, _, rfl, ?_, q⟩
    all_goals
      simp only [app_len]
      have e0 : Str.empty.length = 0 := rfl
      have e1 : (("(" : String) : Str).length = 1 := rfl
      have e2 : ((")" : String) : Str).length = 1 := rfl
      have e3 : ((" and " : String) : Str).length = 5 := rfl
      rw [sizeLine_eq]
      omega
  | _ => cases ht
theorem ok_eistr {k d : Nat} {f : Addr} {fd : FuncData} (A : StrAll P w K mg base c k d) (F : Fun K "__str__" "Either.__str__" (sEi 11) f fd) (O : CsOk K D c) (n1 : NoAttr K c.ei "first") (n2 : NoAttr K c.ei "second") :
    FnOk P w K mg base CX0 (k + 3) f fd ["self"] (spStrC c 4 (d + 1)) := by
  refine F.ok sc_ei_s spStrC_len (fun cdv A' outer s H vs Q E hr h => ?_)
  obtain ⟨a, m, rfl, hm, ht, hd, h5, g, n8, q⟩ := h
  refine ⟨_, pss_one (ps_ret (pe_joined (.cons pe_str (.cons (pe_fmtM (c := c) A hr (pe_fld (pv 0) rfl)) (.cons pe_str (.cons (pe_fmtM (c := c) A hr (pe_fld (pv 0) rfl)) (.cons pe_str .nil))))))), ?_⟩
  cases m with
  | eith m1 m2 =>
    obtain ⟨p1, p2, dx, ha, h1, h2⟩ := hm
    have hd' : max m1.depth m2.depth + 1 ≤ d + 1 := hd
    have h5' : max m1.depth m2.depth + 1 ≤ 5 := h5
    have n8' : m1.names + m2.names ≤ 8 := n8
    have l1 := txt_len m1 g.1 (by omega)
    have l2 := txt_len m2 g.2 (by omega)
    have s1 := Md.size_31 (m := m1) (by omega)
    have s2 := Md.size_31 (m := m2) (by omega)
    refine ⟨_, rfl, by decide, _, rfl, a, c.ei, dx, _, _, rfl, ha, O.ei.cl, n1, rfl, p1, m1, rfl, h1, by omega, by omega, g.1, by omega, _, rfl, ?_, _, rfl, ?_, _, rfl, a, c.ei, dx, _, _, rfl, ha, O.ei.cl, n2, rfl, p2, m2, rfl, h2, by omega, by omega, g.2, by omega, _, rfl, ?_, _, rfl, ?_, q⟩
    all_goals
      simp only [app_len]
      have e0 : Str.empty.length = 0 := rfl
      have e1 : (("(" : String) : Str).length = 1 := rfl
      have e2 : ((")" : String) : Str).length = 1 := rfl
      have e3 : ((" or " : String) : Str).length = 4 := rfl
      rw [sizeLine_eq]
      omega
  | _ => cases ht
theorem ok_ntstr {k d : Nat} {f : Addr} {fd : FuncData} (A : StrAll P w K mg base c k d) (F : Fun K "__str__" "Not.__str__" (sNt 11) f fd) (O : CsOk K D c) (n1 : NoAttr K c.nt "inner") :
    FnOk P w K mg base CX0 (k + 3) f fd ["self"] (spStrC c 2 (d + 1)) := by
  refine F.ok sc_nt_s spStrC_len (fun cdv A' outer s H vs Q E hr h => ?_)
  obtain ⟨a, m, rfl, hm, ht, hd, h5, g, n8, q⟩ := h
  refine ⟨_, pss_one (ps_ret (pe_joined (.cons pe_str (.cons (pe_fmtM (c := c) A hr (pe_fld (pv 0) rfl)) .nil)))), ?_⟩
  cases m with
  | neg m1 =>
    obtain ⟨p1, dx, ha, h1⟩ := hm
    have hd' : m1.depth + 1 ≤ d + 1 := hd
    have h5' : m1.depth + 1 ≤ 5 := h5
    have n8' : m1.names ≤ 8 := n8
    have l1 := txt_len m1 g (by omega)
    have s1 := Md.size_31 (m := m1) (by omega)
    refine ⟨_, rfl, by decide, _, rfl, a, c.nt, dx, _, _, rfl, ha, O.nt.cl, n1, rfl, p1, m1, rfl, h1, by omega, by omega, g, by omega, _, rfl, ?_, q⟩
    all_goals
      simp only [app_len]
      have e0 : Str.empty.length = 0 := rfl
      have e1 : (("not " : String) : Str).length = 4 := rfl
      rw [sizeLine_eq]
      omega
  | _ => cases ht
def LeafStr (P : Program) (w : World) (K : PySem.W.Frag) (mg : Str → Option Value) (base : Heap) (c : Cs) (t : Nat) : Prop := ∃ (f : Addr) (fd : FuncData), StrK K (c.at t) f ∧ Binds K fd ["self"] [] ∧ ∀ d, FnOk P w K mg base CX0 1 f fd ["self"] (spStrC c t d)
def TreeStr (P : Program) (w : World) (K : PySem.W.Frag) (mg : Str → Option Value) (base : Heap) (c : Cs) (t : Nat) : Prop := ∃ (f : Addr) (fd : FuncData), StrK K (c.at t) f ∧ Binds K fd ["self"] [] ∧ ∀ k d, StrAll P w K mg base c k d → FnOk P w K mg base CX0 (k + 3) f fd ["self"] (spStrC c t (d + 1))
theorem str_none {t : Nat} : ∀ vs H Q E, spStrC c t 0 vs H Q E → False := fun vs H Q E h => by
  obtain ⟨a, m, _, _, _, hd, _⟩ := h
  have := m.depth_pos
  omega
theorem str_all (h0 : LeafStr P w K mg base c 0) (h1 : LeafStr P w K mg base c 1) (h2 : TreeStr P w K mg base c 2) (h3 : TreeStr P w K mg base c 3) (h4 : TreeStr P w K mg base c 4) : ∀ d, StrAll P w K mg base c (3 * d + 1) d
  | 0 => fun t ht => by
    obtain ⟨f0, fd0, m0, b0, e0⟩ := h0
    obtain ⟨f1, fd1, m1, b1, e1⟩ := h1
    obtain ⟨f2, fd2, m2, b2, _⟩ := h2
    obtain ⟨f3, fd3, m3, b3, _⟩ := h3
    obtain ⟨f4, fd4, m4, b4, _⟩ := h4
    match t, ht with
    | 0, _ => exact ⟨f0, fd0, m0, b0, e0 0⟩
    | 1, _ => exact ⟨f1, fd1, m1, b1, e1 0⟩
    | 2, _ => exact ⟨f2, fd2, m2, b2, fn_none str_none⟩
    | 3, _ => exact ⟨f3, fd3, m3, b3, fn_none str_none⟩
    | 4, _ => exact ⟨f4, fd4, m4, b4, fn_none str_none⟩
  | d + 1 => fun t ht => by
    have A := str_all h0 h1 h2 h3 h4 d
    obtain ⟨f0, fd0, m0, b0, e0⟩ := h0
    obtain ⟨f1, fd1, m1, b1, e1⟩ := h1
    obtain ⟨f2, fd2, m2, b2, e2⟩ := h2
    obtain ⟨f3, fd3, m3, b3, e3⟩ := h3
    obtain ⟨f4, fd4, m4, b4, e4⟩ := h4
    match t, ht with
    | 0, _ => exact ⟨f0, fd0, m0, b0, (e0 _).mono (by omega)⟩
    | 1, _ => exact ⟨f1, fd1, m1, b1, (e1 _).mono (by omega)⟩
    | 2, _ => exact ⟨f2, fd2, m2, b2, (e2 _ _ A).mono (by omega)⟩
    | 3, _ => exact ⟨f3, fd3, m3, b3, (e3 _ _ A).mono (by omega)⟩
    | 4, _ => exact ⟨f4, fd4, m4, b4, (e4 _ _ A).mono (by omega)⟩
end
end G
set_option Elab.async false
set_option linter.all false
set_option maxRecDepth 100000
set_option maxHeartbeats 4000000
/-! D4: the law's own looks at a model: leaves, depth, holds. -/
namespace G
open PySem PySem.Spec PyProof.Rows L2 NdefX StX
abbrev sLLeaves : Stmt := topS 55
abbrev sLDepth : Stmt := topS 56
theorem scLLeaves : FnScope ["_law_model_here", "_law_found", "_law_part"] ["_law_model_here"] (defScope sLLeaves) := ⟨rfl, rfl, rfl, by decide +kernel, rfl, by decide +kernel, by decide +kernel⟩
theorem scLDepth : FnScope ["_law_model_here", "_law_part"] ["_law_model_here"] (defScope sLDepth) := ⟨rfl, rfl, rfl, by decide +kernel, rfl, by decide +kernel, by decide +kernel⟩
namespace Md
def parts : Md → List Md
  | .neg m => [m]
  | .both a b => [a, b]
  | .eith a b => [a, b]
  | _ => []
def isLeaf : Md → Bool
  | .btw _ _ _ => true
  | .nam _ => true
  | _ => false
def leafs : Md → List Md
  | .btw z lo hi => [.btw z lo hi]
  | .nam zs => [.nam zs]
  | .neg m => m.leafs
  | .both a b => a.leafs ++ b.leafs
  | .eith a b => a.leafs ++ b.leafs
theorem leafs_len : ∀ m : Md, m.leafs.length = m.leaves
  | .btw _ _ _ => rfl
  | .nam _ => rfl
  | .neg m => leafs_len m
  | .both a b => by
    show (a.leafs ++ b.leafs).length = a.leaves + b.leaves
    rw [List.length_append, leafs_len a, leafs_len b]
  | .eith a b => by
    show (a.leafs ++ b.leafs).length = a.leaves + b.leaves
    rw [List.length_append, leafs_len a, leafs_len b]
theorem leafs_parts : ∀ {m : Md}, m.isLeaf = false → m.leafs = m.parts.flatMap leafs
  | .neg m, _ => by simp [leafs, parts]
  | .both a b, _ => by simp [leafs, parts]
  | .eith a b, _ => by simp [leafs, parts]
theorem part_less : ∀ {m p : Md}, p ∈ m.parts → p.depth < m.depth ∧ p.leaves ≤ m.leaves
  | .neg m, p, h => by
    obtain rfl := List.mem_singleton.mp h
    exact ⟨Nat.lt_succ_self _, Nat.le_refl _⟩
  | .both a b, p, h => by
    rcases List.mem_cons.mp h with rfl | h
    · exact ⟨Nat.lt_succ_of_le (Nat.le_max_left _ _), Nat.le_add_right _ _⟩
    · obtain rfl := List.mem_singleton.mp h
      exact ⟨Nat.lt_succ_of_le (Nat.le_max_right _ _), Nat.le_add_left _ _⟩
  | .eith a b, p, h => by
    rcases List.mem_cons.mp h with rfl | h
    · exact ⟨Nat.lt_succ_of_le (Nat.le_max_left _ _), Nat.le_add_right _ _⟩
    · obtain rfl := List.mem_singleton.mp h
      exact ⟨Nat.lt_succ_of_le (Nat.le_max_right _ _), Nat.le_add_left _ _⟩
theorem parts_two (m : Md) : m.parts.length ≤ 2 := by cases m <;> simp [parts]
end Md
def AllAt (H : Hp) : List Addr → List Md → Prop
  | [], [] => True
  | a :: as, m :: ms => MdAt H a m ∧ AllAt H as ms
  | _, _ => False
theorem AllAt.sk {H H' : Hp} (s : SK H H') : ∀ {as : List Addr} {ms : List Md}, AllAt H as ms → AllAt H' as ms
  | [], [], _ => trivial
  | _ :: _, _ :: _, h => ⟨h.1.sk s, AllAt.sk s h.2⟩
  | [], _ :: _, h => h.elim
  | _ :: _, [], h => h.elim
theorem AllAt.same {H H' : Hp} {as : List Addr} {ms : List Md} (h : AllAt H as ms) (s : Same H H') : AllAt H' as ms := h.sk (.of_same s)
theorem AllAt.len {H : Hp} : ∀ {as : List Addr} {ms : List Md}, AllAt H as ms → as.length = ms.length
  | [], [], _ => rfl
  | _ :: as, _ :: ms, h => by
    rw [List.length_cons, List.length_cons, AllAt.len h.2]
  | [], _ :: _, h => h.elim
  | _ :: _, [], h => h.elim
theorem AllAt.app {H : Hp} : ∀ {as bs : List Addr} {ms ns : List Md}, AllAt H as ms → AllAt H bs ns → AllAt H (as ++ bs) (ms ++ ns)
  | [], _, [], _, _, h => h
  | _ :: _, _, _ :: _, _, h, h2 => ⟨h.1, AllAt.app h.2 h2⟩
  | [], _, _ :: _, _, h, _ => h.elim
  | _ :: _, _, [], _, h, _ => h.elim
theorem AllAt.get {H : Hp} : ∀ {as : List Addr} {ms : List Md} {i : Nat} {a : Addr}, AllAt H as ms → as[i]? = some a → ∃ m, ms[i]? = some m ∧ MdAt H a m
  | a :: as, m :: ms, 0, _, h, e => by
    cases e
    exact ⟨m, rfl, h.1⟩
  | a :: as, m :: ms, i + 1, _, h, e => AllAt.get (as := as) (ms := ms) (i := i) h.2 e
  | [], [], _, _, _, e => by cases e
  | [], _ :: _, _, _, h, _ => h.elim
  | _ :: _, [], _, _, h, _ => h.elim
/-- a model that is no leaf, as its word and its parts -/
theorem MdAt.split {H : Hp} : ∀ {m : Md} {t : Addr}, MdAt H t m → m.isLeaf = false → ∃ (w : Str) (us : List Addr), H t = some (.tup (.str w :: us.map V.ref)) ∧ AllAt H us m.parts ∧
    decide (V.str w = V.str ("between" : Str)) = false ∧ decide (V.str w = V.str ("named" : Str)) = false ∧ inV (.str w) [.str "between", .str "named"] = false
  | .neg m, t, ⟨u, e, h⟩, _ => ⟨"not", [u], e, ⟨h, trivial⟩, nt_bt, nt_nm, by decide +kernel⟩
  | .both a b, t, ⟨u, v, e, h1, h2⟩, _ => ⟨"both", [u, v], e, ⟨h1, h2, trivial⟩, bo_bt, bo_nm, by decide +kernel⟩
  | .eith a b, t, ⟨u, v, e, h1, h2⟩, _ => ⟨"either", [u, v], e, ⟨h1, h2, trivial⟩, ei_bt, ei_nm, by decide +kernel⟩
  | .btw _ _ _, _, _, h => by cases h
  | .nam _, _, _, h => by cases h
theorem MdAt.leaf {H : Hp} : ∀ {m : Md} {t : Addr}, MdAt H t m → m.isLeaf = true → ∃ (w : Str) (r : List V), H t = some (.tup (.str w :: r)) ∧ inV (.str w) [.str "between", .str "named"] = true
  | .btw _ _ _, t, e, _ => ⟨"between", _, e, by decide +kernel⟩
  | .nam _, t, e, _ => ⟨"named", _, e, by decide +kernel⟩
  | .neg _, _, _, h => by cases h
  | .both _ _, _, _, h => by cases h
  | .eith _ _, _, _, h => by cases h
def spLLeaves (d : Nat) : Sp := fun vs H Q _ => ∃ (t : Addr) (m : Md), vs = [.ref t] ∧ MdAt H t m ∧ m.depth ≤ d ∧ m.leaves ≤ 6 ∧ ∀ (p : Addr) (as : List Addr) (H' : Hp), H p = none → H' p = some (.lst (as.map V.ref)) → AllAt H' as m.leafs → Same H H' → Q (.ref p) H'
def spLDepth (d : Nat) : Sp := fun vs H Q _ => ∃ (t : Addr) (m : Md), vs = [.ref t] ∧ MdAt H t m ∧ m.depth ≤ d ∧ ∀ H', Same H H' → Q (.int (m.depth : Nat)) H'
section
variable {P : Program} {w : World} {K : PySem.W.Frag} {mg : Str → Option Value} {base : Heap}
theorem ok_lleaves {f : Addr} {fd : FuncData} (F : Fun K "_law_leaves" "_law_leaves" sLLeaves f fd) (bF : Binds K fd ["_law_model_here"] []) (gF : mg "_law_leaves" = some (.ref f)) : ∀ d, FnOk P w K mg base CX0 (d + 1) f fd ["_law_model_here"] (spLLeaves d)
  | 0 => fn_none fun vs H Q E h => by
    obtain ⟨t, m, _, _, h0, _⟩ := h
    have := m.depth_pos
    omega
  | d + 1 => by
    have GR := ok_lleaves F bF gF d
    refine F.ok scLLeaves (fun vs H Q E h => ?_) (fun cdv A outer s H vs Q E hr h => ?_)
    · obtain ⟨t, m, rfl, _⟩ := h
      rfl
    · obtain ⟨t, m, rfl, hm, hd, h6, q⟩ := h
      refine ⟨_, pss_cons (ps_if (pt_cmpR op_in_seq (pe_ix ix_tup (pv 0) pe_int (fun _ _ => rfl)) (pe_tup (pa_cons pe_str (pa_cons pe_str pa_nil))) (by rfl)) (pss_one (ps_ret (pe_lst (pa_cons (pv 0) pa_nil)))) pss_nil)
        (pss_cons (ps_set (i := 1) scLLeaves.nd rfl (.inl rfl) (pe_lst pa_nil))
        (pss_cons (ps_for PassesOwn.never rfl (pi_tup (pe_slice sl_tup (pv 0) (po_some pe_int) po_none)) (pg_name (i := 2) scLLeaves.nd rfl (.inl rfl))
          (pss_one (ps_expr (pe_bm PySem.F.plainAttrs_list PySem.F.slot_list_extend PySem.F.type_list_extend mt_extend (pv 1) (pa_cons (pe_call GR hr rfl gF F.kp bF .nil pass0 (pa_cons (pv 2) pa_nil)) pa_nil)))))
        (pss_one (ps_ret (pv 1))))), ?_⟩
      cases hl : m.isLeaf with
      | true =>
        obtain ⟨x, r, e, hin⟩ := hm.leaf hl
        refine ⟨_, rfl, t, _, ((0 : Nat) : Int), .str x, rfl, rfl, .of e, atI_nat (j := 0) rfl, (by show 2 ≤ sizeLine; decide), fun p hp => ⟨p, _, rfl, .inr (.of upd_same), rfl, rfl, _, rfl, ifY hin ?_⟩⟩
        refine ⟨_, rfl, (by show 1 ≤ sizeLine; decide), fun u hu => ?_⟩
        have s1 := Same.new (o := .tup [.str "between", .str "named"]) hp
        have s2 := s1.trans (Same.new (o := .lst [.ref t]) hu)
        have el : m.leafs = [m] := by
          cases m with
          | btw z lo hi => rfl
          | nam zs => rfl
          | _ => cases hl
        exact q u [t] _ (s1.free hu) upd_same (by rw [el]; exact ⟨hm.same s2, trivial⟩) s2
      | false =>
        obtain ⟨x, us, e, ha, _, _, hin⟩ := hm.split hl
        refine ⟨_, rfl, t, _, ((0 : Nat) : Int), .str x, rfl, rfl, .of e, atI_nat (j := 0) rfl, (by show 2 ≤ sizeLine; decide), fun p hp => ⟨p, _, rfl, .inr (.of upd_same), rfl, rfl, _, rfl, ifN hin ?_⟩⟩
        have s1 := Same.new (o := .tup [.str "between", .str "named"]) hp
        refine ⟨(by show 0 ≤ sizeLine; decide), fun l hl0 => ?_⟩
        have s2 := s1.trans (Same.new (o := .lst []) hl0)
        have fl : H l = none := s1.free hl0
        refine ⟨_, rfl, _, rfl, t, _, rfl, .of (s2 _ _ e), not_whole _ _, fun u hu => ?_⟩
        rw [cut_tail]
        have s3 := s2.trans (Same.new (o := .tup (us.map V.ref)) hu)
        have nul : u ≠ l := fun z => by
          rw [z, upd_same] at hu
          cases hu
        have lu : (upd (upd (upd H p (.tup [.str "between", .str "named"])) l (.lst [])) u (.tup (us.map V.ref))) l = some (.lst []) := (upd_ne nul.symm).trans upd_same
        have hlen : us.length = m.parts.length := ha.len
        refine ⟨u, rfl, ⟨_, .of upd_same⟩, ?_⟩
        have tot : (m.parts.flatMap Md.leafs).length ≤ 6 := by
          rw [← Md.leafs_parts hl, Md.leafs_len]
          exact h6
        refine for_tup (xs := us.map V.ref) (fun i σ H2 => Same H H2 ∧ H2 u = some (.tup (us.map V.ref)) ∧ (∃ as : List Addr, H2 l = some (.lst (as.map V.ref)) ∧ AllAt H2 as ((m.parts.take i).flatMap Md.leafs)) ∧ ∃ x2 : Option V, σ = [some (.ref t), some (.ref l), x2]) ?_ ?_ ?_ ?_
        · exact ⟨s3, upd_same, ⟨[], lu, trivial⟩, none, rfl⟩
        · rintro i σ H2 _ ⟨_, eu, _⟩
          exact .of eu
        · rintro i x σ H2 hx ⟨s4, eu, ⟨as, el, al⟩, x2, rfl⟩
          rw [List.getElem?_map] at hx
          obtain ⟨a, hai, rfl⟩ := Option.map_eq_some_iff.mp hx
          obtain ⟨m1, hmi, hm1⟩ := (ha.same s4).get hai
          obtain ⟨ld, ll⟩ := Md.part_less (List.mem_of_getElem? hmi)
          refine ⟨_, rfl, .inl ⟨rfl, _, .of el⟩, _, rfl, a, m1, rfl, hm1, by omega, by omega, fun p2 as2 H3 fp2 ep2 al2 s5 => ?_⟩
          have el3 := s5 _ _ el
          have step : (m.parts.take (i + 1)).flatMap Md.leafs = (m.parts.take i).flatMap Md.leafs ++ m1.leafs := by
            rw [List.take_add_one, hmi, List.flatMap_append]
            simp
          have few : (as ++ as2).length ≤ 6 := by
            have h1 := (al.same s5).app al2
            rw [← step] at h1
            rw [h1.len]
            have h2 : ((m.parts.take (i + 1)).flatMap Md.leafs).length ≤ (m.parts.flatMap Md.leafs).length := by
              have e2 : m.parts.flatMap Md.leafs = (m.parts.take (i + 1)).flatMap Md.leafs ++ (m.parts.drop (i + 1)).flatMap Md.leafs := by
                rw [← List.flatMap_append, List.take_append_drop]
              rw [e2, List.length_append]
              omega
            omega
          refine ⟨l, p2, _, _, rfl, rfl, el3, ep2, ?_, ?_⟩
          · rw [List.length_append] at few
            rw [List.length_map, List.length_map]
            exact small_size (by omega)
          · have sf : ∀ o, SK H3 (upd H3 l o) := fun o c v ec hv => by
              refine (upd_ne fun z => ?_).trans ec
              rw [z, el3] at ec
              rw [← Option.some.inj ec] at hv
              cases hv
            refine ⟨fun c o ec => ?_, ?_, ⟨as ++ as2, ?_, ?_⟩, _, rfl⟩
            · exact (upd_ne (ne_of_none ec fl)).trans (s5 _ _ (s4 _ _ ec))
            · exact (upd_ne nul).trans (s5 _ _ eu)
            · rw [upd_same, List.map_append]
            · rw [step]
              exact ((al.same s5).app al2).sk (sf _)
        · rintro σ H2 ⟨s4, eu, ⟨as, el, al⟩, x2, rfl⟩
          rw [List.length_map, hlen, List.take_length, ← Md.leafs_parts hl] at al
          exact ⟨_, rfl, q l as H2 fl el al s4⟩
end
end G
set_option Elab.async false
set_option linter.all false
set_option maxRecDepth 100000
set_option maxHeartbeats 4000000
/-! D5: the law's depth and holds. -/
namespace G
open PySem PySem.Spec PyProof.Rows L2 NdefX StX
theorem depth_parts {m : Md} {k : Int} (hl : m.isLeaf = false) (h1 : k ∈ m.parts.map fun p => ((p.depth : Nat) : Int)) (h2 : ∀ y, y ∈ (m.parts.map fun p => ((p.depth : Nat) : Int)) → y ≤ k) : 1 + k = ((m.depth : Nat) : Int) := by
  have two : ∀ a b : Md, k ∈ [((a.depth : Nat) : Int), ((b.depth : Nat) : Int)] → (∀ y, y ∈ [((a.depth : Nat) : Int), ((b.depth : Nat) : Int)] → y ≤ k) → 1 + k = ((max a.depth b.depth + 1 : Nat) : Int) := fun a b h1 h2 => by
    have ha := h2 _ List.mem_cons_self
    have hb := h2 _ (List.mem_cons_of_mem _ List.mem_cons_self)
    rcases List.mem_cons.mp h1 with rfl | h1
    · omega
    · have := List.mem_singleton.mp h1
      omega
  cases m with
  | neg a =>
    have e : k = ((a.depth : Nat) : Int) := List.mem_singleton.mp h1
    show 1 + k = ((a.depth + 1 : Nat) : Int)
    omega
  | both a b => exact two a b h1 h2
  | eith a b => exact two a b h1 h2
  | _ => cases hl
section
variable {P : Program} {w : World} {K : PySem.W.Frag} {mg : Str → Option Value} {base : Heap}
theorem ok_ldepth {f : Addr} {fd : FuncData} (F : Fun K "_law_depth" "_law_depth" sLDepth f fd) (bF : Binds K fd ["_law_model_here"] []) (gF : mg "_law_depth" = some (.ref f)) (mm : mg "max" = none) : ∀ d, FnOk P w K mg base CX0 (d + 1) f fd ["_law_model_here"] (spLDepth d)
  | 0 => fn_none fun vs H Q E h => by
    obtain ⟨t, m, _, _, h0, _⟩ := h
    have := m.depth_pos
    omega
  | d + 1 => by
    have GR := ok_ldepth F bF gF mm d
    refine F.ok scLDepth (fun vs H Q E h => ?_) (fun cdv A outer s H vs Q E hr h => ?_)
    · obtain ⟨t, m, rfl, _⟩ := h
      rfl
    · obtain ⟨t, m, rfl, hm, hd, q⟩ := h
      refine ⟨_, pss_cons (ps_if (pt_cmpR op_in_seq (pe_ix ix_tup (pv 0) pe_int (fun _ _ => rfl)) (pe_tup (pa_cons pe_str (pa_cons pe_str pa_nil))) (by rfl)) (pss_one (ps_ret pe_int)) pss_nil)
        (pss_one (ps_ret (pe_op op_add pe_int (pe_callB (cr_max rfl) (by rfl) mm (by decide +kernel) (pa_cons (pe_lc (own := [("_law_part", 1)]) (g := gName 1) (tt := tYes) (by rfl) scLDepth.nd (pi_tup (pe_slice sl_tup (pv 0) (po_some pe_int) po_none))
          (blkOk_by (own := [("_law_part", 1)]) (N := ["_law_model_here", "_law_part"]) (sc := defScope sLDepth) (by decide +kernel)) (fun _ _ _ _ _ => pg_name (i := 1) scLDepth.nd rfl (.inl rfl)) (fun _ _ _ _ _ => pts_nil)
          (fun _ _ _ _ _ => pe_call GR hr rfl gF F.kp bF .nil pass0 (pa_cons (pv 1) pa_nil))) pa_nil))))), ?_⟩
      cases hl : m.isLeaf with
      | true =>
        obtain ⟨x, r, e, hin⟩ := hm.leaf hl
        refine ⟨_, rfl, t, _, ((0 : Nat) : Int), .str x, rfl, rfl, .of e, atI_nat (j := 0) rfl, (by show 2 ≤ sizeLine; decide), fun p hp => ⟨p, _, rfl, .inr (.of upd_same), rfl, rfl, _, rfl, ifY hin ?_⟩⟩
        have el : m.depth = 1 := by
          cases m with
          | btw z lo hi => rfl
          | nam zs => rfl
          | _ => cases hl
        rw [el] at q
        exact q _ (Same.new hp)
      | false =>
        obtain ⟨x, us, e, ha, _, _, hin⟩ := hm.split hl
        refine ⟨_, rfl, t, _, ((0 : Nat) : Int), .str x, rfl, rfl, .of e, atI_nat (j := 0) rfl, (by show 2 ≤ sizeLine; decide), fun p hp => ⟨p, _, rfl, .inr (.of upd_same), rfl, rfl, _, rfl, ifN hin ?_⟩⟩
        have s1 := Same.new (o := .tup [.str "between", .str "named"]) hp
        refine ⟨_, rfl, _, rfl, t, _, rfl, .of (s1 _ _ e), not_whole _ _, fun u hu => ?_⟩
        rw [cut_tail]
        have s2 := s1.trans (Same.new (o := .tup (us.map V.ref)) hu)
        have eu0 : (upd (upd H p (.tup [.str "between", .str "named"])) u (.tup (us.map V.ref))) u = some (.tup (us.map V.ref)) := upd_same
        generalize upd (upd H p (.tup [.str "between", .str "named"])) u (.tup (us.map V.ref)) = H1 at s2 eu0 ⊢
        refine ⟨u, rfl, ⟨_, .of eu0⟩, fun D hD => ?_⟩
        have fD : H D = none := s2.free hD
        have nuD : u ≠ D := ne_of_none eu0 hD
        have hlen : us.length = m.parts.length := ha.len
        have two := m.parts_two
        refine lc_tup (xs := us.map V.ref) (fun i H2 => Same H H2 ∧ H2 u = some (.tup (us.map V.ref)) ∧ H2 D = some (.lst (((m.parts.take i).map fun p => ((p.depth : Nat) : Int)).map V.int))) ?_ ?_ ?_ ?_
        · exact ⟨s2.trans (Same.new hD), (upd_ne nuD).trans eu0, upd_same⟩
        · rintro i H2 _ ⟨_, eu, _⟩
          exact .of eu
        · rintro i x H2 hx ⟨s4, eu, eD⟩
          rw [List.getElem?_map] at hx
          obtain ⟨a, hai, rfl⟩ := Option.map_eq_some_iff.mp hx
          obtain ⟨m1, hmi, hm1⟩ := (ha.same s4).get hai
          obtain ⟨ld, _⟩ := Md.part_less (List.mem_of_getElem? hmi)
          refine ⟨rfl, ?_⟩
          unfold tYes
          dsimp only
          rw [if_pos rfl]
          refine ⟨_, rfl, a, m1, rfl, hm1, by omega, fun H3 s5 => ⟨_, s5 _ _ eD, ?_, ?_⟩⟩
          · rw [List.length_map, List.length_map, List.length_take]
            exact small1000 (by omega)
          · refine ⟨fun c o ec => (upd_ne (ne_of_none ec fD)).trans (s5 _ _ (s4 _ _ ec)), (upd_ne nuD).trans (s5 _ _ eu), ?_⟩
            rw [upd_same, List.take_add_one, hmi]
            simp
        · rintro H2 ⟨s4, eu, eD⟩
          rw [List.length_map, hlen, List.take_length] at eD
          refine ⟨D, _, rfl, .inl (.inl eD), ?_, fun k hk hle => ⟨_, _, rfl, rfl, ?_⟩⟩
          · cases m with
            | neg a => exact (by simp [Md.parts])
            | both a b => exact (by simp [Md.parts])
            | eith a b => exact (by simp [Md.parts])
            | _ => cases hl
          · have z := q H2 s4
            rw [← depth_parts hl hk hle] at z
            exact z
end
end G
set_option Elab.async false
set_option linter.all false
set_option maxRecDepth 100000
set_option maxHeartbeats 4000000
/-! D6: one name for each leaf; a model within its names. -/
namespace G
open PySem PySem.Spec PyProof.Rows L2 NdefX StX
abbrev sCapped : Stmt := topS 59
abbrev sOneName : Stmt := topS 60
theorem scCapped : FnScope ["_law_model_here", "_law_leaf_here"] ["_law_model_here"] (defScope sCapped) := ⟨rfl, rfl, rfl, by decide +kernel, rfl, by decide +kernel, by decide +kernel⟩
theorem scOneName : FnScope ["_law_model_here", "_law_part"] ["_law_model_here"] (defScope sOneName) := ⟨rfl, rfl, rfl, by decide +kernel, rfl, by decide +kernel, by decide +kernel⟩
namespace Md
def one : Md → Md
  | .btw z lo hi => .btw z lo hi
  | .nam zs => .nam (zs.take 1)
  | .neg m => .neg m.one
  | .both a b => .both a.one b.one
  | .eith a b => .eith a.one b.one
theorem one_depth : ∀ m : Md, m.one.depth = m.depth
  | .btw _ _ _ => rfl
  | .nam _ => rfl
  | .neg m => by
    show m.one.depth + 1 = m.depth + 1
    rw [one_depth m]
  | .both a b => by
    show max a.one.depth b.one.depth + 1 = max a.depth b.depth + 1
    rw [one_depth a, one_depth b]
  | .eith a b => by
    show max a.one.depth b.one.depth + 1 = max a.depth b.depth + 1
    rw [one_depth a, one_depth b]
theorem one_leaves : ∀ m : Md, m.one.leaves = m.leaves
  | .btw _ _ _ => rfl
  | .nam _ => rfl
  | .neg m => one_leaves m
  | .both a b => by
    show a.one.leaves + b.one.leaves = a.leaves + b.leaves
    rw [one_leaves a, one_leaves b]
  | .eith a b => by
    show a.one.leaves + b.one.leaves = a.leaves + b.leaves
    rw [one_leaves a, one_leaves b]
theorem one_names : ∀ m : Md, m.one.names ≤ m.leaves
  | .btw _ _ _ => Nat.zero_le _
  | .nam zs => by
    show (zs.take 1).length ≤ 1
    rw [List.length_take]
    omega
  | .neg m => one_names m
  | .both a b => Nat.add_le_add (one_names a) (one_names b)
  | .eith a b => Nat.add_le_add (one_names a) (one_names b)
theorem one_good : ∀ {m : Md}, m.good → m.one.good
  | .btw _ _ _, h => h
  | .nam zs, h => fun z hz => h z (List.mem_of_mem_take hz)
  | .neg m, h => one_good (m := m) h
  | .both a b, h => ⟨one_good h.1, one_good h.2⟩
  | .eith a b, h => ⟨one_good h.1, one_good h.2⟩
def word : Md → Str
  | .btw _ _ _ => "between"
  | .nam _ => "named"
  | .neg _ => "not"
  | .both _ _ => "both"
  | .eith _ _ => "either"
def cnt : Md → Option Int
  | .nam zs => some (zs.length : Int)
  | _ => none
theorem cnt_sum : ∀ m : Md, (m.leafs.filterMap cnt).sum = (m.names : Int)
  | .btw _ _ _ => rfl
  | .nam zs => by
    show ((zs.length : Int) + 0) = (zs.length : Int)
    omega
  | .neg m => cnt_sum m
  | .both a b => by
    show ((a.leafs ++ b.leafs).filterMap cnt).sum = ((a.names + b.names : Nat) : Int)
    rw [List.filterMap_append, List.sum_append, cnt_sum a, cnt_sum b]
    omega
  | .eith a b => by
    show ((a.leafs ++ b.leafs).filterMap cnt).sum = ((a.names + b.names : Nat) : Int)
    rw [List.filterMap_append, List.sum_append, cnt_sum a, cnt_sum b]
    omega
theorem leafs_leaf : ∀ {m l : Md}, l ∈ m.leafs → l.isLeaf = true
  | .btw _ _ _, l, h => by
    rw [List.mem_singleton.mp h]
    rfl
  | .nam _, l, h => by
    rw [List.mem_singleton.mp h]
    rfl
  | .neg m, l, h => leafs_leaf (m := m) h
  | .both a b, l, h => (List.mem_append.mp h).elim (leafs_leaf (m := a)) (leafs_leaf (m := b))
  | .eith a b, l, h => (List.mem_append.mp h).elim (leafs_leaf (m := a)) (leafs_leaf (m := b))
theorem leafs_few : ∀ {m : Md}, m.good → ∀ l ∈ m.leafs, l.good
  | .btw _ _ _, h, l, hl => by
    rw [List.mem_singleton.mp hl]
    exact h
  | .nam _, h, l, hl => by
    rw [List.mem_singleton.mp hl]
    exact h
  | .neg m, h, l, hl => leafs_few (m := m) h l hl
  | .both a b, h, l, hl => (List.mem_append.mp hl).elim (leafs_few (m := a) h.1 l) (leafs_few (m := b) h.2 l)
  | .eith a b, h, l, hl => (List.mem_append.mp hl).elim (leafs_few (m := a) h.1 l) (leafs_few (m := b) h.2 l)
end Md
theorem nt_in : inV (.str ("not" : Str)) [.str "between", .str "named"] = false := by decide +kernel
theorem bo_in : inV (.str ("both" : Str)) [.str "between", .str "named"] = false := by decide +kernel
theorem ei_in : inV (.str ("either" : Str)) [.str "between", .str "named"] = false := by decide +kernel
theorem MdAt.splitW {H : Hp} : ∀ {m : Md} {t : Addr}, MdAt H t m → m.isLeaf = false → ∃ us : List Addr, H t = some (.tup (.str m.word :: us.map V.ref)) ∧ AllAt H us m.parts ∧ inV (.str m.word) [.str "between", .str "named"] = false
  | .neg m, t, ⟨u, e, h⟩, _ => ⟨[u], e, ⟨h, trivial⟩, nt_in⟩
  | .both a b, t, ⟨u, v, e, h1, h2⟩, _ => ⟨[u, v], e, ⟨h1, h2, trivial⟩, bo_in⟩
  | .eith a b, t, ⟨u, v, e, h1, h2⟩, _ => ⟨[u, v], e, ⟨h1, h2, trivial⟩, ei_in⟩
  | .btw _ _ _, _, _, h => by cases h
  | .nam _, _, _, h => by cases h
theorem one_at {H : Hp} : ∀ {m : Md} {z : Addr} {as : List Addr}, m.isLeaf = false → H z = some (.tup (.str m.word :: as.map V.ref)) → AllAt H as (m.parts.map Md.one) → MdAt H z m.one
  | .neg m, z, [a], _, e, h => ⟨a, e, h.1⟩
  | .both m n, z, [a, b], _, e, h => ⟨a, b, e, h.1, h.2.1⟩
  | .eith m n, z, [a, b], _, e, h => ⟨a, b, e, h.1, h.2.1⟩
  | .neg m, z, [], _, e, h => h.elim
  | .neg m, z, _ :: _ :: _, _, e, h => h.2.elim
  | .both m n, z, [], _, e, h => h.elim
  | .both m n, z, [_], _, e, h => h.2.elim
  | .both m n, z, _ :: _ :: _ :: _, _, e, h => h.2.2.elim
  | .eith m n, z, [], _, e, h => h.elim
  | .eith m n, z, [_], _, e, h => h.2.elim
  | .eith m n, z, _ :: _ :: _ :: _, _, e, h => h.2.2.elim
  | .btw _ _ _, _, _, h, _, _ => by cases h
  | .nam _, _, _, h, _, _ => by cases h
def spOne (d : Nat) : Sp := fun vs H Q _ => ∃ (t : Addr) (m : Md), vs = [.ref t] ∧ MdAt H t m ∧ m.depth ≤ d ∧ ∀ t' H', MdAt H' t' m.one → Same H H' → Q (.ref t') H'
def spCapped : Sp := fun vs H Q _ => ∃ (t : Addr) (m : Md), vs = [.ref t] ∧ MdAt H t m ∧ m.good ∧ m.leaves ≤ 6 ∧ m.depth ≤ 5 ∧ m.names ≤ 100 ∧ ∀ t' m' H', MdAt H' t' m' → m'.good → m'.leaves = m.leaves → m'.depth = m.depth → m'.names ≤ 8 → Same H H' → Q (.ref t') H'
section
variable {P : Program} {w : World} {K : PySem.W.Frag} {mg : Str → Option Value} {base : Heap}
theorem ok_onename {f : Addr} {fd : FuncData} (F : Fun K "_law_one_name" "_law_one_name" sOneName f fd) (bF : Binds K fd ["_law_model_here"] []) (gF : mg "_law_one_name" = some (.ref f)) (mT : mg "tuple" = none) : ∀ d, FnOk P w K mg base CX0 (d + 1) f fd ["_law_model_here"] (spOne d)
  | 0 => fn_none fun vs H Q E h => by
    obtain ⟨t, m, _, _, h0, _⟩ := h
    have := m.depth_pos
    omega
  | d + 1 => by
    have GR := ok_onename F bF gF mT d
    refine F.ok scOneName (fun vs H Q E h => ?_) (fun cdv A outer s H vs Q E hr h => ?_)
    · obtain ⟨t, m, rfl, _⟩ := h
      rfl
    · obtain ⟨t, m, rfl, hm, hd, q⟩ := h
      refine ⟨_, pss_cons (ps_if (pt_cmpR op_in_seq (pe_ix ix_tup (pv 0) pe_int (fun _ _ => rfl)) (pe_tup (pa_cons pe_str (pa_cons pe_str pa_nil))) (by rfl))
          (pss_one (ps_ret (pe_ifExp (pt_cmpR op_eq (pe_ix ix_tup (pv 0) pe_int (fun _ _ => rfl)) pe_str (nomark _)) (pv 0) (pe_slice sl_tupA (pv 0) po_none (po_some pe_int))))) pss_nil)
        (pss_one (ps_ret (pe_op op_catT (pe_tup (pa_cons (pe_ix ix_tup (pv 0) pe_int (fun _ _ => rfl)) pa_nil)) (pe_callTy call_tuple_of (by rfl) mT (by decide +kernel) (pa_cons (pe_lc (own := [("_law_part", 1)]) (g := gName 1) (tt := tYes) (by rfl) scOneName.nd (pi_tup (pe_slice sl_tup (pv 0) (po_some pe_int) po_none))
          (blkOk_by (own := [("_law_part", 1)]) (N := ["_law_model_here", "_law_part"]) (sc := defScope sOneName) (by decide +kernel)) (fun _ _ _ _ _ => pg_name (i := 1) scOneName.nd rfl (.inl rfl)) (fun _ _ _ _ _ => pts_nil)
          (fun _ _ _ _ _ => pe_call GR hr rfl gF F.kp bF .nil pass0 (pa_cons (pv 1) pa_nil))) pa_nil))))), ?_⟩
      cases hl : m.isLeaf with
      | true =>
        cases m with
        | btw z lo hi =>
          have e : H t = some (.tup [.str "between", .str z, .int lo, .int hi]) := hm
          refine ⟨_, rfl, t, _, 0, _, rfl, rfl, .of e, rfl, (by show 2 ≤ sizeLine; decide), fun p hp => ⟨p, _, rfl, .inr (.of upd_same), rfl, rfl, _, rfl, ifY (by decide +kernel) ?_⟩⟩
          have s1 := Same.new (o := .tup [.str "between", .str "named"]) hp
          exact ⟨_, rfl, t, _, 0, _, rfl, rfl, .of (s1 _ _ e), rfl, rfl, _, rfl, ifY (self_eq _) ⟨_, rfl, q t _ (s1 _ _ e) s1⟩⟩
        | nam zs =>
          have e : H t = some (.tup (.str "named" :: zs.map V.str)) := hm
          refine ⟨_, rfl, t, _, ((0 : Nat) : Int), .str "named", rfl, rfl, .of e, atI_nat (j := 0) rfl, (by show 2 ≤ sizeLine; decide), fun p hp => ⟨p, _, rfl, .inr (.of upd_same), rfl, rfl, _, rfl, ifY (by decide +kernel) ?_⟩⟩
          have s1 := Same.new (o := .tup [.str "between", .str "named"]) hp
          refine ⟨_, rfl, t, _, ((0 : Nat) : Int), .str "named", rfl, rfl, .of (s1 _ _ e), atI_nat (j := 0) rfl, rfl, _, rfl, ifN nm_bt ?_⟩
          have l1 : (V.str "named" :: zs.map V.str).length = zs.length + 1 := by rw [List.length_cons, List.length_map]
          refine ⟨_, rfl, _, rfl, t, _, rfl, .of (s1 _ _ e), fun hw => ?_, fun hw x hx => ?_⟩
          · have h2 := hw.2
            rw [show ((2 : Int)) = ((2 : Nat) : Int) from rfl, HT.sIx_nat, l1] at h2
            have ez : zs.take 1 = zs := List.take_of_length_le (by omega)
            refine q t _ ?_ s1
            show (upd H p (.tup [.str "between", .str "named"])) t = some (.tup (.str "named" :: (zs.take 1).map V.str))
            rw [ez]
            exact s1 _ _ e
          · have h2 : 2 ≤ (V.str "named" :: zs.map V.str).length := by
              rw [l1]
              rcases Nat.lt_or_ge zs.length 1 with h | h
              · refine absurd ⟨?_, ?_⟩ hw
                · rw [HT.sIx_none]
                · rw [show ((2 : Int)) = ((2 : Nat) : Int) from rfl, HT.sIx_nat, l1]
                  omega
              · omega
            rw [show ((2 : Int)) = ((2 : Nat) : Int) from rfl, cutV_first _ 2 h2]
            refine q x _ ?_ (s1.trans (Same.new hx))
            show (upd _ x _) x = some (.tup (.str "named" :: (zs.take 1).map V.str))
            rw [upd_same, List.map_take]
            rfl
        | _ => cases hl
      | false =>
        obtain ⟨us, e, ha, hin⟩ := hm.splitW hl
        refine ⟨_, rfl, t, _, ((0 : Nat) : Int), .str m.word, rfl, rfl, .of e, atI_nat (j := 0) rfl, (by show 2 ≤ sizeLine; decide), fun p hp => ⟨p, _, rfl, .inr (.of upd_same), rfl, rfl, _, rfl, ifN hin ?_⟩⟩
        have s1 := Same.new (o := .tup [.str "between", .str "named"]) hp
        refine ⟨_, rfl, t, _, ((0 : Nat) : Int), .str m.word, rfl, rfl, .of (s1 _ _ e), atI_nat (j := 0) rfl, (by show 1 ≤ sizeLine; decide), fun h0 hh0 => ?_⟩
        have s2 := s1.trans (Same.new (o := .tup [.str m.word]) hh0)
        refine ⟨_, rfl, _, rfl, t, _, rfl, .of (s2 _ _ e), not_whole _ _, fun u hu => ?_⟩
        rw [cut_tail]
        have s3 := s2.trans (Same.new (o := .tup (us.map V.ref)) hu)
        have eh0 : (upd (upd (upd H p (.tup [.str "between", .str "named"])) h0 (.tup [.str m.word])) u (.tup (us.map V.ref))) h0 = some (.tup [.str m.word]) := Same.new hu _ _ upd_same
        have eu0 : (upd (upd (upd H p (.tup [.str "between", .str "named"])) h0 (.tup [.str m.word])) u (.tup (us.map V.ref))) u = some (.tup (us.map V.ref)) := upd_same
        generalize upd (upd (upd H p (.tup [.str "between", .str "named"])) h0 (.tup [.str m.word])) u (.tup (us.map V.ref)) = H1 at s3 eu0 eh0 ⊢
        refine ⟨u, rfl, ⟨_, .of eu0⟩, fun D hD => ?_⟩
        have fD : H D = none := s3.free hD
        have nuD : u ≠ D := ne_of_none eu0 hD
        have nhD : h0 ≠ D := ne_of_none eh0 hD
        have hlen : us.length = m.parts.length := ha.len
        have two := m.parts_two
        refine lc_tup (xs := us.map V.ref) (fun i H2 => Same H H2 ∧ H2 u = some (.tup (us.map V.ref)) ∧ H2 h0 = some (.tup [.str m.word]) ∧ ∃ as : List Addr, H2 D = some (.lst (as.map V.ref)) ∧ AllAt H2 as ((m.parts.take i).map Md.one)) ?_ ?_ ?_ ?_
        · exact ⟨s3.trans (Same.new hD), (upd_ne nuD).trans eu0, (upd_ne nhD).trans eh0, [], upd_same, trivial⟩
        · rintro i H2 _ ⟨_, eu, _⟩
          exact .of eu
        · rintro i x H2 hx ⟨s4, eu, eh, as, eD, al⟩
          rw [List.getElem?_map] at hx
          obtain ⟨a, hai, rfl⟩ := Option.map_eq_some_iff.mp hx
          obtain ⟨m1, hmi, hm1⟩ := (ha.same s4).get hai
          obtain ⟨ld, _⟩ := Md.part_less (List.mem_of_getElem? hmi)
          refine ⟨rfl, ?_⟩
          unfold tYes
          dsimp only
          rw [if_pos rfl]
          refine ⟨_, rfl, a, m1, rfl, hm1, by omega, fun t2 H3 ht2 s5 => ⟨_, s5 _ _ eD, ?_, ?_⟩⟩
          · rw [List.length_map, al.len, List.length_map, List.length_take]
            exact small1000 (by omega)
          · have sk : SK H3 (upd H3 D (.lst (as.map V.ref ++ [.ref t2]))) := fun c o ec hv => by
              refine (upd_ne fun z => ?_).trans ec
              rw [z, s5 _ _ eD] at ec
              rw [← Option.some.inj ec] at hv
              cases hv
            refine ⟨fun c o ec => (upd_ne (ne_of_none ec fD)).trans (s5 _ _ (s4 _ _ ec)), (upd_ne nuD).trans (s5 _ _ eu), (upd_ne nhD).trans (s5 _ _ eh), as ++ [t2], ?_, ?_⟩
            · rw [upd_same, List.map_append]
              rfl
            · rw [List.take_add_one, hmi, List.map_append]
              exact ((al.same s5).app (show AllAt H3 [t2] [m1.one] from ⟨ht2, trivial⟩)).sk sk
        · rintro H2 ⟨s4, eu, eh, as, eD, al⟩
          rw [List.length_map, hlen, List.take_length] at al
          have ne : as ≠ [] := fun z => by
            rw [z] at al
            have := al.len
            rw [List.length_map] at this
            cases m with
            | neg _ => cases this
            | both _ _ => cases this
            | eith _ _ => cases this
            | _ => cases hl
          refine ⟨D, _, rfl, .inl ⟨.of eD, fun x hx => ?_⟩⟩
          have s5 := Same.new (o := .tup (as.map V.ref)) hx
          refine ⟨h0, x, _, _, rfl, rfl, .of (s5 _ _ eh), .of upd_same, List.cons_ne_nil _ _, ?_, fun z => absurd (List.map_eq_nil_iff.mp z) ne, fun _ z hz => ?_⟩
          · rw [List.length_map, al.len, List.length_map]
            exact small_size (by show 1 + m.parts.length ≤ 7000; omega)
          · have s6 := s5.trans (Same.new (o := .tup ([.str m.word] ++ as.map V.ref)) hz)
            exact q z _ (one_at hl upd_same (al.same s6)) (s4.trans s6)
def rLenK (K : PySem.W.Frag) : List V → Hp → VK → Prop := fun xs H Q => ∃ p ys, xs = [V.ref p] ∧ (SqL K H p ys ∨ SqT K H p ys) ∧ Q (V.int (ys.length : Nat)) H
theorem ok_capped {f fL fO : Addr} {fd fdL fdO : FuncData} (F : Fun K "_law_capped" "_law_capped" sCapped f fd) (GL : FnOk P w K mg base CX0 6 fL fdL ["_law_model_here"] (spLLeaves 5)) (gL : mg "_law_leaves" = some (.ref fL)) (kL : PySem.W.keepIn K (.ref fL) = true) (bL : Binds K fdL ["_law_model_here"] [])
    (GO : FnOk P w K mg base CX0 6 fO fdO ["_law_model_here"] (spOne 5)) (gO : mg "_law_one_name" = some (.ref fO)) (kO : PySem.W.keepIn K (.ref fO) = true) (bO : Binds K fdO ["_law_model_here"] []) (ms : mg "sum" = none) (ml : mg "len" = none) :
    FnOk P w K mg base CX0 7 f fd ["_law_model_here"] spCapped := by
  refine F.ok scCapped (fun vs H Q E h => ?_) (fun cdv A outer s H vs Q E hr h => ?_)
  · obtain ⟨t, m, rfl, _⟩ := h
    rfl
  · obtain ⟨t, m, rfl, hm, hg, h6, h5, h100, q⟩ := h
    refine ⟨_, pss_cons (ps_if (pt_cmpR op_lt (pe_callB (cr_sum rfl) (by rfl) ms (by decide +kernel) (pa_cons (pe_lc (own := [("_law_leaf_here", 1)]) (g := gName 1) (by rfl) scCapped.nd (pi_list (pe_call GL hr rfl gL kL bL .nil pass0 (pa_cons (pv 0) pa_nil)))
          (blkOk_by (own := [("_law_leaf_here", 1)]) (N := ["_law_model_here", "_law_leaf_here"]) (sc := defScope sCapped) (by decide +kernel)) (fun _ _ _ _ _ => pg_name (i := 1) scCapped.nd rfl (.inl rfl))
          (fun _ _ _ _ _ => pts_one (pt_cmpR op_eq (pe_ix (r := rIxT K) ix_tup (pv 1) pe_int (fun _ _ => rfl)) pe_str (nomark _)))
          (fun _ _ _ _ _ => pe_op op_sub (pe_callB (r := rLenK K) call_len_seq (by rfl) ml PySem.boot_len (pa_cons (pv 1) pa_nil)) pe_int)) pa_nil)) pe_int (nomark _)) (pss_one (ps_ret (pv 0))) pss_nil)
      (pss_one (ps_ret (pe_call GO hr rfl gO kO bO .nil pass0 (pa_cons (pv 0) pa_nil)))), ?_⟩
    refine ⟨_, rfl, t, m, rfl, hm, h5, h6, fun p as H1 fp ep al s1 => ?_⟩
    refine ⟨p, rfl, ⟨_, .of ep⟩, fun D hD => ?_⟩
    have fD : H D = none := s1.free hD
    have npD : p ≠ D := ne_of_none ep hD
    have hlen : as.length = m.leafs.length := al.len
    refine lc_list (xs := as.map V.ref) (fun i H2 => Same H H2 ∧ H2 p = some (.lst (as.map V.ref)) ∧ AllAt H2 as m.leafs ∧ H2 D = some (.lst (((m.leafs.take i).filterMap Md.cnt).map V.int))) ?_ ?_ ?_ ?_
    · exact ⟨s1.trans (Same.new hD), (upd_ne npD).trans ep, al.same (Same.new hD), upd_same⟩
    · rintro i H2 _ ⟨_, ep2, _⟩
      exact .of ep2
    · rintro i x H2 hx ⟨s4, ep2, al2, eD⟩
      rw [List.getElem?_map] at hx
      obtain ⟨a, hai, rfl⟩ := Option.map_eq_some_iff.mp hx
      obtain ⟨m1, hmi, hm1⟩ := al2.get hai
      have lf := Md.leafs_leaf (List.mem_of_getElem? hmi)
      have gd := Md.leafs_few hg _ (List.mem_of_getElem? hmi)
      have fewD : (((m.leafs.take i).filterMap Md.cnt).map V.int).length ≤ 6 := by
        rw [List.length_map]
        refine Nat.le_trans (List.length_filterMap_le _ _) ?_
        rw [List.length_take, Md.leafs_len]
        omega
      refine ⟨rfl, ?_⟩
      cases m1 with
      | btw z lo hi =>
        have e : H2 a = some (.tup [.str "between", .str z, .int lo, .int hi]) := hm1
        refine ⟨_, rfl, a, _, 0, _, rfl, rfl, .of e, rfl, rfl, _, rfl, ?_⟩
        refine ifN (by decide +kernel) ⟨s4, ep2, al2, ?_⟩
        rw [eD, List.take_add_one, hmi]
        simp [Md.cnt]
      | nam zs =>
        have e : H2 a = some (.tup (.str "named" :: zs.map V.str)) := hm1
        refine ⟨_, rfl, a, _, ((0 : Nat) : Int), .str "named", rfl, rfl, .of e, atI_nat (j := 0) rfl, rfl, _, rfl, ?_⟩
        refine ifY (self_eq _) ⟨_, rfl, a, _, rfl, .inr (.of e), _, _, rfl, rfl, _, eD, small1000 (by omega), ?_⟩
        have sk : ∀ o, SK H2 (upd H2 D o) := fun o c v ec hv => by
          refine (upd_ne fun z => ?_).trans ec
          rw [z, eD] at ec
          rw [← Option.some.inj ec] at hv
          cases hv
        refine ⟨fun c o ec => (upd_ne (ne_of_none ec fD)).trans (s4 _ _ ec), (upd_ne npD).trans ep2, al2.sk (sk _), ?_⟩
        rw [upd_same, List.take_add_one, hmi]
        have e9 : (((V.str "named" :: zs.map V.str).length : Nat) : Int) - 1 = (zs.length : Int) := by
          rw [List.length_cons, List.length_map]
          omega
        show some (HO.lst (_ ++ [V.int ((((V.str "named" :: zs.map V.str).length : Nat) : Int) - 1)])) = _
        rw [e9]
        simp [Md.cnt]
      | _ => cases lf
    · rintro H2 ⟨s4, ep2, al2, eD⟩
      rw [List.length_map, hlen, List.take_length] at eD
      refine ⟨D, _, rfl, .inl (.inl eD), _, _, rfl, rfl, _, rfl, ?_⟩
      rw [Md.cnt_sum]
      have hm2 := hm.same s4
      refine ite2 (fun hlt => ?_) (fun _ => ?_)
      · have h9 : (m.names : Int) < 9 := of_decide_eq_true hlt
        exact ⟨_, rfl, q t m H2 hm2 hg rfl rfl (by omega) s4⟩
      · exact ⟨_, rfl, t, m, rfl, hm2, h5, fun t' H' ht' s5 => q t' m.one H' ht' (Md.one_good hg) (Md.one_leaves m) (Md.one_depth m) (Nat.le_trans (Md.one_names m) (by omega)) (s4.trans s5)⟩
end
end G
set_option Elab.async false
set_option linter.all false
set_option maxRecDepth 100000
set_option maxHeartbeats 4000000
/-! F4: properties of conditions; the classes under which one stands. -/
namespace G
open PySem PySem.Spec PyProof.Rows L2 NdefX StX
/-- the class at C has the property f, whose getter tells the field fld -/
structure PolyP (P : Program) (w : World) (K : PySem.W.Frag) (mg : Str → Option Value) (base : Heap) (C : Addr) (f fld : Str) : Prop where
  cl : Cls K C
  ex : ∃ (p g : Addr) (fd : FuncData), PropOf K C f p g ∧ Binds K fd ["self"] [] ∧ FnOk P w K mg base CX0 1 g fd ["self"] (getSp C fld)
def tPropV (X : Cx) (f : Str) (ta : TE) : TE := fun σ H Q => ta σ H fun x H1 => ∃ (a C dx : Addr) (fs : List (Str × V)) (fld : Str) (v : V), x = .ref a ∧ H1 a = some (.ins C dx fs) ∧ PolyP X.prog X.w X.K X.mg X.base C f fld ∧ fs.lookup fld = some v ∧ Q v H1
theorem pe_propV {X : Cx} {f : Str} {e : Expr} {pos : Pos} {ta : TE} (he : PE X e ta) (hr : Room 2 X.A) (hab : attributeBase e f X.env (eval e X.env) = eval e X.env) : PE X (.Attribute e f pos) (tPropV X f ta) := by
  refine ⟨fun pins s σ H Q I h => ?_⟩
  refine attr_of hab (thn (he.run pins s σ H _ I h) fun u s1 ⟨x, H1, I1, rx, a, C, dx, fs, fld, v, ex, ea, pp, l, q⟩ => ?_)
  subst ex
  obtain rfl : u = Value.ref a := rx
  obtain ⟨p, g, fd, hp, hb, F⟩ := pp.ex
  exact getprop_ok (dvs := []) (ds := []) (E := E0) I1 ea pp.cl hp F hr hb .nil pass0 ⟨a, dx, fs, v, rfl, ea, l, q⟩
theorem getSp_len {C : Addr} {f : Str} : ∀ vs H Q E, getSp C f vs H Q E → vs.length = (["self"] : List Str).length := fun vs H Q E h => by
  obtain ⟨a, dx, fs, v, rfl, _⟩ := h
  rfl
theorem sc_bt1 : FnScope ["self"] ["self"] (defScope (sBtw 1)) := ⟨rfl, rfl, rfl, by decide +kernel, rfl, by decide +kernel, by decide +kernel⟩
theorem sc_bt2 : FnScope ["self"] ["self"] (defScope (sBtw 2)) := ⟨rfl, rfl, rfl, by decide +kernel, rfl, by decide +kernel, by decide +kernel⟩
theorem sc_bt3 : FnScope ["self"] ["self"] (defScope (sBtw 3)) := ⟨rfl, rfl, rfl, by decide +kernel, rfl, by decide +kernel, by decide +kernel⟩
theorem sc_nm1 : FnScope ["self"] ["self"] (defScope (sNam 1)) := ⟨rfl, rfl, rfl, by decide +kernel, rfl, by decide +kernel, by decide +kernel⟩
theorem sc_bo1 : FnScope ["self"] ["self"] (defScope (sBo 1)) := ⟨rfl, rfl, rfl, by decide +kernel, rfl, by decide +kernel, by decide +kernel⟩
theorem sc_bo2 : FnScope ["self"] ["self"] (defScope (sBo 2)) := ⟨rfl, rfl, rfl, by decide +kernel, rfl, by decide +kernel, by decide +kernel⟩
theorem sc_ei1 : FnScope ["self"] ["self"] (defScope (sEi 1)) := ⟨rfl, rfl, rfl, by decide +kernel, rfl, by decide +kernel, by decide +kernel⟩
theorem sc_ei2 : FnScope ["self"] ["self"] (defScope (sEi 2)) := ⟨rfl, rfl, rfl, by decide +kernel, rfl, by decide +kernel, by decide +kernel⟩
theorem sc_nt1 : FnScope ["self"] ["self"] (defScope (sNt 1)) := ⟨rfl, rfl, rfl, by decide +kernel, rfl, by decide +kernel, by decide +kernel⟩
abbrev sKinds : Stmt := topS 62
abbrev nKinds : List Str := ["_law_model_here", "_law_condition", "_law_told", "_law_due", "_law_word"]
theorem scKinds : FnScope nKinds ["_law_model_here", "_law_condition"] (defScope sKinds) := ⟨rfl, rfl, rfl, by decide +kernel, rfl, by decide +kernel, by decide +kernel⟩
def words5 : List Str := ["between", "named", "both", "either", "not"]
def inPair : List V := [.str "both", .str "either"]
def inLeaf : List V := [.str "between", .str "named"]
def toldT (t : Nat) : List Bool := [decide (t = 0), decide (t = 1), decide (t = 3), decide (t = 4), decide (t = 2), decide (t < 2), decide (2 < t), true]
def dueW (z : Str) : List Bool := words5.map fun y => decide (V.str y = V.str z)
theorem told0 : dueW "between" ++ [inV (.str "between") inLeaf, inV (.str "between") inPair, true] = toldT 0 := by decide +kernel
theorem told1 : dueW "named" ++ [inV (.str "named") inLeaf, inV (.str "named") inPair, true] = toldT 1 := by decide +kernel
theorem told2 : dueW "not" ++ [inV (.str "not") inLeaf, inV (.str "not") inPair, true] = toldT 2 := by decide +kernel
theorem told3 : dueW "both" ++ [inV (.str "both") inLeaf, inV (.str "both") inPair, true] = toldT 3 := by decide +kernel
theorem told4 : dueW "either" ++ [inV (.str "either") inLeaf, inV (.str "either") inPair, true] = toldT 4 := by decide +kernel
theorem told_due : ∀ m : Md, dueW m.word ++ [inV (.str m.word) inLeaf, inV (.str m.word) inPair, true] = toldT m.tag
  | .btw _ _ _ => told0
  | .nam _ => told1
  | .neg _ => told2
  | .both _ _ => told3
  | .eith _ _ => told4
theorem MdAt.wd {H : Hp} : ∀ {m : Md} {t : Addr}, MdAt H t m → ∃ r, H t = some (.tup (.str m.word :: r))
  | .btw _ _ _, _, e => ⟨_, e⟩
  | .nam _, _, e => ⟨_, e⟩
  | .neg _, _, ⟨_, e, _⟩ => ⟨_, e⟩
  | .both _ _, _, ⟨_, _, e, _⟩ => ⟨_, e⟩
  | .eith _ _, _, ⟨_, _, e, _⟩ => ⟨_, e⟩
theorem dp_bools {K : PySem.W.Frag} {H : Hp} : ∀ bs : List Bool, DpAll K H (bs.map V.bl) (bs.map PyData.bool)
  | [] => .nil
  | b :: bs => .cons (.bl b) (dp_bools bs)
theorem eqv_bools : ∀ xs : List Bool, PyData.eqvAll (xs.map PyData.bool) (xs.map PyData.bool) = true
  | [] => rfl
  | x :: xs => by
    show (PyData.eqv (.bool x) (.bool x) && PyData.eqvAll (xs.map PyData.bool) (xs.map PyData.bool)) = true
    rw [eqv_bools xs]
    cases x <;> rfl
theorem bools_shaped (bs : List Bool) : SeqAt.shaped (.list (bs.map PyData.bool)) = true := lay_list (ds := bs.map PyData.bool) fun d hd => by
  obtain ⟨b, _, rfl⟩ := List.mem_map.mp hd
  exact ⟨rfl, rfl, Nat.zero_le _⟩
/-- what isinstance asks of the five classes and of Leaf and Pair -/
structure KindK (K : PySem.W.Frag) (c : Cs) (L R : Addr) : Prop where
  leaf : ∀ i, i < 5 → PySem.W.kitOne K (.ref (c.at i)) (.ref L) = some (decide (i < 2))
  pair : ∀ i, i < 5 → PySem.W.kitOne K (.ref (c.at i)) (.ref R) = some (decide (2 < i))
def spKinds (c : Cs) : Sp := fun vs H Q _ => ∃ (t a : Addr) (m : Md), vs = [.ref t, .ref a] ∧ MdAt H t m ∧ CoAt c H a m ∧ ∀ H', Same H H' → Q (.bl true) H'
section
variable {P : Program} {w : World} {K : PySem.W.Frag} {mg : Str → Option Value} {base : Heap} {c : Cs} {D : Addr}
theorem CoAt.ty {H : Hp} {m : Md} {a : Addr} (O : CsOk K D c) (h : CoAt c H a m) : TyX K H (.ref a) (.ref (c.at m.tag)) := by
  obtain ⟨dx, fs, hb, _⟩ := h.get
  have u := O.of m
  rw [← clsT]
  exact .base (.ins hb u.cl u.ha u.hn u.htk u.hm)
theorem ok_btfield {f : Addr} {fd : FuncData} (F : Fun K "field" "Between.field" (sBtw 1) f fd) (O : CsOk K D c) (n1 : NoAttr K c.bt "field_name") : FnOk P w K mg base CX0 1 f fd ["self"] (getSp c.bt "field_name") := by
  refine F.ok sc_bt1 getSp_len (fun cdv A' outer s H vs Q E hr h => ?_)
  obtain ⟨a, dx, fs, v, rfl, ea, l, q⟩ := h
  exact ⟨_, pss_one (ps_ret (pe_fld (pv 0) rfl)), .ref a, rfl, a, c.bt, dx, fs, v, rfl, ea, O.bt.cl, n1, l, q⟩
theorem ok_btlow {f : Addr} {fd : FuncData} (F : Fun K "low" "Between.low" (sBtw 2) f fd) (O : CsOk K D c) (n1 : NoAttr K c.bt "lowest") : FnOk P w K mg base CX0 1 f fd ["self"] (getSp c.bt "lowest") := by
  refine F.ok sc_bt2 getSp_len (fun cdv A' outer s H vs Q E hr h => ?_)
  obtain ⟨a, dx, fs, v, rfl, ea, l, q⟩ := h
  exact ⟨_, pss_one (ps_ret (pe_fld (pv 0) rfl)), .ref a, rfl, a, c.bt, dx, fs, v, rfl, ea, O.bt.cl, n1, l, q⟩
theorem ok_bthigh {f : Addr} {fd : FuncData} (F : Fun K "high" "Between.high" (sBtw 3) f fd) (O : CsOk K D c) (n1 : NoAttr K c.bt "highest") : FnOk P w K mg base CX0 1 f fd ["self"] (getSp c.bt "highest") := by
  refine F.ok sc_bt3 getSp_len (fun cdv A' outer s H vs Q E hr h => ?_)
  obtain ⟨a, dx, fs, v, rfl, ea, l, q⟩ := h
  exact ⟨_, pss_one (ps_ret (pe_fld (pv 0) rfl)), .ref a, rfl, a, c.bt, dx, fs, v, rfl, ea, O.bt.cl, n1, l, q⟩
theorem ok_nmacc {f : Addr} {fd : FuncData} (F : Fun K "accepted" "Named.accepted" (sNam 1) f fd) (O : CsOk K D c) (n1 : NoAttr K c.nm "accepted_names") : FnOk P w K mg base CX0 1 f fd ["self"] (getSp c.nm "accepted_names") := by
  refine F.ok sc_nm1 getSp_len (fun cdv A' outer s H vs Q E hr h => ?_)
  obtain ⟨a, dx, fs, v, rfl, ea, l, q⟩ := h
  exact ⟨_, pss_one (ps_ret (pe_fld (pv 0) rfl)), .ref a, rfl, a, c.nm, dx, fs, v, rfl, ea, O.nm.cl, n1, l, q⟩
theorem ok_boone {f : Addr} {fd : FuncData} (F : Fun K "one" "Both.one" (sBo 1) f fd) (O : CsOk K D c) (n1 : NoAttr K c.bo "first") : FnOk P w K mg base CX0 1 f fd ["self"] (getSp c.bo "first") := by
  refine F.ok sc_bo1 getSp_len (fun cdv A' outer s H vs Q E hr h => ?_)
  obtain ⟨a, dx, fs, v, rfl, ea, l, q⟩ := h
  exact ⟨_, pss_one (ps_ret (pe_fld (pv 0) rfl)), .ref a, rfl, a, c.bo, dx, fs, v, rfl, ea, O.bo.cl, n1, l, q⟩
theorem ok_bootr {f : Addr} {fd : FuncData} (F : Fun K "other" "Both.other" (sBo 2) f fd) (O : CsOk K D c) (n1 : NoAttr K c.bo "second") : FnOk P w K mg base CX0 1 f fd ["self"] (getSp c.bo "second") := by
  refine F.ok sc_bo2 getSp_len (fun cdv A' outer s H vs Q E hr h => ?_)
  obtain ⟨a, dx, fs, v, rfl, ea, l, q⟩ := h
  exact ⟨_, pss_one (ps_ret (pe_fld (pv 0) rfl)), .ref a, rfl, a, c.bo, dx, fs, v, rfl, ea, O.bo.cl, n1, l, q⟩
theorem ok_eione {f : Addr} {fd : FuncData} (F : Fun K "one" "Either.one" (sEi 1) f fd) (O : CsOk K D c) (n1 : NoAttr K c.ei "first") : FnOk P w K mg base CX0 1 f fd ["self"] (getSp c.ei "first") := by
  refine F.ok sc_ei1 getSp_len (fun cdv A' outer s H vs Q E hr h => ?_)
  obtain ⟨a, dx, fs, v, rfl, ea, l, q⟩ := h
  exact ⟨_, pss_one (ps_ret (pe_fld (pv 0) rfl)), .ref a, rfl, a, c.ei, dx, fs, v, rfl, ea, O.ei.cl, n1, l, q⟩
theorem ok_eiotr {f : Addr} {fd : FuncData} (F : Fun K "other" "Either.other" (sEi 2) f fd) (O : CsOk K D c) (n1 : NoAttr K c.ei "second") : FnOk P w K mg base CX0 1 f fd ["self"] (getSp c.ei "second") := by
  refine F.ok sc_ei2 getSp_len (fun cdv A' outer s H vs Q E hr h => ?_)
  obtain ⟨a, dx, fs, v, rfl, ea, l, q⟩ := h
  exact ⟨_, pss_one (ps_ret (pe_fld (pv 0) rfl)), .ref a, rfl, a, c.ei, dx, fs, v, rfl, ea, O.ei.cl, n1, l, q⟩
theorem ok_ntone {f : Addr} {fd : FuncData} (F : Fun K "one" "Not.one" (sNt 1) f fd) (O : CsOk K D c) (n1 : NoAttr K c.nt "inner") : FnOk P w K mg base CX0 1 f fd ["self"] (getSp c.nt "inner") := by
  refine F.ok sc_nt1 getSp_len (fun cdv A' outer s H vs Q E hr h => ?_)
  obtain ⟨a, dx, fs, v, rfl, ea, l, q⟩ := h
  exact ⟨_, pss_one (ps_ret (pe_fld (pv 0) rfl)), .ref a, rfl, a, c.nt, dx, fs, v, rfl, ea, O.nt.cl, n1, l, q⟩
theorem ok_kinds {f L R : Addr} {fd : FuncData} (F : Fun K "_law_classes_right" "_law_classes_right" sKinds f fd) (O : CsOk K D c) (ek : EqK K c) (kk : KindK K c L R) (mi : mg "isinstance" = none)
    (g0 : mg "Between" = some (.ref c.bt)) (g1 : mg "Named" = some (.ref c.nm)) (g2 : mg "Not" = some (.ref c.nt)) (g3 : mg "Both" = some (.ref c.bo)) (g4 : mg "Either" = some (.ref c.ei)) (gL : mg "Leaf" = some (.ref L)) (gR : mg "Pair" = some (.ref R)) (gD : mg "Condition" = some (.ref D)) :
    FnOk P w K mg base CX0 1 f fd ["_law_model_here", "_law_condition"] (spKinds c) := by
  refine F.ok scKinds (fun vs H Q E h => ?_) (fun cdv A' outer s H vs Q E hr h => ?_)
  · obtain ⟨t, a, m, rfl, _⟩ := h
    rfl
  · obtain ⟨t, a, m, rfl, hm, hc, q⟩ := h
    refine ⟨_, pss_cons (ps_set (i := 2) scKinds.nd rfl (.inl rfl) (pe_lst (pa_cons (pe_callB call_isi (by rfl) mi (by decide +kernel) (pa_cons (pv 1) (pa_cons (pe_glob (v := .ref c.bt) rfl g0 rfl) pa_nil)))
        (pa_cons (pe_callB call_isi (by rfl) mi (by decide +kernel) (pa_cons (pv 1) (pa_cons (pe_glob (v := .ref c.nm) rfl g1 rfl) pa_nil))) (pa_cons (pe_callB call_isi (by rfl) mi (by decide +kernel) (pa_cons (pv 1) (pa_cons (pe_glob (v := .ref c.bo) rfl g3 rfl) pa_nil))) pa_nil)))))
      (pss_cons (ps_set (i := 2) scKinds.nd rfl (.inl rfl) (pe_op op_cat (pv 2) (pe_lst (pa_cons (pe_callB call_isi (by rfl) mi (by decide +kernel) (pa_cons (pv 1) (pa_cons (pe_glob (v := .ref c.ei) rfl g4 rfl) pa_nil)))
        (pa_cons (pe_callB call_isi (by rfl) mi (by decide +kernel) (pa_cons (pv 1) (pa_cons (pe_glob (v := .ref c.nt) rfl g2 rfl) pa_nil))) (pa_cons (pe_callB call_isi (by rfl) mi (by decide +kernel) (pa_cons (pv 1) (pa_cons (pe_glob (v := .ref L) rfl gL rfl) pa_nil))) pa_nil))))))
      (pss_cons (ps_set (i := 2) scKinds.nd rfl (.inl rfl) (pe_op op_cat (pv 2) (pe_lst (pa_cons (pe_callB call_isi (by rfl) mi (by decide +kernel) (pa_cons (pv 1) (pa_cons (pe_glob (v := .ref R) rfl gR rfl) pa_nil)))
        (pa_cons (pe_callB call_isi (by rfl) mi (by decide +kernel) (pa_cons (pv 1) (pa_cons (pe_glob (v := .ref D) rfl gD rfl) pa_nil))) pa_nil)))))
      (pss_cons (ps_setLc (i := 3) (own := [("_law_word", 4)]) (g := gName 4) (tt := tYes) (by rfl) scKinds.nd rfl rfl (sw_true rfl rfl rfl (by decide +kernel)) (pi_list (pe_lst (pa_cons pe_str (pa_cons pe_str (pa_cons pe_str (pa_cons pe_str (pa_cons pe_str pa_nil)))))))
          (blkOk_by (own := [("_law_word", 4)]) (N := nKinds) (sc := defScope sKinds) (by decide +kernel)) (fun _ _ _ _ _ => pg_name (i := 4) scKinds.nd rfl (.inl rfl)) (fun _ _ _ _ _ => pts_nil)
          (fun _ _ _ _ _ => pe_cmpR op_eq (pv 4) (pe_ix (r := rIxT K) ix_tup (pv 0) pe_int (fun _ _ => rfl)) (nomark _)))
      (pss_one (ps_ret (pe_cmpR (op_eqD hr.units) (pv 2) (pe_op op_cat (pv 3) (pe_lst (pa_cons (pe_cmpR op_in_seq (pe_ix ix_tup (pv 0) pe_int (fun _ _ => rfl)) (pe_tup (pa_cons pe_str (pa_cons pe_str pa_nil))) (by rfl))
        (pa_cons (pe_cmpR op_in_seq (pe_ix ix_tup (pv 0) pe_int (fun _ _ => rfl)) (pe_tup (pa_cons pe_str (pa_cons pe_str pa_nil))) (by rfl)) (pa_cons pe_bl pa_nil))))) (nomark _))))))), ?_⟩
    have ty := fun (H1 : Hp) (h : CoAt c H1 a m) => CoAt.ty O h
    have kt := fun j hj => ek.kit m.tag j (tag_lt m) hj
    have b0 := kt 0 (by decide)
    have b1 := kt 1 (by decide)
    have b2 := kt 2 (by decide)
    have b3 := kt 3 (by decide)
    have b4 := kt 4 (by decide)
    have bL := kk.leaf m.tag (tag_lt m)
    have bR := kk.pair m.tag (tag_lt m)
    have bD : PySem.W.kitOne K (.ref (c.at m.tag)) (.ref D) = some true := by
      rw [← clsT]
      exact (O.of m).kit
    refine ⟨_, rfl, _, _, _, _, _, rfl, .own _, ty _ hc, b0, _, rfl, _, _, _, _, _, rfl, .own _, ty _ hc, b1, _, rfl, _, _, _, _, _, rfl, .own _, ty _ hc, b3, (by show 3 ≤ sizeLine; decide), fun p1 n1 => ?_⟩
    have s1 := Same.new (o := .lst [.bl (decide (m.tag = 0)), .bl (decide (m.tag = 1)), .bl (decide (m.tag = 3))]) n1
    have e1 : (upd H p1 (.lst [.bl (decide (m.tag = 0)), .bl (decide (m.tag = 1)), .bl (decide (m.tag = 3))])) p1 = _ := upd_same
    change Same H (upd H p1 (.lst [.bl (decide (m.tag = 0)), .bl (decide (m.tag = 1)), .bl (decide (m.tag = 3))])) at s1
    generalize (upd H p1 (.lst [.bl (decide (m.tag = 0)), .bl (decide (m.tag = 1)), .bl (decide (m.tag = 3))])) = H1 at s1 e1 ⊢
    have c1 := hc.same s1
    refine ⟨_, rfl, _, rfl, _, _, _, _, _, rfl, .own _, ty _ c1, b4, _, rfl, _, _, _, _, _, rfl, .own _, ty _ c1, b2, _, rfl, _, _, _, _, _, rfl, .own _, ty _ c1, bL, (by show 3 ≤ sizeLine; decide), fun p2 n2 => ?_⟩
    have e2 := Same.new (o := .lst [.bl (decide (m.tag = 4)), .bl (decide (m.tag = 2)), .bl (decide (m.tag < 2))]) n2 _ _ e1
    refine ⟨p1, p2, _, _, rfl, rfl, e2, upd_same, (by show 3 + 3 ≤ sizeLine; decide), fun p3 n3 => ?_⟩
    have s3 := (s1.trans (Same.new (o := .lst [.bl (decide (m.tag = 4)), .bl (decide (m.tag = 2)), .bl (decide (m.tag < 2))]) n2)).trans (Same.new (o := .lst [.bl (decide (m.tag = 0)), .bl (decide (m.tag = 1)), .bl (decide (m.tag = 3)), .bl (decide (m.tag = 4)), .bl (decide (m.tag = 2)), .bl (decide (m.tag < 2))]) n3)
    have e3 : (upd (upd H1 p2 (.lst [.bl (decide (m.tag = 4)), .bl (decide (m.tag = 2)), .bl (decide (m.tag < 2))])) p3 (.lst [.bl (decide (m.tag = 0)), .bl (decide (m.tag = 1)), .bl (decide (m.tag = 3)), .bl (decide (m.tag = 4)), .bl (decide (m.tag = 2)), .bl (decide (m.tag < 2))])) p3 = some (.lst [.bl (decide (m.tag = 0)), .bl (decide (m.tag = 1)), .bl (decide (m.tag = 3)), .bl (decide (m.tag = 4)), .bl (decide (m.tag = 2)), .bl (decide (m.tag < 2))]) := upd_same
    change Same H (upd (upd H1 p2 (.lst [.bl (decide (m.tag = 4)), .bl (decide (m.tag = 2)), .bl (decide (m.tag < 2))])) p3 (.lst [.bl (decide (m.tag = 0)), .bl (decide (m.tag = 1)), .bl (decide (m.tag = 3)), .bl (decide (m.tag = 4)), .bl (decide (m.tag = 2)), .bl (decide (m.tag < 2))])) at s3
    dsimp only [List.cons_append, List.nil_append]
    generalize (upd (upd H1 p2 (.lst [.bl (decide (m.tag = 4)), .bl (decide (m.tag = 2)), .bl (decide (m.tag < 2))])) p3 (.lst [.bl (decide (m.tag = 0)), .bl (decide (m.tag = 1)), .bl (decide (m.tag = 3)), .bl (decide (m.tag = 4)), .bl (decide (m.tag = 2)), .bl (decide (m.tag < 2))])) = H3 at s3 e3 ⊢
    clear e2 n1 n2 n3 c1 e1 s1
    have c3 := hc.same s3
    refine ⟨_, rfl, _, rfl, _, _, _, _, _, rfl, .own _, ty _ c3, bR, _, rfl, _, _, _, _, _, rfl, .own _, ty _ c3, bD, (by show 2 ≤ sizeLine; decide), fun p4 n4 => ?_⟩
    have e4 := Same.new (o := .lst [.bl (decide (2 < m.tag)), .bl true]) n4 _ _ e3
    refine ⟨p3, p4, _, _, rfl, rfl, e4, upd_same, (by show 6 + 2 ≤ sizeLine; decide), fun p5 n5 => ?_⟩
    have s5 := (s3.trans (Same.new (o := .lst [.bl (decide (2 < m.tag)), .bl true]) n4)).trans (Same.new (o := .lst [.bl (decide (m.tag = 0)), .bl (decide (m.tag = 1)), .bl (decide (m.tag = 3)), .bl (decide (m.tag = 4)), .bl (decide (m.tag = 2)), .bl (decide (m.tag < 2)), .bl (decide (2 < m.tag)), .bl true]) n5)
    have e5 : (upd (upd H3 p4 (.lst [.bl (decide (2 < m.tag)), .bl true])) p5 (.lst [.bl (decide (m.tag = 0)), .bl (decide (m.tag = 1)), .bl (decide (m.tag = 3)), .bl (decide (m.tag = 4)), .bl (decide (m.tag = 2)), .bl (decide (m.tag < 2)), .bl (decide (2 < m.tag)), .bl true])) p5 = some (.lst [.bl (decide (m.tag = 0)), .bl (decide (m.tag = 1)), .bl (decide (m.tag = 3)), .bl (decide (m.tag = 4)), .bl (decide (m.tag = 2)), .bl (decide (m.tag < 2)), .bl (decide (2 < m.tag)), .bl true]) := upd_same
    change Same H (upd (upd H3 p4 (.lst [.bl (decide (2 < m.tag)), .bl true])) p5 (.lst [.bl (decide (m.tag = 0)), .bl (decide (m.tag = 1)), .bl (decide (m.tag = 3)), .bl (decide (m.tag = 4)), .bl (decide (m.tag = 2)), .bl (decide (m.tag < 2)), .bl (decide (2 < m.tag)), .bl true])) at s5
    dsimp only [List.cons_append, List.nil_append]
    generalize (upd (upd H3 p4 (.lst [.bl (decide (2 < m.tag)), .bl true])) p5 (.lst [.bl (decide (m.tag = 0)), .bl (decide (m.tag = 1)), .bl (decide (m.tag = 3)), .bl (decide (m.tag = 4)), .bl (decide (m.tag = 2)), .bl (decide (m.tag < 2)), .bl (decide (2 < m.tag)), .bl true])) = H5 at s5 e5 ⊢
    clear e4 n4 n5 c3 e3 s3
    replace e5 : H5 p5 = some (.lst ((toldT m.tag).map V.bl)) := e5
    refine ⟨(by show 5 ≤ sizeLine; decide), fun p6 n6 => ?_⟩
    have s6 := s5.trans (Same.new (o := .lst [.str "between", .str "named", .str "both", .str "either", .str "not"]) n6)
    have e56 := Same.new (o := .lst [.str "between", .str "named", .str "both", .str "either", .str "not"]) n6 _ _ e5
    have e6 : (upd H5 p6 (.lst [.str "between", .str "named", .str "both", .str "either", .str "not"])) p6 = some (.lst [.str "between", .str "named", .str "both", .str "either", .str "not"]) := upd_same
    change Same H (upd H5 p6 (.lst [.str "between", .str "named", .str "both", .str "either", .str "not"])) at s6
    change (upd H5 p6 (.lst [.str "between", .str "named", .str "both", .str "either", .str "not"])) p5 = _ at e56
    generalize (upd H5 p6 (.lst [.str "between", .str "named", .str "both", .str "either", .str "not"])) = H6 at s6 e56 e6 ⊢
    clear n6 s5 e5
    replace e6 : H6 p6 = some (.lst (words5.map V.str)) := e6
    refine ⟨p6, rfl, ⟨_, .of e6⟩, fun D1 hD => ?_⟩
    have fD : H D1 = none := s6.free hD
    have n6D : p6 ≠ D1 := ne_of_none e6 hD
    have n5D : p5 ≠ D1 := ne_of_none e56 hD
    obtain ⟨rest, em⟩ := hm.wd
    refine lc_list (xs := words5.map V.str) (fun i H2 => Same H H2 ∧ H2 p6 = some (.lst (words5.map V.str)) ∧ H2 p5 = some (.lst ((toldT m.tag).map V.bl)) ∧ H2 D1 = some (.lst (((words5.take i).map fun y => decide (V.str y = V.str m.word)).map V.bl))) ?_ ?_ ?_ ?_
    · exact ⟨s6.trans (Same.new hD), (upd_ne n6D).trans e6, (upd_ne n5D).trans e56, upd_same⟩
    · rintro i H2 _ ⟨_, e, _⟩
      exact .of e
    · rintro i x H2 hx ⟨s4, e6, e5, eD⟩
      rw [List.getElem?_map] at hx
      obtain ⟨y, hy, rfl⟩ := Option.map_eq_some_iff.mp hx
      refine ⟨rfl, ?_⟩
      unfold tYes
      dsimp only
      rw [if_pos rfl]
      refine ⟨_, rfl, _, rfl, t, _, ((0 : Nat) : Int), .str m.word, rfl, rfl, .of (s4 _ _ em), atI_nat (j := 0) rfl, rfl, _, eD, ?_, ?_⟩
      · rw [List.length_map, List.length_map, List.length_take]
        exact small1000 (by show min i 5 ≤ 1000; omega)
      · refine ⟨fun c o ec => (upd_ne (ne_of_none ec fD)).trans (s4 _ _ ec), (upd_ne n6D).trans e6, (upd_ne n5D).trans e5, ?_⟩
        rw [upd_same, List.take_add_one, hy]
        simp
    · rintro H7 ⟨s7, e6, e5, eD⟩
      have eD7 : H7 D1 = some (.lst ((dueW m.word).map V.bl)) := eD
      refine ⟨_, rfl, _, rfl, _, rfl, t, _, ((0 : Nat) : Int), .str m.word, rfl, rfl, .of (s7 _ _ em), atI_nat (j := 0) rfl, (by show 2 ≤ sizeLine; decide), fun p7 n7 => ⟨p7, _, rfl, .inr (.of upd_same), rfl, rfl, ?_⟩⟩
      have s8 := s7.trans (Same.new (o := .tup inLeaf) n7)
      have e58 := Same.new (o := .tup inLeaf) n7 _ _ e5
      have eD8 := Same.new (o := .tup inLeaf) n7 _ _ eD7
      refine ⟨_, rfl, t, _, ((0 : Nat) : Int), .str m.word, rfl, rfl, .of (s8 _ _ em), atI_nat (j := 0) rfl, (by show 2 ≤ sizeLine; decide), fun p8 n8 => ⟨p8, _, rfl, .inr (.of upd_same), rfl, rfl, ?_⟩⟩
      have s9 := s8.trans (Same.new (o := .tup inPair) n8)
      have e59 := Same.new (o := .tup inPair) n8 _ _ e58
      have eD9 := Same.new (o := .tup inPair) n8 _ _ eD8
      refine ⟨(by show 3 ≤ sizeLine; decide), fun p9 n9 => ?_⟩
      have s10 := s9.trans (Same.new (o := .lst [.bl (inV (.str m.word) inLeaf), .bl (inV (.str m.word) inPair), .bl true]) n9)
      have e5a := Same.new (o := .lst [.bl (inV (.str m.word) inLeaf), .bl (inV (.str m.word) inPair), .bl true]) n9 _ _ e59
      have eDa := Same.new (o := .lst [.bl (inV (.str m.word) inLeaf), .bl (inV (.str m.word) inPair), .bl true]) n9 _ _ eD9
      refine ⟨D1, p9, _, _, rfl, rfl, eDa, upd_same, (by show 5 + 3 ≤ sizeLine; decide), fun p10 n10 => ?_⟩
      have ew : (dueW m.word).map V.bl ++ [.bl (inV (.str m.word) inLeaf), .bl (inV (.str m.word) inPair), .bl true] = (toldT m.tag).map V.bl := by
        rw [← told_due m, List.map_append]
        rfl
      have s11 := s10.trans (Same.new (o := .lst ((dueW m.word).map V.bl ++ [.bl (inV (.str m.word) inLeaf), .bl (inV (.str m.word) inPair), .bl true])) n10)
      have e5b := Same.new (o := .lst ((dueW m.word).map V.bl ++ [.bl (inV (.str m.word) inLeaf), .bl (inV (.str m.word) inPair), .bl true])) n10 _ _ e5a
      refine ⟨.list ((toldT m.tag).map PyData.bool), .list ((toldT m.tag).map PyData.bool), .lst (.of e5b) (dp_bools _), .lst (.of ?_) (dp_bools _), bools_shaped _, bools_shaped _, ?_⟩
      · rw [← ew]
        exact upd_same
      · have eq2 : PyData.eqv (.list ((toldT m.tag).map PyData.bool)) (.list ((toldT m.tag).map PyData.bool)) = true := eqv_bools _
        rw [eq2]
        exact q _ s11
end
end G
set_option Elab.async false
set_option linter.all false
set_option maxRecDepth 100000
set_option maxHeartbeats 4000000
/-! F5: the parts of a condition, as the law looks at them. -/
namespace G
open PySem PySem.Spec PyProof.Rows L2 NdefX StX
abbrev sParts : Stmt := topS 63
theorem scParts : FnScope ["_law_box_here", "_law_model_here", "_law_condition"] ["_law_box_here", "_law_model_here", "_law_condition"] (defScope sParts) := ⟨rfl, rfl, rfl, by decide +kernel, rfl, by decide +kernel, by decide +kernel⟩
/-- how many numbers are drawn by the look -/
def Md.pc : Md → Nat
  | .btw _ _ _ => 0
  | .nam _ => 0
  | .neg m => m.pc + m.size
  | .both a b => a.pc + a.size + b.pc
  | .eith a b => a.pc + a.size + b.pc
theorem sq_two (a b : Nat) : a * a + a + b * b ≤ (a + b + 1) * (a + b + 1) := by
  simp only [Nat.add_mul, Nat.mul_add, Nat.one_mul, Nat.mul_one]
  have := Nat.zero_le (a * b)
  have := Nat.zero_le (b * a)
  omega
theorem Md.pc_le : ∀ m : Md, m.pc ≤ m.size * m.size
  | .btw _ _ _ => Nat.zero_le _
  | .nam _ => Nat.zero_le _
  | .neg m => by
    have h := Md.pc_le m
    have z : m.size * m.size + m.size ≤ (m.size + 1) * (m.size + 1) := sq_two m.size 0
    show m.pc + m.size ≤ (m.size + 1) * (m.size + 1)
    omega
  | .both a b => by
    have h := Md.pc_le a
    have h2 := Md.pc_le b
    have z := sq_two a.size b.size
    show a.pc + a.size + b.pc ≤ (a.size + b.size + 1) * (a.size + b.size + 1)
    omega
  | .eith a b => by
    have h := Md.pc_le a
    have h2 := Md.pc_le b
    have z := sq_two a.size b.size
    show a.pc + a.size + b.pc ≤ (a.size + b.size + 1) * (a.size + b.size + 1)
    omega
theorem Md.pc_961 {m : Md} (h : m.depth ≤ 5) : m.pc ≤ 961 := Nat.le_trans m.pc_le (Nat.mul_le_mul (Md.size_31 h) (Md.size_31 h))
theorem Md.eqb_self (m : Md) : m.eqb m = true := (Md.eqb_iff m m).mpr rfl
theorem int_lay {i : Int} (h1 : -999 ≤ i) (h2 : i ≤ 999) : lay (.int i) := ⟨rfl, rfl, Nat.zero_le _⟩
/-- the properties of the five classes -/
structure PropsOk (P : Program) (w : World) (K : PySem.W.Frag) (mg : Str → Option Value) (base : Heap) (c : Cs) : Prop where
  field : PolyP P w K mg base c.bt "field" "field_name"
  low : PolyP P w K mg base c.bt "low" "lowest"
  high : PolyP P w K mg base c.bt "high" "highest"
  acc : PolyP P w K mg base c.nm "accepted" "accepted_names"
  one2 : PolyP P w K mg base c.nt "one" "inner"
  one3 : PolyP P w K mg base c.bo "one" "first"
  one4 : PolyP P w K mg base c.ei "one" "first"
  oth3 : PolyP P w K mg base c.bo "other" "second"
  oth4 : PolyP P w K mg base c.ei "other" "second"
theorem btw_shaped {z : Str} {lo hi : Int} (g : (Md.btw z lo hi).good) : SeqAt.shaped (.tuple [.str z, .int lo, .int hi]) = true := lay_list (ds := [.str z, .int lo, .int hi]) fun d hd => by
  obtain ⟨g1, g2, g3, g4⟩ := g
  rcases List.mem_cons.mp hd with rfl | hd
  · exact name_lay g1
  · rcases List.mem_cons.mp hd with rfl | hd
    · exact int_lay g2 (by omega)
    · rw [List.mem_singleton.mp hd]
      exact int_lay (by omega) g4
theorem btw_eqv (z : Str) (lo hi : Int) : PyData.eqv (.tuple [.str z, .int lo, .int hi]) (.tuple [.str z, .int lo, .int hi]) = true := by
  show (PyData.eqv (.str z) (.str z) && (PyData.eqv (.int lo) (.int lo) && (PyData.eqv (.int hi) (.int hi) && PyData.eqvAll [] []))) = true
  simp [PyData.eqv, PyData.eqvAll]
theorem nam_eqv (zs : List Str) : PyData.eqv (.tuple (zs.map PyData.str)) (.tuple (zs.map PyData.str)) = true := by
  show PyData.eqvAll _ _ = true
  rw [eqv_strs]
  exact decide_eq_true rfl
def spParts (c : Cs) (d : Nat) : Sp := fun vs H Q _ => ∃ (b t a : Addr) (n : Nat) (m : Md), vs = [.ref b, .ref t, .ref a] ∧ BoxAt H b n ∧ n + m.pc ≤ 80000 ∧ MdAt H t m ∧ CoAt c H a m ∧ m.good ∧ m.leaves ≤ 6 ∧ m.depth ≤ 5 ∧ m.depth ≤ d ∧ m.names ≤ 8 ∧
  ∀ H', BoxAt H' b (n + m.pc) → But b H H' → Q (.bl true) H'
section
variable {P : Program} {w : World} {K : PySem.W.Frag} {mg : Str → Option Value} {base : Heap} {c : Cs} {D : Addr}
theorem ok_parts {f fB fK : Addr} {fd fdB fdK : FuncData} (F : Fun K "_law_parts_right" "_law_parts_right" sParts f fd) (bF : Binds K fd ["_law_box_here", "_law_model_here", "_law_condition"] []) (gF : mg "_law_parts_right" = some (.ref f))
    (GB : FnOk P w K mg base CX0 11 fB fdB ["_law_box_here", "_law_model_here"] (spBuilt c 5)) (gB : mg "_law_built" = some (.ref fB)) (kB : PySem.W.keepIn K (.ref fB) = true) (bB : Binds K fdB ["_law_box_here", "_law_model_here"] [])
    (GK : FnOk P w K mg base CX0 1 fK fdK ["_law_model_here", "_law_condition"] (spKinds c)) (gK : mg "_law_classes_right" = some (.ref fK)) (kK : PySem.W.keepIn K (.ref fK) = true) (bK : Binds K fdK ["_law_model_here", "_law_condition"] [])
    (AE : EqAll P w K mg base c 6 5) (PO : PropsOk P w K mg base c) :
    ∀ d, FnOk P w K mg base CX0 (d + 12) f fd ["_law_box_here", "_law_model_here", "_law_condition"] (spParts c d)
  | 0 => fn_none fun vs H Q E h => by
    obtain ⟨b, t, a, n, m, _, _, _, _, _, _, _, _, h0, _⟩ := h
    have := m.depth_pos
    omega
  | d + 1 => by
    have GR := ok_parts F bF gF GB gB kB bB GK gK kK bK AE PO d
    refine F.ok scParts (fun vs H Q E h => ?_) (fun cdv A outer s H vs Q E hr h => ?_)
    · obtain ⟨b, t, a, n, m, rfl, _⟩ := h
      rfl
    · obtain ⟨b, t, a, n, m, rfl, B, hn, hm, hc, hg, h6, h5, hd, h8, q⟩ := h
      have hr1 := hr.mono (show 1 ≤ d + 12 by omega)
      have hr2 := hr.mono (show 2 ≤ d + 12 by omega)
      have hr6 := hr.mono (show 6 ≤ d + 12 by omega)
      have hr11 := hr.mono (show 11 ≤ d + 12 by omega)
      refine ⟨_, pss_cons (ps_if (pt_not (pt_val (pe_call GK hr1 rfl gK kK bK .nil pass0 (pa_cons (pv 1) (pa_cons (pv 2) pa_nil))))) (pss_one (ps_ret pe_bl)) pss_nil)
        (pss_cons (ps_if (pt_cmpR op_eq (pe_ix ix_tup (pv 1) pe_int (fun _ _ => rfl)) pe_str (nomark _)) (pss_one (ps_ret (pe_cmpR (op_eqD hr.units) (pe_tup (pa_cons (pe_propV (pv 2) hr2 rfl) (pa_cons (pe_propV (pv 2) hr2 rfl) (pa_cons (pe_propV (pv 2) hr2 rfl) pa_nil)))) (pe_slice sl_tup (pv 1) (po_some pe_int) po_none) (nomark _)))) pss_nil)
        (pss_cons (ps_if (pt_cmpR op_eq (pe_ix ix_tup (pv 1) pe_int (fun _ _ => rfl)) pe_str (nomark _)) (pss_one (ps_ret (pe_cmpR (op_eqD hr.units) (pe_propV (pv 2) hr2 rfl) (pe_slice sl_tup (pv 1) (po_some pe_int) po_none) (nomark _)))) pss_nil)
        (pss_cons (ps_if (PW.pt (pw_or (pt_not (pt_val (pe_call GR hr rfl gF F.kp bF .nil pass0 (pa_cons (pv 0) (pa_cons (pe_ix ix_tup (pv 1) pe_int (fun _ _ => rfl)) (pa_cons (pe_propV (pv 2) hr2 rfl) pa_nil))))))
            (pw_or1 (pt_not (pt_cmpR (op_eqM (d := 5) AE hr6) (pe_propV (pv 2) hr2 rfl) (pe_call GB hr11 rfl gB kB bB .nil pass0 (pa_cons (pv 0) (pa_cons (pe_ix ix_tup (pv 1) pe_int (fun _ _ => rfl)) pa_nil))) (nomark _)))))) (pss_one (ps_ret pe_bl)) pss_nil)
        (pss_one (ps_ret (pe_or (pe_cmpR op_eq (pe_ix ix_tup (pv 1) pe_int (fun _ _ => rfl)) pe_str (nomark _)) (pe_one (pe_call GR hr rfl gF F.kp bF .nil pass0 (pa_cons (pv 0) (pa_cons (pe_ix ix_tup (pv 1) pe_int (fun _ _ => rfl)) (pa_cons (pe_propV (pv 2) hr2 rfl) pa_nil))))))))))), ?_⟩
      refine ⟨_, rfl, _, rfl, t, a, m, rfl, hm, hc, fun H1 s1 => ⟨_, rfl, iteF ?_⟩⟩
      have B1 := B.same s1
      have hm1 := hm.same s1
      have hc1 := hc.same s1
      have k1 : But b H H1 := But.same s1
      cases m with
      | btw z lo hi =>
        have e : H1 t = some (.tup [.str "between", .str z, .int lo, .int hi]) := hm1
        obtain ⟨dx, ea⟩ := hc1
        refine ⟨_, rfl, t, _, 0, _, rfl, rfl, .of e, rfl, rfl, _, rfl, ifY (self_eq _) ?_⟩
        refine ⟨_, rfl, a, _, dx, _, _, _, rfl, ea, PO.field, rfl, _, rfl, a, _, dx, _, _, _, rfl, ea, PO.low, rfl, _, rfl, a, _, dx, _, _, _, rfl, ea, PO.high, rfl, (by show 3 ≤ sizeLine; decide), fun p hp => ?_⟩
        refine ⟨_, rfl, _, rfl, t, _, rfl, .of (Same.new hp _ _ e), not_whole _ _, fun p2 hp2 => ?_⟩
        rw [cut_tail]
        have s3 := (Same.new (o := .tup [.str z, .int lo, .int hi]) hp).trans (Same.new (o := .tup [.str z, .int lo, .int hi]) hp2)
        refine ⟨.tuple [.str z, .int lo, .int hi], .tuple [.str z, .int lo, .int hi], .tup (.of (Same.new hp2 _ _ upd_same)) (.cons (.str z) (.cons (.int lo) (.cons (.int hi) .nil))), .tup (.of upd_same) (.cons (.str z) (.cons (.int lo) (.cons (.int hi) .nil))), btw_shaped hg, btw_shaped hg, ?_⟩
        rw [btw_eqv]
        exact q _ (B1.same s3) (k1.trans (But.same s3))
      | nam zs =>
        have e : H1 t = some (.tup (.str "named" :: zs.map V.str)) := hm1
        obtain ⟨ta, dx, ea, eta⟩ := hc1
        refine ⟨_, rfl, t, _, ((0 : Nat) : Int), .str "named", rfl, rfl, .of e, atI_nat (j := 0) rfl, rfl, _, rfl, ifN nm_bt ?_⟩
        refine ⟨_, rfl, t, _, ((0 : Nat) : Int), .str "named", rfl, rfl, .of e, atI_nat (j := 0) rfl, rfl, _, rfl, ifY (self_eq _) ?_⟩
        refine ⟨_, rfl, a, _, dx, _, _, _, rfl, ea, PO.acc, rfl, _, rfl, _, rfl, t, _, rfl, .of e, not_whole _ _, fun p hp => ?_⟩
        rw [cut_tail]
        have s3 := Same.new (o := .tup (zs.map V.str)) hp
        refine ⟨.tuple (zs.map PyData.str), .tuple (zs.map PyData.str), .tup (.of (s3 _ _ eta)) (dp_strs zs), .tup (.of upd_same) (dp_strs zs), names_shaped hg, names_shaped hg, ?_⟩
        rw [nam_eqv]
        exact q _ (B1.same s3) (k1.trans (But.same s3))
      | neg m1 =>
        obtain ⟨u, e, hu⟩ : ∃ u, H1 t = some (.tup [.str "not", .ref u]) ∧ MdAt H1 u m1 := hm1
        obtain ⟨p1, dx, ea, hp1⟩ : ∃ p dx, H1 a = some (.ins c.nt dx (negFs m1.leaves (m1.depth + 1) m1.names p)) ∧ CoAt c H1 p m1 := hc1
        have hs : n + (m1.pc + m1.size) ≤ 80000 := hn
        have hd5 : m1.depth + 1 ≤ 5 := h5
        have hdd : m1.depth + 1 ≤ d + 1 := hd
        have hz := Md.size_31 (m := m1) (by omega)
        refine ⟨_, rfl, t, _, 0, _, rfl, rfl, .of e, rfl, rfl, _, rfl, ifN nt_bt ?_⟩
        refine ⟨_, rfl, t, _, 0, _, rfl, rfl, .of e, rfl, rfl, _, rfl, ifN nt_nm ?_⟩
        refine ⟨_, rfl, _, rfl, t, _, 1, _, rfl, rfl, .of e, rfl, _, rfl, a, _, dx, _, _, _, rfl, ea, PO.one2, rfl, b, u, p1, n, m1, rfl, B1, by omega, hu, hp1, hg, h6, by omega, by omega, h8, fun H2 B2 k2 => ⟨_, rfl, iteF ?_⟩⟩
        have s2 := SK.of_but B1 k2
        have e2 := s2 _ _ e rfl
        have ea2 := s2 _ _ ea rfl
        refine ⟨_, rfl, a, _, dx, _, _, _, rfl, ea2, PO.one2, rfl, _, rfl, _, rfl, t, _, 1, _, rfl, rfl, .of e2, rfl, b, u, n + m1.pc, m1, rfl, B2, by omega, hu.sk s2, hg, h6, by omega, by omega, h8, fun r H3 cr B3 k3 => ?_⟩
        have s3 := s2.trans (SK.of_but B2 k3)
        have e3 := s3 _ _ e rfl
        refine ⟨p1, m1, some m1, rfl, hp1.sk s3, by omega, hg, fun z ez => (by cases ez; exact hg), .co cr, _, rfl, ?_⟩
        rw [show eqM m1 (some m1) = true from Md.eqb_self m1]
        refine iteF ?_
        exact ⟨_, rfl, t, _, 0, _, rfl, rfl, .of e3, rfl, rfl, _, rfl, ifY (self_eq _) (q H3 (B3.mono (by show n + m1.pc + m1.size ≤ n + (m1.pc + m1.size); omega)) (k1.trans (k2.trans k3)))⟩
      | both m1 m2 =>
        obtain ⟨u, v, e, hu, hv⟩ : ∃ u v, H1 t = some (.tup [.str "both", .ref u, .ref v]) ∧ MdAt H1 u m1 ∧ MdAt H1 v m2 := hm1
        obtain ⟨p1, p2, dx, ea, hp1, hp2⟩ : ∃ p q dx, H1 a = some (.ins c.bo dx (pairFs (m1.leaves + m2.leaves) (max m1.depth m2.depth + 1) (m1.names + m2.names) p q)) ∧ CoAt c H1 p m1 ∧ CoAt c H1 q m2 := hc1
        have hs : n + (m1.pc + m1.size + m2.pc) ≤ 80000 := hn
        have hd5 : max m1.depth m2.depth + 1 ≤ 5 := h5
        have hdd : max m1.depth m2.depth + 1 ≤ d + 1 := hd
        have hl : m1.leaves + m2.leaves ≤ 6 := h6
        have hk : m1.names + m2.names ≤ 8 := h8
        have hz := Md.size_31 (m := m1) (by omega)
        refine ⟨_, rfl, t, _, 0, _, rfl, rfl, .of e, rfl, rfl, _, rfl, ifN bo_bt ?_⟩
        refine ⟨_, rfl, t, _, 0, _, rfl, rfl, .of e, rfl, rfl, _, rfl, ifN bo_nm ?_⟩
        refine ⟨_, rfl, _, rfl, t, _, 1, _, rfl, rfl, .of e, rfl, _, rfl, a, _, dx, _, _, _, rfl, ea, PO.one3, rfl, b, u, p1, n, m1, rfl, B1, by omega, hu, hp1, hg.1, by omega, by omega, by omega, by omega, fun H2 B2 k2 => ⟨_, rfl, iteF ?_⟩⟩
        have s2 := SK.of_but B1 k2
        have e2 := s2 _ _ e rfl
        have ea2 := s2 _ _ ea rfl
        refine ⟨_, rfl, a, _, dx, _, _, _, rfl, ea2, PO.one3, rfl, _, rfl, _, rfl, t, _, 1, _, rfl, rfl, .of e2, rfl, b, u, n + m1.pc, m1, rfl, B2, by omega, hu.sk s2, hg.1, by omega, by omega, by omega, by omega, fun r H3 cr B3 k3 => ?_⟩
        have s3 := s2.trans (SK.of_but B2 k3)
        have e3 := s3 _ _ e rfl
        have ea3 := s3 _ _ ea rfl
        refine ⟨p1, m1, some m1, rfl, hp1.sk s3, by omega, hg.1, fun z ez => (by cases ez; exact hg.1), .co cr, _, rfl, ?_⟩
        rw [show eqM m1 (some m1) = true from Md.eqb_self m1]
        refine iteF ?_
        refine ⟨_, rfl, t, _, 0, _, rfl, rfl, .of e3, rfl, rfl, _, rfl, ifN bo_nt ?_⟩
        exact ⟨_, rfl, _, rfl, t, _, 2, _, rfl, rfl, .of e3, rfl, _, rfl, a, _, dx, _, _, _, rfl, ea3, PO.oth3, rfl, b, v, p2, n + m1.pc + m1.size, m2, rfl, B3, by omega, hv.sk s3, hp2.sk s3, hg.2, by omega, by omega, by omega, by omega,
          fun H4 B4 k4 => q H4 (B4.mono (by show n + m1.pc + m1.size + m2.pc ≤ n + (m1.pc + m1.size + m2.pc); omega)) (k1.trans (k2.trans (k3.trans k4)))⟩
      | eith m1 m2 =>
        obtain ⟨u, v, e, hu, hv⟩ : ∃ u v, H1 t = some (.tup [.str "either", .ref u, .ref v]) ∧ MdAt H1 u m1 ∧ MdAt H1 v m2 := hm1
        obtain ⟨p1, p2, dx, ea, hp1, hp2⟩ : ∃ p q dx, H1 a = some (.ins c.ei dx (pairFs (m1.leaves + m2.leaves) (max m1.depth m2.depth + 1) (m1.names + m2.names) p q)) ∧ CoAt c H1 p m1 ∧ CoAt c H1 q m2 := hc1
        have hs : n + (m1.pc + m1.size + m2.pc) ≤ 80000 := hn
        have hd5 : max m1.depth m2.depth + 1 ≤ 5 := h5
        have hdd : max m1.depth m2.depth + 1 ≤ d + 1 := hd
        have hl : m1.leaves + m2.leaves ≤ 6 := h6
        have hk : m1.names + m2.names ≤ 8 := h8
        have hz := Md.size_31 (m := m1) (by omega)
        refine ⟨_, rfl, t, _, 0, _, rfl, rfl, .of e, rfl, rfl, _, rfl, ifN ei_bt ?_⟩
        refine ⟨_, rfl, t, _, 0, _, rfl, rfl, .of e, rfl, rfl, _, rfl, ifN ei_nm ?_⟩
        refine ⟨_, rfl, _, rfl, t, _, 1, _, rfl, rfl, .of e, rfl, _, rfl, a, _, dx, _, _, _, rfl, ea, PO.one4, rfl, b, u, p1, n, m1, rfl, B1, by omega, hu, hp1, hg.1, by omega, by omega, by omega, by omega, fun H2 B2 k2 => ⟨_, rfl, iteF ?_⟩⟩
        have s2 := SK.of_but B1 k2
        have e2 := s2 _ _ e rfl
        have ea2 := s2 _ _ ea rfl
        refine ⟨_, rfl, a, _, dx, _, _, _, rfl, ea2, PO.one4, rfl, _, rfl, _, rfl, t, _, 1, _, rfl, rfl, .of e2, rfl, b, u, n + m1.pc, m1, rfl, B2, by omega, hu.sk s2, hg.1, by omega, by omega, by omega, by omega, fun r H3 cr B3 k3 => ?_⟩
        have s3 := s2.trans (SK.of_but B2 k3)
        have e3 := s3 _ _ e rfl
        have ea3 := s3 _ _ ea rfl
        refine ⟨p1, m1, some m1, rfl, hp1.sk s3, by omega, hg.1, fun z ez => (by cases ez; exact hg.1), .co cr, _, rfl, ?_⟩
        rw [show eqM m1 (some m1) = true from Md.eqb_self m1]
        refine iteF ?_
        refine ⟨_, rfl, t, _, 0, _, rfl, rfl, .of e3, rfl, rfl, _, rfl, ifN ei_nt ?_⟩
        exact ⟨_, rfl, _, rfl, t, _, 2, _, rfl, rfl, .of e3, rfl, _, rfl, a, _, dx, _, _, _, rfl, ea3, PO.oth4, rfl, b, v, p2, n + m1.pc + m1.size, m2, rfl, B3, by omega, hv.sk s3, hp2.sk s3, hg.2, by omega, by omega, by omega, by omega,
          fun H4 B4 k4 => q H4 (B4.mono (by show n + m1.pc + m1.size + m2.pc ≤ n + (m1.pc + m1.size + m2.pc); omega)) (k1.trans (k2.trans (k3.trans k4)))⟩
end
end G
set_option Elab.async false
set_option linter.all false
set_option maxRecDepth 100000
set_option maxHeartbeats 8000000
/-! F6: another model: the same, or one thing otherwise. -/
namespace G
open PySem PySem.Spec PyProof.Rows L2 NdefX StX
abbrev sOther : Stmt := topS 61
abbrev nOther : List Str := ["_law_box_here", "_law_model_here", "_law_fields", "_law_names_here", "_law_way", "_law_word", "_law_at", "_law_part"]
theorem scOther : FnScope nOther ["_law_box_here", "_law_model_here", "_law_fields", "_law_names_here"] (defScope sOther) := ⟨rfl, rfl, rfl, by decide +kernel, rfl, by decide +kernel, by decide +kernel⟩
theorem Md.leaves_pos : ∀ m : Md, 1 ≤ m.leaves
  | .btw _ _ _ => Nat.le_refl _
  | .nam _ => Nat.le_refl _
  | .neg m => m.leaves_pos
  | .both a b => Nat.le_trans a.leaves_pos (Nat.le_add_right _ _)
  | .eith a b => Nat.le_trans a.leaves_pos (Nat.le_add_right _ _)
abbrev swapD : List (Key × V) := mergeK [] [(Sum.inr "both", .str "either"), (Sum.inr "either", .str "both")]
theorem val_bo : valV swapD (Sum.inr "both") = some (.str "either") := by decide +kernel
theorem val_ei : valV swapD (Sum.inr "either") = some (.str "both") := by decide +kernel
theorem word_bo {H : Hp} {p : Addr} (e : H p = some (.dK swapD)) : DGet H p (.str "both") (some (.str "either")) := by
  rw [← val_bo]
  exact DGet.k (k := Sum.inr "both") e
theorem word_ei {H : Hp} {p : Addr} (e : H p = some (.dK swapD)) : DGet H p (.str "either") (some (.str "both")) := by
  rw [← val_ei]
  exact DGet.k (k := Sum.inr "either") e
def spOther (d : Nat) : Sp := fun vs H Q _ => ∃ (b t fl nl : Addr) (n : Nat) (m : Md) (fs ns : List Str), vs = [.ref b, .ref t, .ref fl, .ref nl] ∧ BoxAt H b n ∧ n + 13 * d ≤ 80000 ∧ MdAt H t m ∧ m.good ∧ m.names ≤ 50 ∧ Nm H fl fs ∧ Nm H nl ns ∧ m.depth ≤ d ∧
  ∀ t' m' H', MdAt H' t' m' → m'.good → m'.leaves ≤ m.leaves → m'.depth ≤ m.depth → m'.names ≤ m.names + 2 → BoxAt H' b (n + 13 * d) → But b H H' → Q (.ref t') H'
section
variable {P : Program} {w : World} {K : PySem.W.Frag} {mg : Str → Option Value} {base : Heap}
theorem ok_other {f fT fL : Addr} {fd fdT fdL : FuncData} (F : Fun K "_law_other" "_law_other" sOther f fd) (bF : Binds K fd ["_law_box_here", "_law_model_here", "_law_fields", "_law_names_here"] []) (gF : mg "_law_other" = some (.ref f))
    (T : Fun K "_law_take" "_law_take" sTake fT fdT) (bT : Binds K fdT ["_law_box_here", "_law_many"] []) (gT : mg "_law_take" = some (.ref fT))
    (GL : FnOk P w K mg base CX0 3 fL fdL ["_law_box_here", "_law_fields", "_law_names_here"] spLeaf) (gL : mg "_law_leaf" = some (.ref fL)) (kL : PySem.W.keepIn K (.ref fL) = true) (bL : Binds K fdL ["_law_box_here", "_law_fields", "_law_names_here"] []) :
    ∀ d, FnOk P w K mg base CX0 (d + 4) f fd ["_law_box_here", "_law_model_here", "_law_fields", "_law_names_here"] (spOther d)
  | 0 => fn_none fun vs H Q E h => by
    obtain ⟨b, t, fl, nl, n, m, fs, ns, _, _, _, _, _, _, _, _, h0, _⟩ := h
    have := m.depth_pos
    omega
  | d + 1 => by
    have GR := ok_other F bF gF T bT gT GL gL kL bL d
    have GT : FnOk P w K mg base CX0 1 fT fdT ["_law_box_here", "_law_many"] spTake := ok_take T
    refine F.ok scOther (fun vs H Q E h => ?_) (fun cdv A outer s H vs Q E hr h => ?_)
    · obtain ⟨b, t, fl, nl, n, m, fs, ns, rfl, _⟩ := h
      rfl
    · obtain ⟨b, t, fl, nl, n, m, fs, ns, rfl, B, hn, hm, hg, h50, F1, N1, hd, q⟩ := h
      have hu := hu_of hr
      have hr1 := hr.mono (show 1 ≤ d + 4 by omega)
      have hr3 := hr.mono (show 3 ≤ d + 4 by omega)
      refine ⟨_, pss_cons (ps_set (i := 4) scOther.nd rfl (.inl rfl) (pe_call GT hr1 rfl gT T.kp bT .nil pass0 (pa_cons (pv 0) (pa_cons pe_int pa_nil))))
        (pss_cons (ps_if (pt_cmpR op_eq (pv 4) pe_int (nomark _)) (pss_one (ps_ret (pv 1))) pss_nil)
        (pss_cons (ps_if (PW.pt (pw_and (pt_cmpR op_eq (pe_ix ix_tup (pv 1) pe_int (fun _ _ => rfl)) pe_str (nomark _)) (pw_and1 (pt_cmpR op_eq (pv 4) pe_int (nomark _)))))
          (pss_one (ps_ret (pe_ix ix_list (pe_lst (pa_cons (pe_op op_catA (pe_tup (pa_cons pe_str pa_nil)) (pe_back (pv 1) (po_some pe_int) (po_some (pe_un un_neg pe_int))))
            (pa_cons (pe_op op_catA (pv 1) (pe_slice sl_tupA (pv 1) (po_some pe_int) (po_some pe_int))) (pa_cons (pe_slice sl_tupA (pv 1) po_none (po_some pe_int)) pa_nil)))) (pe_call GT hr1 rfl gT T.kp bT .nil pass0 (pa_cons (pv 0) (pa_cons pe_int pa_nil))) (fun _ _ => rfl)))) pss_nil)
        (pss_cons (ps_if (PW.pt (pw_or (pt_cmpR op_in_seq (pe_ix ix_tup (pv 1) pe_int (fun _ _ => rfl)) (pe_tup (pa_cons pe_str (pa_cons pe_str pa_nil))) (by rfl)) (pw_or1 (pt_cmpR op_eq (pv 4) pe_int (nomark _)))))
          (pss_one (ps_ret (pe_ifExp (pt_cmpR op_lt (pv 4) pe_int (nomark _)) (pe_call GL hr3 rfl gL kL bL .nil pass0 (pa_cons (pv 0) (pa_cons (pv 2) (pa_cons (pv 3) pa_nil)))) (pv 1)))) pss_nil)
        (pss_cons (ps_if (pt_cmpR op_eq (pe_ix ix_tup (pv 1) pe_int (fun _ _ => rfl)) pe_str (nomark _))
          (pss_one (ps_ret (pe_tup (pa_cons pe_str (pa_cons (pe_call GR hr rfl gF F.kp bF .nil pass0 (pa_cons (pv 0) (pa_cons (pe_ix ix_tup (pv 1) pe_int (fun _ _ => rfl)) (pa_cons (pv 2) (pa_cons (pv 3) pa_nil))))) pa_nil))))) pss_nil)
        (pss_cons (ps_if (pt_cmpR op_eq (pv 4) pe_int (nomark _))
          (pss_cons (ps_set (i := 5) scOther.nd rfl (.inl rfl) (pe_dget hu (pe_disp (pps_cons pe_str pe_str (pps_cons pe_str pe_str pps_nil)) (by rfl) (by rfl) (fun z => by cases z) (by decide)) (pe_ix ix_tup (pv 1) pe_int (fun _ _ => rfl)) (fun _ _ => rfl)))
            (pss_one (ps_ret (pe_ix ix_list (pe_lst (pa_cons (pe_tup (pa_cons (pe_ix ix_tup (pv 1) pe_int (fun _ _ => rfl)) (pa_cons (pe_ix ix_tup (pv 1) pe_int (fun _ _ => rfl)) (pa_cons (pe_ix ix_tup (pv 1) pe_int (fun _ _ => rfl)) pa_nil)))) (pa_cons (pe_tup (pa_cons (pv 5) (pa_cons (pe_ix ix_tup (pv 1) pe_int (fun _ _ => rfl)) (pa_cons (pe_ix ix_tup (pv 1) pe_int (fun _ _ => rfl)) pa_nil)))) pa_nil))) (pe_call GT hr1 rfl gT T.kp bT .nil pass0 (pa_cons (pv 0) (pa_cons pe_int pa_nil))) (fun _ _ => rfl))))) pss_nil)
        (pss_cons (ps_set (i := 6) scOther.nd rfl (.inl rfl) (pe_op op_add pe_int (pe_call GT hr1 rfl gT T.kp bT .nil pass0 (pa_cons (pv 0) (pa_cons pe_int pa_nil)))))
        (pss_cons (ps_set (i := 7) scOther.nd rfl (.inl rfl) (pe_call GR hr rfl gF F.kp bF .nil pass0 (pa_cons (pv 0) (pa_cons (pe_ix ix_tup (pv 1) (pv 6) (fun _ _ => rfl)) (pa_cons (pv 2) (pa_cons (pv 3) pa_nil))))))
        (pss_one (ps_ret (pe_op op_catA (pe_op op_catA (pe_slice sl_tupA (pv 1) po_none (po_some (pv 6))) (pe_tup (pa_cons (pv 7) pa_nil))) (pe_slice sl_tupA (pv 1) (po_some (pe_op op_add (pv 6) pe_int)) po_none))))))))))), ?_⟩
      refine ⟨_, rfl, b, 4, n, rfl, B, by omega, by decide, by decide, fun way H1 w0 w1 B1 k1 => ?_⟩
      have hm1 := hm.sk (SK.of_but B k1)
      have F2 := F1.but B k1
      have N2 := N1.but B k1
      refine ⟨_, rfl, rfl, _, rfl, ite2 (fun _ => ⟨_, rfl, q t m H1 hm1 hg (Nat.le_refl _) (Nat.le_refl _) (Nat.le_add_right _ _) (B1.mono (by omega)) k1⟩) (fun _ => ?_)⟩
      cases m with
      | btw z lo hi =>
        have e : H1 t = some (.tup [.str "between", .str z, .int lo, .int hi]) := hm1
        refine ⟨_, rfl, t, _, 0, _, rfl, rfl, .of e, rfl, rfl, _, rfl, ifN (by decide +kernel) ?_⟩
        refine ⟨_, rfl, t, _, ((0 : Nat) : Int), .str "between", rfl, rfl, .of e, atI_nat (j := 0) rfl, (by show 2 ≤ sizeLine; decide), fun p hp => ⟨p, _, rfl, .inr (.of upd_same), rfl, rfl, _, rfl, ifY (by decide +kernel) ?_⟩⟩
        have s2 := Same.new (o := .tup [.str "between", .str "named"]) hp
        exact ⟨_, rfl, _, _, rfl, rfl, _, rfl, ite2 (fun _ => ⟨_, rfl, _, rfl, _, rfl, b, fl, nl, n + 1, fs, ns, rfl, (B1.same s2), by omega, (F2.same s2), (N2.same s2), fun t' m' H' hm' g' l' d' n' B' k' => q t' m' H' hm' g' (by rw [l']; exact Md.leaves_pos _) (by rw [d']; exact Md.depth_pos _) (Nat.le_trans n' (Nat.le_add_left _ _)) (B'.mono (by omega)) ((k1.trans (But.same s2)).trans k')⟩) (fun _ => ⟨_, rfl, q t _ _ (hm1.same s2) hg (Nat.le_refl _) (Nat.le_refl _) (Nat.le_add_right _ _) ((B1.same s2).mono (by omega)) (k1.trans (But.same s2))⟩)⟩
      | nam zs =>
        have e : H1 t = some (.tup (.str "named" :: zs.map V.str)) := hm1
        have zl : zs.length ≤ 50 := h50
        refine ⟨_, rfl, t, _, ((0 : Nat) : Int), .str "named", rfl, rfl, .of e, atI_nat (j := 0) rfl, rfl, _, rfl, ifY (self_eq _) ⟨_, rfl, rfl, _, rfl, ite2 (fun _ => ?_) (fun _ => ?_)⟩⟩
        · refine ⟨(by show 1 ≤ sizeLine; decide), fun p1 n1 => ?_⟩
          have s2 := Same.new (o := .tup [.str "named"]) n1
          refine ⟨_, rfl, _, rfl, _, rfl, _, rfl, t, _, _, rfl, .of (s2 _ _ e), rfl, rfl, fun p2 n2 => ?_⟩
          have s3 := Same.new (o := .tup (zs.map V.str).reverse) n2
          refine catA_go (s3 _ _ upd_same) upd_same ?_ fun r1 H4 s4 e4 => ?_
          · rw [List.length_reverse, List.length_map]
            exact small_size (by show 1 + zs.length ≤ 7000; omega)
          have s14 := (s2.trans s3).trans s4
          refine ⟨_, rfl, _, rfl, _, rfl, _, rfl, slA_go (s14 _ _ e) fun r2 H5 s5 e5 => ?_⟩
          rw [cutV_one] at e5
          refine catA_go (s5 _ _ (s14 _ _ e)) e5 ?_ fun r3 H6 s6 e6 => ?_
          · rw [List.length_cons, List.length_take, List.length_map]
            exact small_size (by omega)
          refine ⟨_, rfl, _, rfl, slA_go (s6 _ _ (s5 _ _ (s14 _ _ e))) fun r4 H7 s7 e7 => ⟨(by show 3 ≤ sizeLine; decide), fun pl hpl => ?_⟩⟩
          rw [show ((2 : Int)) = ((2 : Nat) : Int) from rfl, cutV_first2] at e7
          have s8 := Same.new (o := .lst [.ref r1, .ref r3, .ref r4]) hpl
          have s18 := (((s14.trans s5).trans s6).trans s7).trans s8
          have B8 := B1.same s18
          refine ⟨_, rfl, b, 3, n + 1, rfl, B8, by omega, by decide, by decide, fun r H9 r0 r1' B9 k9 => ?_⟩
          obtain ⟨j, rfl, hj⟩ := draw_at (n := 3) r0 r1' rfl
          have el := k9 _ _ (box_ne (B1.same (((s14.trans s5).trans s6).trans s7)) hpl) upd_same
          have sk := SK.of_but B8 k9
          have k09 := (k1.trans (But.same s18)).trans k9
          match j, hj with
          | 0, _ =>
            refine ⟨pl, _, _, .ref r1, rfl, rfl, .of el, atI_nat (j := 0) rfl, q r1 (.nam zs.reverse) H9 ?_ (fun z hz => hg z (List.mem_reverse.mp hz)) (Nat.le_refl _) (Nat.le_refl _) (by show zs.reverse.length ≤ zs.length + 2; rw [List.length_reverse]; omega) (B9.mono (by omega)) k09⟩
            have z := sk _ _ (s8 _ _ (s7 _ _ (s6 _ _ (s5 _ _ e4)))) rfl
            show H9 r1 = some (.tup (.str "named" :: zs.reverse.map V.str))
            rw [z, List.map_reverse]
            rfl
          | 1, _ =>
            refine ⟨pl, _, _, .ref r3, rfl, rfl, .of el, atI_nat (j := 1) rfl, q r3 (.nam (zs ++ zs.take 1)) H9 ?_ (fun z hz => (List.mem_append.mp hz).elim (hg z) fun h => hg z (List.mem_of_mem_take h)) (Nat.le_refl _) (Nat.le_refl _) (by show (zs ++ zs.take 1).length ≤ zs.length + 2; rw [List.length_append, List.length_take]; omega) (B9.mono (by omega)) k09⟩
            have z := sk _ _ (s8 _ _ (s7 _ _ e6)) rfl
            show H9 r3 = some (.tup (.str "named" :: (zs ++ zs.take 1).map V.str))
            rw [z, List.map_append, List.map_take]
            rfl
          | 2, _ =>
            refine ⟨pl, _, _, .ref r4, rfl, rfl, .of el, atI_nat (j := 2) rfl, q r4 (.nam (zs.take 1)) H9 ?_ (fun z hz => hg z (List.mem_of_mem_take hz)) (Nat.le_refl _) (Nat.le_refl _) (by show (zs.take 1).length ≤ zs.length + 2; rw [List.length_take]; omega) (B9.mono (by omega)) k09⟩
            have z := sk _ _ (s8 _ _ e7) rfl
            show H9 r4 = some (.tup (.str "named" :: (zs.take 1).map V.str))
            rw [z, List.map_take]
            rfl
        refine ⟨_, rfl, t, _, ((0 : Nat) : Int), .str "named", rfl, rfl, .of e, atI_nat (j := 0) rfl, (by show 2 ≤ sizeLine; decide), fun p hp => ⟨p, _, rfl, .inr (.of upd_same), rfl, rfl, _, rfl, ifY (by decide +kernel) ?_⟩⟩
        have s2 := Same.new (o := .tup [.str "between", .str "named"]) hp
        exact ⟨_, rfl, _, _, rfl, rfl, _, rfl, ite2 (fun _ => ⟨_, rfl, _, rfl, _, rfl, b, fl, nl, n + 1, fs, ns, rfl, (B1.same s2), by omega, (F2.same s2), (N2.same s2), fun t' m' H' hm' g' l' d' n' B' k' => q t' m' H' hm' g' (by rw [l']; exact Md.leaves_pos _) (by rw [d']; exact Md.depth_pos _) (Nat.le_trans n' (Nat.le_add_left _ _)) (B'.mono (by omega)) ((k1.trans (But.same s2)).trans k')⟩) (fun _ => ⟨_, rfl, q t _ _ (hm1.same s2) hg (Nat.le_refl _) (Nat.le_refl _) (Nat.le_add_right _ _) ((B1.same s2).mono (by omega)) (k1.trans (But.same s2))⟩)⟩
      | neg m1 =>
        have hm0 := hm1
        obtain ⟨u, e, hu'⟩ : ∃ u, H1 t = some (.tup [.str "not", .ref u]) ∧ MdAt H1 u m1 := hm1
        have hdd : m1.depth + 1 ≤ d + 1 := hd
        refine ⟨_, rfl, t, _, 0, _, rfl, rfl, .of e, rfl, rfl, _, rfl, ifN nt_nm ?_⟩
        refine ⟨_, rfl, t, _, 0, _, rfl, rfl, .of e, rfl, (by show 2 ≤ sizeLine; decide), fun p hp => ⟨p, _, rfl, .inr (.of upd_same), rfl, rfl, _, rfl, ifN nt_in ?_⟩⟩
        have s2 := Same.new (o := .tup [.str "between", .str "named"]) hp
        have B2 := B1.same s2
        have F3 := F2.same s2
        have N3 := N2.same s2
        have k2 := k1.trans (But.same s2)
        have hm2 := hm0.same s2
        have e2 := s2 _ _ e
        have hu2 := hu'.same s2
        refine ⟨_, rfl, rfl, _, rfl, ite2 (fun _ => ?_) (fun _ => ?_)⟩
        · exact ⟨_, rfl, _, _, rfl, rfl, _, rfl, ite2 (fun _ => ⟨_, rfl, _, rfl, _, rfl, b, fl, nl, n + 1, fs, ns, rfl, B2, by omega, F3, N3, fun t' m' H' hm' g' l' d' n' B' k' => q t' m' H' hm' g' (by rw [l']; exact Md.leaves_pos _) (by rw [d']; exact Md.depth_pos _) (Nat.le_trans n' (Nat.le_add_left _ _)) (B'.mono (by omega)) (k2.trans k')⟩) (fun _ => ⟨_, rfl, q t _ _ hm2 hg (Nat.le_refl _) (Nat.le_refl _) (Nat.le_add_right _ _) (B2.mono (by omega)) k2⟩)⟩
        refine ⟨_, rfl, t, _, 0, _, rfl, rfl, .of e2, rfl, rfl, _, rfl, ifY (self_eq _) ?_⟩
        refine ⟨_, rfl, _, rfl, t, _, 1, _, rfl, rfl, .of e2, rfl, _, rfl, _, rfl, b, u, fl, nl, n + 1, m1, fs, ns, rfl, B2, by omega, hu2, hg, h50, F3, N3, by omega, fun t' m' H3 hm' g' l' d' n' B3 k3 => ⟨(by show 2 ≤ sizeLine; decide), fun p3 n3 => ?_⟩⟩
        have s4 := Same.new (o := .tup [.str "not", .ref t']) n3
        exact q p3 (.neg m') _ ⟨t', upd_same, hm'.same s4⟩ g' l' (Nat.succ_le_succ d') n' ((B3.same s4).mono (by omega)) ((k2.trans k3).trans (But.same s4))
      | both m1 m2 =>
        have hm0 := hm1
        obtain ⟨u, v, e, hu, hv⟩ : ∃ u v, H1 t = some (.tup [.str "both", .ref u, .ref v]) ∧ MdAt H1 u m1 ∧ MdAt H1 v m2 := hm1
        have hdd : max m1.depth m2.depth + 1 ≤ d + 1 := hd
        have hk : m1.names + m2.names ≤ 50 := h50
        refine ⟨_, rfl, t, _, 0, _, rfl, rfl, .of e, rfl, rfl, _, rfl, ifN bo_nm ?_⟩
        refine ⟨_, rfl, t, _, 0, _, rfl, rfl, .of e, rfl, (by show 2 ≤ sizeLine; decide), fun p hp => ⟨p, _, rfl, .inr (.of upd_same), rfl, rfl, _, rfl, ifN bo_in ?_⟩⟩
        have s2 := Same.new (o := .tup [.str "between", .str "named"]) hp
        have B2 := B1.same s2
        have F3 := F2.same s2
        have N3 := N2.same s2
        have k2 := k1.trans (But.same s2)
        have hm2 := hm0.same s2
        have e2 := s2 _ _ e
        have hu2 := hu.same s2
        have hv2 := hv.same s2
        change (upd H1 p (.tup [.str "between", .str "named"])) t = _ at e2
        generalize (upd H1 p (.tup [.str "between", .str "named"])) = H2 at s2 B2 F3 N3 k2 hm2 e2 hu2 hv2 ⊢
        refine ⟨_, rfl, rfl, _, rfl, ite2 (fun _ => ?_) (fun _ => ?_)⟩
        · exact ⟨_, rfl, _, _, rfl, rfl, _, rfl, ite2 (fun _ => ⟨_, rfl, _, rfl, _, rfl, b, fl, nl, n + 1, fs, ns, rfl, B2, by omega, F3, N3, fun t' m' H' hm' g' l' d' n' B' k' => q t' m' H' hm' g' (by rw [l']; exact Md.leaves_pos _) (by rw [d']; exact Md.depth_pos _) (Nat.le_trans n' (Nat.le_add_left _ _)) (B'.mono (by omega)) (k2.trans k')⟩) (fun _ => ⟨_, rfl, q t _ _ hm2 hg (Nat.le_refl _) (Nat.le_refl _) (Nat.le_add_right _ _) (B2.mono (by omega)) k2⟩)⟩
        refine ⟨_, rfl, t, _, 0, _, rfl, rfl, .of e2, rfl, rfl, _, rfl, ifN bo_nt ?_⟩
        refine ⟨_, rfl, rfl, _, rfl, ite2 (fun _ => ?_) (fun _ => ?_)⟩
        · refine fun pd nd => ⟨upd_same, [(Sum.inr "both", .str "either"), (Sum.inr "either", .str "both")], rfl, (by decide), ?_⟩
          have sd : Same H2 (upd (upd H2 pd (.dK [])) pd (.dK (mergeK [] [(Sum.inr "both", .str "either"), (Sum.inr "either", .str "both")]))) := fun a o ea => (upd_ne (ne_of_none ea nd)).trans ((upd_ne (ne_of_none ea nd)).trans ea)
          have ed : (upd (upd H2 pd (.dK [])) pd (.dK (mergeK [] [(Sum.inr "both", .str "either"), (Sum.inr "either", .str "both")]))) pd = some (.dK (mergeK [] [(Sum.inr "both", .str "either"), (Sum.inr "either", .str "both")])) := upd_same
          generalize (upd (upd H2 pd (.dK [])) pd (.dK (mergeK [] [(Sum.inr "both", .str "either"), (Sum.inr "either", .str "both")]))) = H3 at sd ed ⊢
          have e3 := sd _ _ e2
          refine ⟨_, rfl, t, _, 0, _, rfl, rfl, .of e3, rfl, pd, _, rfl, word_bo ed, ?_⟩
          refine ⟨_, rfl, t, _, 0, _, rfl, rfl, .of e3, rfl, _, rfl, t, _, 2, _, rfl, rfl, .of e3, rfl, _, rfl, t, _, 1, _, rfl, rfl, .of e3, rfl, (by show 3 ≤ sizeLine; decide), fun p1 n1 => ?_⟩
          have s4 := Same.new (o := .tup [.str "both", .ref v, .ref u]) n1
          have e4 := s4 _ _ e3
          refine ⟨_, rfl, _, rfl, t, _, 1, _, rfl, rfl, .of e4, rfl, _, rfl, t, _, 2, _, rfl, rfl, .of e4, rfl, (by show 3 ≤ sizeLine; decide), fun p2 n2 => ⟨(by show 2 ≤ sizeLine; decide), fun pl hpl => ?_⟩⟩
          have s5 := Same.new (o := .tup [.str "either", .ref u, .ref v]) n2
          have s6 := Same.new (o := .lst [.ref p1, .ref p2]) hpl
          have s25 := ((sd.trans s4).trans s5).trans s6
          have q1 := s6 _ _ (s5 _ _ (upd_same (H := H3) (a := p1) (o := .tup [.str "both", .ref v, .ref u])))
          have q2 := s6 _ _ (upd_same (H := upd H3 p1 (.tup [.str "both", .ref v, .ref u])) (a := p2) (o := .tup [.str "either", .ref u, .ref v]))
          have B6 := B2.same s25
          refine ⟨_, rfl, b, 2, n + 1, rfl, B6, by omega, by decide, by decide, fun r H7 r0 r1 B7 k7 => ?_⟩
          obtain ⟨j, rfl, hj⟩ := draw_at (n := 2) r0 r1 rfl
          have el := k7 _ _ (box_ne (B2.same ((sd.trans s4).trans s5)) hpl) upd_same
          have sk := SK.of_but B6 k7
          have hu7 := (hu2.same s25).sk sk
          have hv7 := (hv2.same s25).sk sk
          have k07 := (k2.trans (But.same s25)).trans k7
          match j, hj with
          | 0, _ => exact ⟨pl, _, _, .ref p1, rfl, rfl, .of el, atI_nat (j := 0) rfl, q p1 (.both m2 m1) H7 ⟨v, u, sk _ _ q1 rfl, hv7, hu7⟩ ⟨hg.2, hg.1⟩ (by show m2.leaves + m1.leaves ≤ m1.leaves + m2.leaves; omega) (by show max m2.depth m1.depth + 1 ≤ max m1.depth m2.depth + 1; omega) (by show m2.names + m1.names ≤ m1.names + m2.names + 2; omega) (B7.mono (by omega)) k07⟩
          | 1, _ => exact ⟨pl, _, _, .ref p2, rfl, rfl, .of el, atI_nat (j := 1) rfl, q p2 (.eith m1 m2) H7 ⟨u, v, sk _ _ q2 rfl, hu7, hv7⟩ hg (Nat.le_refl (m1.leaves + m2.leaves)) (Nat.le_refl (max m1.depth m2.depth + 1)) (Nat.le_add_right (m1.names + m2.names) 2) (B7.mono (by omega)) k07⟩
        · refine ⟨_, rfl, b, 2, n + 1, rfl, B2, by omega, by decide, by decide, fun r H3 r0 r1 B3 k3 => ⟨_, _, rfl, rfl, ?_⟩⟩
          obtain ⟨j, rfl, hj⟩ := draw_at (n := 2) r0 r1 rfl
          have sk := SK.of_but B2 k3
          have e3 := sk _ _ e2 rfl
          have hu3 := hu2.sk sk
          have hv3 := hv2.sk sk
          have F4 := F3.but B2 k3
          have N4 := N3.but B2 k3
          have k03 := k2.trans k3
          match j, hj with
          | 0, _ =>
            refine ⟨_, rfl, _, rfl, _, rfl, t, _, ((1 : Nat) : Int), .ref u, rfl, rfl, .of e3, atI_nat (j := 1) rfl, _, rfl, _, rfl, b, u, fl, nl, n + 2, m1, fs, ns, rfl, B3, by omega, hu3, hg.1, by omega, F4, N4, by omega, fun t' m' H4 hm' g' l' d' n' B4 k4 => ?_⟩
            have sk4 := SK.of_but B3 k4
            have e4 := sk4 _ _ e3 rfl
            have hv4 := hv3.sk sk4
            refine ⟨_, rfl, _, rfl, _, rfl, slA_go e4 fun r1 H5 s5 e5 => ?_⟩
            replace e5 : H5 r1 = some (.tup [.str "both"]) := e5.trans (congrArg (fun l => some (HO.tup l)) (cutV_first2 _ 1))
            refine ⟨_, rfl, (by show 1 ≤ sizeLine; decide), fun p1 n1 => ?_⟩
            refine catA_go (Same.new n1 _ _ e5) upd_same (by show 1 + 1 ≤ sizeLine; decide) fun r2 H6 s6 e6 => ?_
            refine ⟨_, rfl, _, rfl, _, _, rfl, rfl, _, rfl, ?_⟩
            dsimp only [tNoPart]
            refine slA_go (s6 _ _ (Same.new n1 _ _ (s5 _ _ e4))) fun r3 H7 s7 e7 => ?_
            replace e7 : H7 r3 = some (.tup [.ref v]) := e7.trans (congrArg (fun l => some (HO.tup l)) (cutV_from _ 2))
            refine catA_go (s7 _ _ e6) e7 (by show 2 + 1 ≤ sizeLine; decide) fun r4 H8 s8 e8 => ?_
            have s48 := (((s5.trans (Same.new n1)).trans s6).trans s7).trans s8
            exact q r4 (.both m' m2) H8 ⟨t', v, e8, hm'.same s48, hv4.same s48⟩ ⟨g', hg.2⟩ (by show m'.leaves + m2.leaves ≤ m1.leaves + m2.leaves; omega) (by show max m'.depth m2.depth + 1 ≤ max m1.depth m2.depth + 1; omega) (by show m'.names + m2.names ≤ m1.names + m2.names + 2; omega) ((B4.same s48).mono (by omega)) ((k03.trans k4).trans (But.same s48))
          | 1, _ =>
            refine ⟨_, rfl, _, rfl, _, rfl, t, _, ((2 : Nat) : Int), .ref v, rfl, rfl, .of e3, atI_nat (j := 2) rfl, _, rfl, _, rfl, b, v, fl, nl, n + 2, m2, fs, ns, rfl, B3, by omega, hv3, hg.2, by omega, F4, N4, by omega, fun t' m' H4 hm' g' l' d' n' B4 k4 => ?_⟩
            have sk4 := SK.of_but B3 k4
            have e4 := sk4 _ _ e3 rfl
            have hu4 := hu3.sk sk4
            refine ⟨_, rfl, _, rfl, _, rfl, slA_go e4 fun r1 H5 s5 e5 => ?_⟩
            replace e5 : H5 r1 = some (.tup [.str "both", .ref u]) := e5.trans (congrArg (fun l => some (HO.tup l)) (cutV_first2 _ 2))
            refine ⟨_, rfl, (by show 1 ≤ sizeLine; decide), fun p1 n1 => ?_⟩
            refine catA_go (Same.new n1 _ _ e5) upd_same (by show 2 + 1 ≤ sizeLine; decide) fun r2 H6 s6 e6 => ?_
            refine ⟨_, rfl, _, rfl, _, _, rfl, rfl, _, rfl, ?_⟩
            dsimp only [tNoPart]
            refine slA_go (s6 _ _ (Same.new n1 _ _ (s5 _ _ e4))) fun r3 H7 s7 e7 => ?_
            replace e7 : H7 r3 = some (.tup []) := e7.trans (congrArg (fun l => some (HO.tup l)) (cutV_from _ 3))
            refine catA_go (s7 _ _ e6) e7 (by show 3 + 0 ≤ sizeLine; decide) fun r4 H8 s8 e8 => ?_
            have s48 := (((s5.trans (Same.new n1)).trans s6).trans s7).trans s8
            exact q r4 (.both m1 m') H8 ⟨u, t', e8, hu4.same s48, hm'.same s48⟩ ⟨hg.1, g'⟩ (by show m1.leaves + m'.leaves ≤ m1.leaves + m2.leaves; omega) (by show max m1.depth m'.depth + 1 ≤ max m1.depth m2.depth + 1; omega) (by show m1.names + m'.names ≤ m1.names + m2.names + 2; omega) ((B4.same s48).mono (by omega)) ((k03.trans k4).trans (But.same s48))
      | eith m1 m2 =>
        have hm0 := hm1
        obtain ⟨u, v, e, hu, hv⟩ : ∃ u v, H1 t = some (.tup [.str "either", .ref u, .ref v]) ∧ MdAt H1 u m1 ∧ MdAt H1 v m2 := hm1
        have hdd : max m1.depth m2.depth + 1 ≤ d + 1 := hd
        have hk : m1.names + m2.names ≤ 50 := h50
        refine ⟨_, rfl, t, _, 0, _, rfl, rfl, .of e, rfl, rfl, _, rfl, ifN ei_nm ?_⟩
        refine ⟨_, rfl, t, _, 0, _, rfl, rfl, .of e, rfl, (by show 2 ≤ sizeLine; decide), fun p hp => ⟨p, _, rfl, .inr (.of upd_same), rfl, rfl, _, rfl, ifN ei_in ?_⟩⟩
        have s2 := Same.new (o := .tup [.str "between", .str "named"]) hp
        have B2 := B1.same s2
        have F3 := F2.same s2
        have N3 := N2.same s2
        have k2 := k1.trans (But.same s2)
        have hm2 := hm0.same s2
        have e2 := s2 _ _ e
        have hu2 := hu.same s2
        have hv2 := hv.same s2
        change (upd H1 p (.tup [.str "between", .str "named"])) t = _ at e2
        generalize (upd H1 p (.tup [.str "between", .str "named"])) = H2 at s2 B2 F3 N3 k2 hm2 e2 hu2 hv2 ⊢
        refine ⟨_, rfl, rfl, _, rfl, ite2 (fun _ => ?_) (fun _ => ?_)⟩
        · exact ⟨_, rfl, _, _, rfl, rfl, _, rfl, ite2 (fun _ => ⟨_, rfl, _, rfl, _, rfl, b, fl, nl, n + 1, fs, ns, rfl, B2, by omega, F3, N3, fun t' m' H' hm' g' l' d' n' B' k' => q t' m' H' hm' g' (by rw [l']; exact Md.leaves_pos _) (by rw [d']; exact Md.depth_pos _) (Nat.le_trans n' (Nat.le_add_left _ _)) (B'.mono (by omega)) (k2.trans k')⟩) (fun _ => ⟨_, rfl, q t _ _ hm2 hg (Nat.le_refl _) (Nat.le_refl _) (Nat.le_add_right _ _) (B2.mono (by omega)) k2⟩)⟩
        refine ⟨_, rfl, t, _, 0, _, rfl, rfl, .of e2, rfl, rfl, _, rfl, ifN ei_nt ?_⟩
        refine ⟨_, rfl, rfl, _, rfl, ite2 (fun _ => ?_) (fun _ => ?_)⟩
        · refine fun pd nd => ⟨upd_same, [(Sum.inr "both", .str "either"), (Sum.inr "either", .str "both")], rfl, (by decide), ?_⟩
          have sd : Same H2 (upd (upd H2 pd (.dK [])) pd (.dK (mergeK [] [(Sum.inr "both", .str "either"), (Sum.inr "either", .str "both")]))) := fun a o ea => (upd_ne (ne_of_none ea nd)).trans ((upd_ne (ne_of_none ea nd)).trans ea)
          have ed : (upd (upd H2 pd (.dK [])) pd (.dK (mergeK [] [(Sum.inr "both", .str "either"), (Sum.inr "either", .str "both")]))) pd = some (.dK (mergeK [] [(Sum.inr "both", .str "either"), (Sum.inr "either", .str "both")])) := upd_same
          generalize (upd (upd H2 pd (.dK [])) pd (.dK (mergeK [] [(Sum.inr "both", .str "either"), (Sum.inr "either", .str "both")]))) = H3 at sd ed ⊢
          have e3 := sd _ _ e2
          refine ⟨_, rfl, t, _, 0, _, rfl, rfl, .of e3, rfl, pd, _, rfl, word_ei ed, ?_⟩
          refine ⟨_, rfl, t, _, 0, _, rfl, rfl, .of e3, rfl, _, rfl, t, _, 2, _, rfl, rfl, .of e3, rfl, _, rfl, t, _, 1, _, rfl, rfl, .of e3, rfl, (by show 3 ≤ sizeLine; decide), fun p1 n1 => ?_⟩
          have s4 := Same.new (o := .tup [.str "either", .ref v, .ref u]) n1
          have e4 := s4 _ _ e3
          refine ⟨_, rfl, _, rfl, t, _, 1, _, rfl, rfl, .of e4, rfl, _, rfl, t, _, 2, _, rfl, rfl, .of e4, rfl, (by show 3 ≤ sizeLine; decide), fun p2 n2 => ⟨(by show 2 ≤ sizeLine; decide), fun pl hpl => ?_⟩⟩
          have s5 := Same.new (o := .tup [.str "both", .ref u, .ref v]) n2
          have s6 := Same.new (o := .lst [.ref p1, .ref p2]) hpl
          have s25 := ((sd.trans s4).trans s5).trans s6
          have q1 := s6 _ _ (s5 _ _ (upd_same (H := H3) (a := p1) (o := .tup [.str "either", .ref v, .ref u])))
          have q2 := s6 _ _ (upd_same (H := upd H3 p1 (.tup [.str "either", .ref v, .ref u])) (a := p2) (o := .tup [.str "both", .ref u, .ref v]))
          have B6 := B2.same s25
          refine ⟨_, rfl, b, 2, n + 1, rfl, B6, by omega, by decide, by decide, fun r H7 r0 r1 B7 k7 => ?_⟩
          obtain ⟨j, rfl, hj⟩ := draw_at (n := 2) r0 r1 rfl
          have el := k7 _ _ (box_ne (B2.same ((sd.trans s4).trans s5)) hpl) upd_same
          have sk := SK.of_but B6 k7
          have hu7 := (hu2.same s25).sk sk
          have hv7 := (hv2.same s25).sk sk
          have k07 := (k2.trans (But.same s25)).trans k7
          match j, hj with
          | 0, _ => exact ⟨pl, _, _, .ref p1, rfl, rfl, .of el, atI_nat (j := 0) rfl, q p1 (.eith m2 m1) H7 ⟨v, u, sk _ _ q1 rfl, hv7, hu7⟩ ⟨hg.2, hg.1⟩ (by show m2.leaves + m1.leaves ≤ m1.leaves + m2.leaves; omega) (by show max m2.depth m1.depth + 1 ≤ max m1.depth m2.depth + 1; omega) (by show m2.names + m1.names ≤ m1.names + m2.names + 2; omega) (B7.mono (by omega)) k07⟩
          | 1, _ => exact ⟨pl, _, _, .ref p2, rfl, rfl, .of el, atI_nat (j := 1) rfl, q p2 (.both m1 m2) H7 ⟨u, v, sk _ _ q2 rfl, hu7, hv7⟩ hg (Nat.le_refl (m1.leaves + m2.leaves)) (Nat.le_refl (max m1.depth m2.depth + 1)) (Nat.le_add_right (m1.names + m2.names) 2) (B7.mono (by omega)) k07⟩
        · refine ⟨_, rfl, b, 2, n + 1, rfl, B2, by omega, by decide, by decide, fun r H3 r0 r1 B3 k3 => ⟨_, _, rfl, rfl, ?_⟩⟩
          obtain ⟨j, rfl, hj⟩ := draw_at (n := 2) r0 r1 rfl
          have sk := SK.of_but B2 k3
          have e3 := sk _ _ e2 rfl
          have hu3 := hu2.sk sk
          have hv3 := hv2.sk sk
          have F4 := F3.but B2 k3
          have N4 := N3.but B2 k3
          have k03 := k2.trans k3
          match j, hj with
          | 0, _ =>
            refine ⟨_, rfl, _, rfl, _, rfl, t, _, ((1 : Nat) : Int), .ref u, rfl, rfl, .of e3, atI_nat (j := 1) rfl, _, rfl, _, rfl, b, u, fl, nl, n + 2, m1, fs, ns, rfl, B3, by omega, hu3, hg.1, by omega, F4, N4, by omega, fun t' m' H4 hm' g' l' d' n' B4 k4 => ?_⟩
            have sk4 := SK.of_but B3 k4
            have e4 := sk4 _ _ e3 rfl
            have hv4 := hv3.sk sk4
            refine ⟨_, rfl, _, rfl, _, rfl, slA_go e4 fun r1 H5 s5 e5 => ?_⟩
            replace e5 : H5 r1 = some (.tup [.str "either"]) := e5.trans (congrArg (fun l => some (HO.tup l)) (cutV_first2 _ 1))
            refine ⟨_, rfl, (by show 1 ≤ sizeLine; decide), fun p1 n1 => ?_⟩
            refine catA_go (Same.new n1 _ _ e5) upd_same (by show 1 + 1 ≤ sizeLine; decide) fun r2 H6 s6 e6 => ?_
            refine ⟨_, rfl, _, rfl, _, _, rfl, rfl, _, rfl, ?_⟩
            dsimp only [tNoPart]
            refine slA_go (s6 _ _ (Same.new n1 _ _ (s5 _ _ e4))) fun r3 H7 s7 e7 => ?_
            replace e7 : H7 r3 = some (.tup [.ref v]) := e7.trans (congrArg (fun l => some (HO.tup l)) (cutV_from _ 2))
            refine catA_go (s7 _ _ e6) e7 (by show 2 + 1 ≤ sizeLine; decide) fun r4 H8 s8 e8 => ?_
            have s48 := (((s5.trans (Same.new n1)).trans s6).trans s7).trans s8
            exact q r4 (.eith m' m2) H8 ⟨t', v, e8, hm'.same s48, hv4.same s48⟩ ⟨g', hg.2⟩ (by show m'.leaves + m2.leaves ≤ m1.leaves + m2.leaves; omega) (by show max m'.depth m2.depth + 1 ≤ max m1.depth m2.depth + 1; omega) (by show m'.names + m2.names ≤ m1.names + m2.names + 2; omega) ((B4.same s48).mono (by omega)) ((k03.trans k4).trans (But.same s48))
          | 1, _ =>
            refine ⟨_, rfl, _, rfl, _, rfl, t, _, ((2 : Nat) : Int), .ref v, rfl, rfl, .of e3, atI_nat (j := 2) rfl, _, rfl, _, rfl, b, v, fl, nl, n + 2, m2, fs, ns, rfl, B3, by omega, hv3, hg.2, by omega, F4, N4, by omega, fun t' m' H4 hm' g' l' d' n' B4 k4 => ?_⟩
            have sk4 := SK.of_but B3 k4
            have e4 := sk4 _ _ e3 rfl
            have hu4 := hu3.sk sk4
            refine ⟨_, rfl, _, rfl, _, rfl, slA_go e4 fun r1 H5 s5 e5 => ?_⟩
            replace e5 : H5 r1 = some (.tup [.str "either", .ref u]) := e5.trans (congrArg (fun l => some (HO.tup l)) (cutV_first2 _ 2))
            refine ⟨_, rfl, (by show 1 ≤ sizeLine; decide), fun p1 n1 => ?_⟩
            refine catA_go (Same.new n1 _ _ e5) upd_same (by show 2 + 1 ≤ sizeLine; decide) fun r2 H6 s6 e6 => ?_
            refine ⟨_, rfl, _, rfl, _, _, rfl, rfl, _, rfl, ?_⟩
            dsimp only [tNoPart]
            refine slA_go (s6 _ _ (Same.new n1 _ _ (s5 _ _ e4))) fun r3 H7 s7 e7 => ?_
            replace e7 : H7 r3 = some (.tup []) := e7.trans (congrArg (fun l => some (HO.tup l)) (cutV_from _ 3))
            refine catA_go (s7 _ _ e6) e7 (by show 3 + 0 ≤ sizeLine; decide) fun r4 H8 s8 e8 => ?_
            have s48 := (((s5.trans (Same.new n1)).trans s6).trans s7).trans s8
            exact q r4 (.eith m1 m') H8 ⟨u, t', e8, hu4.same s48, hm'.same s48⟩ ⟨hg.1, g'⟩ (by show m1.leaves + m'.leaves ≤ m1.leaves + m2.leaves; omega) (by show max m1.depth m'.depth + 1 ≤ max m1.depth m2.depth + 1; omega) (by show m1.names + m'.names ≤ m1.names + m2.names + 2; omega) ((B4.same s48).mono (by omega)) ((k03.trans k4).trans (But.same s48))
end
end G
set_option Elab.async false
set_option linter.all false
set_option maxRecDepth 100000
set_option maxHeartbeats 4000000
/-! F7: models compared; str of a condition; what is made and compared, by the address. -/
namespace G
open PySem PySem.Spec PyProof.Rows L2 NdefX StX
def Md.py : Md → PyData
  | .btw z lo hi => .tuple [.str "between", .str z, .int lo, .int hi]
  | .nam zs => .tuple (.str "named" :: zs.map PyData.str)
  | .neg m => .tuple [.str "not", m.py]
  | .both a b => .tuple [.str "both", a.py, b.py]
  | .eith a b => .tuple [.str "either", a.py, b.py]
theorem Md.py_word : ∀ m : Md, ∃ r, m.py = .tuple (.str m.word :: r)
  | .btw _ _ _ => ⟨_, rfl⟩
  | .nam _ => ⟨_, rfl⟩
  | .neg _ => ⟨_, rfl⟩
  | .both _ _ => ⟨_, rfl⟩
  | .eith _ _ => ⟨_, rfl⟩
def wordF : Nat → Str
  | 0 => "between"
  | 1 => "named"
  | 2 => "not"
  | 3 => "both"
  | _ => "either"
theorem wd_ne : ∀ i j : Fin 5, i ≠ j → PyData.eqv (.str (wordF i)) (.str (wordF j)) = false := by decide +kernel
theorem word_tag : ∀ m : Md, m.word = wordF m.tag
  | .btw _ _ _ => rfl
  | .nam _ => rfl
  | .neg _ => rfl
  | .both _ _ => rfl
  | .eith _ _ => rfl
theorem word_ne {m n : Md} (h : ¬ n.tag = m.tag) : PyData.eqv (.str m.word) (.str n.word) = false := by
  rw [word_tag m, word_tag n]
  exact wd_ne ⟨m.tag, tag_lt m⟩ ⟨n.tag, tag_lt n⟩ fun e => h (congrArg Fin.val e).symm
theorem eqv_diff {m n : Md} (h : ¬ n.tag = m.tag) : PyData.eqv m.py n.py = m.eqb n := by
  obtain ⟨r, e1⟩ := m.py_word
  obtain ⟨r2, e2⟩ := n.py_word
  rw [e1, e2, Md.eqb_tag h]
  show (PyData.eqv (.str m.word) (.str n.word) && PyData.eqvAll r r2) = false
  rw [word_ne h]
  rfl
theorem eqv_str (x y : Str) : PyData.eqv (.str x) (.str y) = decide (x = y) := by
  by_cases h : x = y
  · rw [decide_eq_true h, h]
    simp [PyData.eqv]
  · rw [decide_eq_false h]
    simp [PyData.eqv, h]
theorem eqv_int (x y : Int) : PyData.eqv (.int x) (.int y) = decide (x = y) := by
  by_cases h : x = y
  · rw [decide_eq_true h, h]
    simp [PyData.eqv]
  · rw [decide_eq_false h]
    simp [PyData.eqv, h]
theorem eqv_py : ∀ m n : Md, PyData.eqv m.py n.py = m.eqb n
  | .btw z lo hi, .btw z2 lo2 hi2 => by
    show (PyData.eqv (.str "between") (.str "between") && (PyData.eqv (.str z) (.str z2) && (PyData.eqv (.int lo) (.int lo2) && (PyData.eqv (.int hi) (.int hi2) && true)))) = (decide (z = z2) && (decide (lo = lo2) && decide (hi = hi2)))
    rw [eqv_str, eqv_str, eqv_int, eqv_int, decide_eq_true rfl, Bool.and_true, Bool.true_and]
  | .nam zs, .nam ys => by
    show (PyData.eqv (.str "named") (.str "named") && PyData.eqvAll (zs.map PyData.str) (ys.map PyData.str)) = decide (zs = ys)
    rw [eqv_str, decide_eq_true rfl, eqv_strs, Bool.true_and]
  | .neg a, .neg b => by
    show (PyData.eqv (.str "not") (.str "not") && (PyData.eqv a.py b.py && true)) = a.eqb b
    rw [eqv_str, decide_eq_true rfl, eqv_py a b, Bool.and_true, Bool.true_and]
  | .both a b, .both a2 b2 => by
    show (PyData.eqv (.str "both") (.str "both") && (PyData.eqv a.py a2.py && (PyData.eqv b.py b2.py && true))) = (a.eqb a2 && b.eqb b2)
    rw [eqv_str, decide_eq_true rfl, eqv_py a a2, eqv_py b b2, Bool.and_true, Bool.true_and]
  | .eith a b, .eith a2 b2 => by
    show (PyData.eqv (.str "either") (.str "either") && (PyData.eqv a.py a2.py && (PyData.eqv b.py b2.py && true))) = (a.eqb a2 && b.eqb b2)
    rw [eqv_str, decide_eq_true rfl, eqv_py a a2, eqv_py b b2, Bool.and_true, Bool.true_and]
  | .btw _ _ _, .nam _ => eqv_diff (show ¬ 1 = 0 by decide)
  | .btw _ _ _, .neg _ => eqv_diff (show ¬ 2 = 0 by decide)
  | .btw _ _ _, .both _ _ => eqv_diff (show ¬ 3 = 0 by decide)
  | .btw _ _ _, .eith _ _ => eqv_diff (show ¬ 4 = 0 by decide)
  | .nam _, .btw _ _ _ => eqv_diff (show ¬ 0 = 1 by decide)
  | .nam _, .neg _ => eqv_diff (show ¬ 2 = 1 by decide)
  | .nam _, .both _ _ => eqv_diff (show ¬ 3 = 1 by decide)
  | .nam _, .eith _ _ => eqv_diff (show ¬ 4 = 1 by decide)
  | .neg _, .btw _ _ _ => eqv_diff (show ¬ 0 = 2 by decide)
  | .neg _, .nam _ => eqv_diff (show ¬ 1 = 2 by decide)
  | .neg _, .both _ _ => eqv_diff (show ¬ 3 = 2 by decide)
  | .neg _, .eith _ _ => eqv_diff (show ¬ 4 = 2 by decide)
  | .both _ _, .btw _ _ _ => eqv_diff (show ¬ 0 = 3 by decide)
  | .both _ _, .nam _ => eqv_diff (show ¬ 1 = 3 by decide)
  | .both _ _, .neg _ => eqv_diff (show ¬ 2 = 3 by decide)
  | .both _ _, .eith _ _ => eqv_diff (show ¬ 4 = 3 by decide)
  | .eith _ _, .btw _ _ _ => eqv_diff (show ¬ 0 = 4 by decide)
  | .eith _ _, .nam _ => eqv_diff (show ¬ 1 = 4 by decide)
  | .eith _ _, .neg _ => eqv_diff (show ¬ 2 = 4 by decide)
  | .eith _ _, .both _ _ => eqv_diff (show ¬ 3 = 4 by decide)
theorem wd_can : ∀ i : Fin 5, (PyData.str (wordF i)).canLay0 = true := by decide +kernel
theorem word_can (m : Md) : (PyData.str m.word).canLay0 = true := by
  rw [word_tag m]
  exact wd_can ⟨m.tag, tag_lt m⟩
theorem strs_can : ∀ {zs : List Str}, (∀ z ∈ zs, NameZ z) → PyData.canLayAll0 (zs.map PyData.str) = true
  | [], _ => rfl
  | z :: zs, h => by
    show ((PyData.str z).canLay0 && PyData.canLayAll0 (zs.map PyData.str)) = true
    rw [strs_can fun y hy => h y (List.mem_cons_of_mem _ hy), (name_lay (h z List.mem_cons_self)).2.1]
    rfl
theorem py_can : ∀ m : Md, m.good → m.py.canLay0 = true
  | .btw z lo hi, g => by
    show ((PyData.str (Md.btw z lo hi).word).canLay0 && ((PyData.str z).canLay0 && (true && (true && true)))) = true
    rw [word_can, (name_lay g.1).2.1]
    rfl
  | .nam zs, g => by
    show ((PyData.str (Md.nam zs).word).canLay0 && PyData.canLayAll0 (zs.map PyData.str)) = true
    rw [word_can, strs_can g]
    rfl
  | .neg m, g => by
    show ((PyData.str (Md.neg m).word).canLay0 && (m.py.canLay0 && true)) = true
    rw [word_can, py_can m g]
    rfl
  | .both a b, g => by
    show ((PyData.str (Md.both a b).word).canLay0 && (a.py.canLay0 && (b.py.canLay0 && true))) = true
    rw [word_can, py_can a g.1, py_can b g.2]
    rfl
  | .eith a b, g => by
    show ((PyData.str (Md.eith a b).word).canLay0 && (a.py.canLay0 && (b.py.canLay0 && true))) = true
    rw [word_can, py_can a g.1, py_can b g.2]
    rfl
theorem strs_dep : ∀ zs : List Str, PyData.depthAll (zs.map PyData.str) = 0
  | [] => rfl
  | z :: zs => by
    show max 0 (PyData.depthAll (zs.map PyData.str)) = 0
    rw [strs_dep zs]
    rfl
theorem py_dep : ∀ m : Md, m.py.depth ≤ m.depth
  | .btw _ _ _ => Nat.le_refl _
  | .nam zs => by
    show max 0 (PyData.depthAll (zs.map PyData.str)) + 1 ≤ 1
    rw [strs_dep]
    exact Nat.le_refl _
  | .neg m => by
    have := py_dep m
    show max 0 (max m.py.depth 0) + 1 ≤ m.depth + 1
    omega
  | .both a b => by
    have := py_dep a
    have := py_dep b
    show max 0 (max a.py.depth (max b.py.depth 0)) + 1 ≤ max a.depth b.depth + 1
    omega
  | .eith a b => by
    have := py_dep a
    have := py_dep b
    show max 0 (max a.py.depth (max b.py.depth 0)) + 1 ≤ max a.depth b.depth + 1
    omega
theorem py_shaped {m : Md} (g : m.good) (h : m.depth ≤ 5) : SeqAt.shaped m.py = true := by
  unfold SeqAt.shaped
  rw [py_can m g, Bool.true_and]
  have := py_dep m
  exact decide_eq_true (by omega)
theorem dp_md {K : PySem.W.Frag} {H : Hp} : ∀ {m : Md} {t : Addr}, MdAt H t m → Dp K H (.ref t) m.py
  | .btw z lo hi, t, e => .tup (.of e) (.cons (.str _) (.cons (.str z) (.cons (.int lo) (.cons (.int hi) .nil))))
  | .nam zs, t, e => .tup (.of e) (.cons (.str _) (dp_strs zs))
  | .neg m, t, ⟨u, e, h⟩ => .tup (.of e) (.cons (.str _) (.cons (dp_md h) .nil))
  | .both a b, t, ⟨u, v, e, h1, h2⟩ => .tup (.of e) (.cons (.str _) (.cons (dp_md h1) (.cons (dp_md h2) .nil)))
  | .eith a b, t, ⟨u, v, e, h1, h2⟩ => .tup (.of e) (.cons (.str _) (.cons (dp_md h1) (.cons (dp_md h2) .nil)))
/-! ### str(x) -/
def rStrM (c : Cs) (d : Nat) : List V → Hp → VK → Prop := fun xs H Q => ∃ (a : Addr) (m : Md), xs = [V.ref a] ∧ CoAt c H a m ∧ m.depth ≤ d ∧ m.depth ≤ 5 ∧ m.good ∧ m.names ≤ 8 ∧ Q (.str m.txt) H
theorem call_strM {X : Cx} {c : Cs} {k d : Nat} (A : StrAll X.prog X.w X.K X.mg X.base c k d) (hr : Room (k + 2) X.A) : CallR X (.type "str") (rStrM c d) := by
  intro pins s σ H xs us Q I r h
  obtain ⟨a, m, rfl, hm, hd, h5, hg, n8, q⟩ := h
  obtain ⟨f, fd, sk, hb, F⟩ := A m.tag (tag_lt m)
  obtain ⟨dx, fs, ha, _⟩ := hm.get
  rw [clsT] at ha
  exact call_strB (E := E0) sk.st sk.fn hb F hr pins s σ H _ us Q I r ⟨a, dx, fs, rfl, ha, a, m, rfl, hm, rfl, hd, h5, hg, n8, _, rfl, q⟩
/-! ### made, joined, compared -/
theorem bo_made2 {c : Cs} {p q : Addr} {m n : Md} {H1 : Hp} {R : Addr → Hp → Prop} {E : XK} (h1 : CoAt c H1 p m) (h2 : CoAt c H1 q n) (f : Fits m n) (z : ∀ r H', CoAt c H' r (.both m n) → Same H1 H' → R r H') :
    ∀ x dx, H1 x = Option.none → H1 dx = Option.none → dx ≠ x → spPair c c.bo [.ref x, .ref p, .ref q] (upd (upd H1 dx (.own x)) x (.ins c.bo dx [])) (fun v H2 => v = .non ∧ R x H2) E := by
  intro x dx hx hdx _
  have s0 := new_same (C := c.bo) hx hdx
  refine ⟨x, dx, p, q, m, n, rfl, upd_same, h1.same s0, h2.same s0, f.1, f.2.1, f.2.2, fun H' s' => ⟨rfl, ?_⟩⟩
  have s1 := put_same (u := .ins c.bo dx (pairFs (m.leaves + n.leaves) (max m.depth n.depth + 1) (m.names + n.names) p q)) hx hdx s'
  exact z x _ ⟨p, q, dx, upd_same, h1.same s1, h2.same s1⟩ s1
theorem ei_made2 {c : Cs} {p q : Addr} {m n : Md} {H1 : Hp} {R : Addr → Hp → Prop} {E : XK} (h1 : CoAt c H1 p m) (h2 : CoAt c H1 q n) (f : Fits m n) (z : ∀ r H', CoAt c H' r (.eith m n) → Same H1 H' → R r H') :
    ∀ x dx, H1 x = Option.none → H1 dx = Option.none → dx ≠ x → spPair c c.ei [.ref x, .ref p, .ref q] (upd (upd H1 dx (.own x)) x (.ins c.ei dx [])) (fun v H2 => v = .non ∧ R x H2) E := by
  intro x dx hx hdx _
  have s0 := new_same (C := c.ei) hx hdx
  refine ⟨x, dx, p, q, m, n, rfl, upd_same, h1.same s0, h2.same s0, f.1, f.2.1, f.2.2, fun H' s' => ⟨rfl, ?_⟩⟩
  have s1 := put_same (u := .ins c.ei dx (pairFs (m.leaves + n.leaves) (max m.depth n.depth + 1) (m.names + n.names) p q)) hx hdx s'
  exact z x _ ⟨p, q, dx, upd_same, h1.same s1, h2.same s1⟩ s1
theorem nt_made2 {c : Cs} {p : Addr} {m : Md} {H1 : Hp} {R : Addr → Hp → Prop} {E : XK} (h1 : CoAt c H1 p m) (l6 : m.leaves ≤ 6) (d5 : m.depth + 1 ≤ 5) (n8 : m.names ≤ 8) (z : ∀ r H', CoAt c H' r (.neg m) → Same H1 H' → R r H') :
    ∀ x dx, H1 x = Option.none → H1 dx = Option.none → dx ≠ x → spNeg c c.nt [.ref x, .ref p] (upd (upd H1 dx (.own x)) x (.ins c.nt dx [])) (fun v H2 => v = .non ∧ R x H2) E := by
  intro x dx hx hdx _
  have s0 := new_same (C := c.nt) hx hdx
  refine ⟨x, dx, p, m, rfl, upd_same, h1.same s0, l6, d5, n8, rfl, ?_⟩
  have s1 : Same H1 (upd (upd (upd H1 dx (.own x)) x (.ins c.nt dx [])) x (.ins c.nt dx (negFs m.leaves (m.depth + 1) m.names p))) := put_same hx hdx (Same.refl _)
  exact z x _ ⟨p, dx, upd_same, h1.same s1⟩ s1
theorem and_go {X : Cx} {c : Cs} {H : Hp} {a b : Addr} {m n : Md} {Q : VK} (po : ∀ m n : Md, PolyO X.prog X.w X.K X.mg X.base 5 (m.cls c) (n.cls c) .BitAnd (spAnd c)) (h1 : CoAt c H a m) (h2 : CoAt c H b n) (f : Fits m n)
    (q : ∀ r H', CoAt c H' r (.both m n) → Same H H' → Q (.ref r) H') : rOwn X 5 .BitAnd (spAnd c) E0 (.ref a) (.ref b) H Q := by
  obtain ⟨dx, fs, ha, _⟩ := h1.get
  obtain ⟨dy, gs, hb, _⟩ := h2.get
  exact ⟨a, b, _, _, dx, dy, fs, gs, rfl, rfl, ha, hb, po m n, a, b, m, n, rfl, h1, h2, f, fun r H' h s => ⟨⟨r, rfl⟩, q r H' h s⟩⟩
theorem or_go {X : Cx} {c : Cs} {H : Hp} {a b : Addr} {m n : Md} {Q : VK} (po : ∀ m n : Md, PolyO X.prog X.w X.K X.mg X.base 5 (m.cls c) (n.cls c) .BitOr (spOr c)) (h1 : CoAt c H a m) (h2 : CoAt c H b n) (f : Fits m n)
    (q : ∀ r H', CoAt c H' r (.eith m n) → Same H H' → Q (.ref r) H') : rOwn X 5 .BitOr (spOr c) E0 (.ref a) (.ref b) H Q := by
  obtain ⟨dx, fs, ha, _⟩ := h1.get
  obtain ⟨dy, gs, hb, _⟩ := h2.get
  exact ⟨a, b, _, _, dx, dy, fs, gs, rfl, rfl, ha, hb, po m n, a, b, m, n, rfl, h1, h2, f, fun r H' h s => ⟨⟨r, rfl⟩, q r H' h s⟩⟩
theorem inv_go {X : Cx} {c : Cs} {H : Hp} {a : Addr} {m : Md} {Q : VK} (po : ∀ m : Md, PolyU X.prog X.w X.K X.mg X.base 4 (m.cls c) (spInv c)) (h1 : CoAt c H a m) (l6 : m.leaves ≤ 6) (d5 : m.depth + 1 ≤ 5) (n8 : m.names ≤ 8)
    (q : ∀ r H', CoAt c H' r (.neg m) → Same H H' → Q (.ref r) H') : rInv X 4 (spInv c) E0 (.ref a) H Q := by
  obtain ⟨dx, fs, ha, _⟩ := h1.get
  exact ⟨a, _, dx, fs, rfl, ha, po m, a, m, rfl, h1, l6, d5, n8, q⟩
theorem eq_go {c : Cs} {H : Hp} {a b : Addr} {m n : Md} {Q : VK} {d : Nat} {pos : Bool} (h1 : CoAt c H a m) (h2 : CoAt c H b n) (d1 : m.depth ≤ d) (g1 : m.good) (g2 : n.good) (q : Q (.bl (cond pos (m.eqb n) (!m.eqb n))) H) : rEqM c d pos (.ref a) (.ref b) H Q :=
  ⟨a, m, some n, rfl, h1, d1, g1, fun z e => (by cases e; exact g2), .co h2, q⟩
theorem eq_same {c : Cs} {H : Hp} {a b : Addr} {m : Md} {Q : VK} {d : Nat} (h1 : CoAt c H a m) (h2 : CoAt c H b m) (d1 : m.depth ≤ d) (g1 : m.good) (q : Q (.bl true) H) : rEqM c d true (.ref a) (.ref b) H Q := by
  refine eq_go h1 h2 d1 g1 g1 ?_
  rw [Md.eqb_self]
  exact q
theorem ne_same' {c : Cs} {H : Hp} {a b : Addr} {m : Md} {Q : VK} {d : Nat} (h1 : CoAt c H a m) (h2 : CoAt c H b m) (d1 : m.depth ≤ d) (g1 : m.good) (q : Q (.bl false) H) : rEqM c d false (.ref a) (.ref b) H Q := by
  refine eq_go h1 h2 d1 g1 g1 ?_
  rw [Md.eqb_self]
  exact q
theorem eq_both {c : Cs} {H : Hp} {a b : Addr} {m n m2 n2 : Md} {Q : VK} {d : Nat} (h1 : CoAt c H a (.both m n)) (h2 : CoAt c H b (.eith m2 n2)) (d1 : (Md.both m n).depth ≤ d) (g1 : (Md.both m n).good) (g2 : (Md.eith m2 n2).good) (q : Q (.bl false) H) : rEqM c d true (.ref a) (.ref b) H Q :=
  eq_go h1 h2 d1 g1 g2 q
end G
set_option Elab.async false
set_option linter.all false
set_option maxRecDepth 100000
set_option maxHeartbeats 8000000
/-! F8: the end of the law's turn. -/
namespace G
open PySem PySem.Spec PyProof.Rows L2 NdefX StX
abbrev sR9 : Stmt := topS 64
abbrev nR9 : List Str := ["_law_box_here", "_law_fields", "_law_names_here", "_law_models", "_law_one", "_law_other_here", "_law_stood", "_law_due", "_law_leaves_here", "_law_count", "_law_own", "_law_twice", "_law_odd", "_law_leaf_here", "_law_thing"]
theorem scR9 : FnScope nR9 ["_law_box_here", "_law_fields", "_law_names_here"] (defScope sR9) := ⟨rfl, rfl, rfl, by decide +kernel, rfl, by decide +kernel, by decide +kernel⟩
theorem ne_if {A B : Prop} {x y : V} (e : x = y) (h : B) : if (!decide (x = y)) = true then A else B := by
  rw [decide_eq_true e]
  exact iteF h
structure CondL (P : Program) (w : World) (K : PySem.W.Frag) (mg : Str → Option Value) (base : Heap) (c : Cs) : Prop where
  leaves : ∀ m : Md, PolyM P w K mg base 1 (m.cls c) "leaves" (spLeaves c)
/-- where the turn stands when nothing is drawn any more -/
structure RS (c : Cs) (H : Hp) (pm a1 a2 ps t1 t2 : Addr) (m1 m2 : Md) : Prop where
  em : H pm = some (.lst [.ref t1, .ref t2])
  h1 : MdAt H t1 m1
  h2 : MdAt H t2 m2
  c1 : CoAt c H a1 m1
  c2 : CoAt c H a2 m2
  es : H ps = some (.lst [.str m1.txt, .str m2.txt])
  g1 : m1.good
  g2 : m2.good
  d1 : m1.depth ≤ 4
  d2 : m2.depth ≤ 4
  l1 : m1.leaves ≤ 3
  l2 : m2.leaves ≤ 3
  n1 : m1.names ≤ 8
  n2 : m2.names ≤ 8
theorem RS.same {c : Cs} {H H' : Hp} {pm a1 a2 ps t1 t2 : Addr} {m1 m2 : Md} (h : RS c H pm a1 a2 ps t1 t2 m1 m2) (s : Same H H') : RS c H' pm a1 a2 ps t1 t2 m1 m2 :=
  ⟨s _ _ h.em, h.h1.same s, h.h2.same s, h.c1.same s, h.c2.same s, s _ _ h.es, h.g1, h.g2, h.d1, h.d2, h.l1, h.l2, h.n1, h.n2⟩
section
variable {P : Program} {w : World} {K : PySem.W.Frag} {mg : Str → Option Value} {base : Heap} {c : Cs} {D f fL fD : Addr} {fdL fdD : FuncData} {cdv : Value} {A : Around} {outer : List Env} {s : Shared} {H : Hp} {E : XK}
theorem r_tail2 (O : Conds P w K mg base D c) (AE : EqAll P w K mg base c 6 5) (AS : StrAll P w K mg base c 16 5) (ms : mg "str" = none) (hr : Room 18 (A.deeper (envOfC "_law_right" (defScope sR9) s.heap.objs.size f cdv))) :
    ∃ t, PSs (cxOf CX0 P w K mg base nR9 "_law_right" (defScope sR9) f cdv A outer s H E).nox ((defBody sR9).drop 11) t ∧
      ∀ (De : Ends) (y7 y8 y9 y10 y11 y12 y13 y14 : Option V) (b fl nl pm a1 a2 ps t1 t2 : Addr) (m1 m2 : Md) (H0 : Hp), RS c H0 pm a1 a2 ps t1 t2 m1 m2 → (∀ H', Same H0 H' → De.rt (.bl true) H') →
        t De [some (.ref b), some (.ref fl), some (.ref nl), some (.ref pm), some (.ref a1), some (.ref a2), some (.ref ps), y7, y8, y9, y10, y11, y12, y13, y14] H0 := by
  have hr18 := hr
  have hr1 := hr.mono (show 1 ≤ 18 by decide)
  have hr2 := hr.mono (show 2 ≤ 18 by decide)
  have hr4 := hr.mono (show 4 ≤ 18 by decide)
  have hr5 := hr.mono (show 5 ≤ 18 by decide)
  have hr6 := hr.mono (show 6 ≤ 18 by decide)
  have hr7 := hr.mono (show 6 + 1 ≤ 18 by decide)
  have hrp := hr.mono (show 3 + 1 ≤ 18 by decide)
  have hrn := hr.mono (show 2 + 1 ≤ 18 by decide)
  refine ⟨_, pss_cons (ps_set (i := 12) scR9.nd rfl (.inl rfl) (pe_lst (pa_cons pe_non (pa_cons pe_int (pa_cons (pe_callTy (call_strM (c := c) AS hr18) (by rfl) ms (by decide +kernel) (pa_cons (pv 4) pa_nil)) (pa_cons (pe_lst (pa_cons (pv 4) pa_nil)) (pa_cons (pe_ix ix_list (pv 3) pe_int (fun _ _ => rfl)) pa_nil)))))))
    (pss_one (ps_ret (pe_and (pe_cmpR (op_eqD hr.units) (pe_lc (own := [("_law_thing", 14)]) (g := gName 14) (by rfl) scR9.nd (pi_list (pv 12)) (blkOk_by (own := [("_law_thing", 14)]) (N := nR9) (sc := defScope sR9) (by decide +kernel))
      (fun _ _ _ _ _ => pg_name (i := 14) scR9.nd rfl (.inl rfl)) (fun _ _ _ _ _ => pts_one (pt_cmpR (r := rEqM c 5 true) (op_eqM (c := c) (d := 5) AE hr6) (pv 4) (pv 14) (nomark _))) (fun _ _ _ _ _ => pv 14)) (pe_lst pa_nil) (nomark _))
      (pe_one (pe_cmpR (op_eqV hr.units) (pe_lst (pa_cons (pe_callTy (call_strM (c := c) AS hr18) (by rfl) ms (by decide +kernel) (pa_cons (pv 4) pa_nil)) (pa_cons (pe_callTy (call_strM (c := c) AS hr18) (by rfl) ms (by decide +kernel) (pa_cons (pv 5) pa_nil)) pa_nil))) (pv 6) (nomark _)))))), ?_⟩
  intro De y7 y8 y9 y10 y11 y12 y13 y14 b fl nl pm a1 a2 ps t1 t2 m1 m2 H0 R q
  have d15 : m1.depth ≤ 5 := Nat.le_succ_of_le R.d1
  have d25 : m2.depth ≤ 5 := Nat.le_succ_of_le R.d2
  refine ⟨_, rfl, a1, m1, rfl, R.c1, d15, d15, R.g1, R.n1, _, rfl, (by show 1 ≤ sizeLine; decide), fun l1 hl1 => ?_⟩
  have s1 := Same.new (o := .lst [.ref a1]) hl1
  refine ⟨_, rfl, pm, _, ((0 : Nat) : Int), .ref t1, rfl, rfl, .of (s1 _ _ R.em), atI_nat (j := 0) rfl, (by show 5 ≤ sizeLine; decide), fun po hpo => ?_⟩
  have s2 := s1.trans (Same.new (o := .lst [.non, .int 5, .str m1.txt, .ref l1, .ref t1]) hpo)
  have el1 : (upd (upd H0 l1 (.lst [.ref a1])) po (.lst [.non, .int 5, .str m1.txt, .ref l1, .ref t1])) l1 = some (.lst [.ref a1]) := Same.new hpo _ _ upd_same
  have epo : (upd (upd H0 l1 (.lst [.ref a1])) po (.lst [.non, .int 5, .str m1.txt, .ref l1, .ref t1])) po = some (.lst [.non, .int 5, .str m1.txt, .ref l1, .ref t1]) := upd_same
  change Same H0 (upd (upd H0 l1 (.lst [.ref a1])) po (.lst [.non, .int 5, .str m1.txt, .ref l1, .ref t1])) at s2
  generalize (upd (upd H0 l1 (.lst [.ref a1])) po (.lst [.non, .int 5, .str m1.txt, .ref l1, .ref t1])) = H1 at s2 el1 epo ⊢
  have R1 := R.same s2
  refine ⟨_, rfl, po, rfl, ⟨_, .of epo⟩, fun D1 hD => ?_⟩
  refine lc_list (xs := [.non, .int 5, .str m1.txt, .ref l1, .ref t1]) (fun i H2 => H2 = upd H1 D1 (.lst [])) ?_ ?_ ?_ ?_
  · rfl
  · rintro i H2 _ rfl
    exact .of (Same.new hD _ _ epo)
  · rintro i x H2 hx rfl
    have sD := Same.new (o := .lst []) hD
    have cD := R1.c1.same sD
    refine ⟨rfl, ?_⟩
    match i, hx with
    | 0, hx =>
      obtain rfl := Option.some.inj hx
      exact ⟨_, rfl, _, rfl, a1, m1, none, rfl, cD, d15, R1.g1, (fun _ e => nomatch e), .non, _, rfl, iteF rfl⟩
    | 1, hx =>
      obtain rfl := Option.some.inj hx
      exact ⟨_, rfl, _, rfl, a1, m1, none, rfl, cD, d15, R1.g1, (fun _ e => nomatch e), .int 5, _, rfl, iteF rfl⟩
    | 2, hx =>
      obtain rfl := Option.some.inj hx
      exact ⟨_, rfl, _, rfl, a1, m1, none, rfl, cD, d15, R1.g1, (fun _ e => nomatch e), .str _, _, rfl, iteF rfl⟩
    | 3, hx =>
      obtain rfl := Option.some.inj hx
      exact ⟨_, rfl, _, rfl, a1, m1, none, rfl, cD, d15, R1.g1, (fun _ e => nomatch e), .lst (sD _ _ el1), _, rfl, iteF rfl⟩
    | 4, hx =>
      obtain rfl := Option.some.inj hx
      obtain ⟨r, er⟩ := (R1.h1.same sD).wd
      exact ⟨_, rfl, _, rfl, a1, m1, none, rfl, cD, d15, R1.g1, (fun _ e => nomatch e), .tup er, _, rfl, iteF rfl⟩
  · rintro H2 rfl
    have s3 := s2.trans (Same.new (o := .lst []) hD)
    refine ⟨(by show 0 ≤ sizeLine; exact Nat.zero_le _), fun l hl => ?_⟩
    refine ⟨.list [], .list [], .lst (xs := []) (.of (Same.new hl _ _ upd_same)) .nil, .lst (xs := []) (.of upd_same) .nil, rfl, rfl, ?_⟩
    have s4 := s3.trans (Same.new (o := .lst []) hl)
    generalize upd (upd H1 D1 (.lst [])) l (.lst []) = H3 at s4 ⊢
    have R3 := R.same s4
    refine ⟨_, rfl, ifY rfl ?_⟩
    refine ⟨_, rfl, a1, m1, rfl, R3.c1, d15, d15, R3.g1, R3.n1, _, rfl, a2, m2, rfl, R3.c2, d25, d25, R3.g2, R3.n2, (by show 2 ≤ sizeLine; decide), fun q1 hq1 => ?_⟩
    have s5 := Same.new (o := .lst [.str m1.txt, .str m2.txt]) hq1
    exact ⟨_, rfl, 1, by decide, .inl ⟨_, _, _, _, rfl, rfl, .of upd_same, .of (s5 _ _ R3.es), .cons (.inl ⟨rfl, rfl⟩) (.cons (.inl ⟨rfl, rfl⟩) .nil)⟩, q _ (s4.trans s5)⟩
end
end G
set_option Elab.async false
set_option linter.all false
set_option maxRecDepth 100000
set_option maxHeartbeats 8000000
/-! F9: one condition twice. -/
namespace G
open PySem PySem.Spec PyProof.Rows L2 NdefX StX
theorem Md.leafs_lf (m : Md) : ∀ l ∈ m.leafs, l.isLeaf = true := fun _ h => Md.leafs_leaf h
section
variable {P : Program} {w : World} {K : PySem.W.Frag} {mg : Str → Option Value} {base : Heap} {c : Cs} {D f fL fD : Addr} {fdL fdD : FuncData} {cdv : Value} {A : Around} {outer : List Env} {s : Shared} {H : Hp} {E : XK}
theorem r_tail1 (O : Conds P w K mg base D c) (O2 : CondL P w K mg base c) (PO : PropsOk P w K mg base c) (AE : EqAll P w K mg base c 6 5) (AS : StrAll P w K mg base c 16 5) (ms : mg "str" = none) (msu : mg "sum" = none) (ml : mg "len" = none)
    (GL : FnOk P w K mg base CX0 6 fL fdL ["_law_model_here"] (spLLeaves 5)) (gL : mg "_law_leaves" = some (.ref fL)) (kL : PySem.W.keepIn K (.ref fL) = true) (bL : Binds K fdL ["_law_model_here"] [])
    (GD : FnOk P w K mg base CX0 6 fD fdD ["_law_model_here"] (spLDepth 5)) (gD : mg "_law_depth" = some (.ref fD)) (kD : PySem.W.keepIn K (.ref fD) = true) (bD : Binds K fdD ["_law_model_here"] [])
    (hr : Room 18 (A.deeper (envOfC "_law_right" (defScope sR9) s.heap.objs.size f cdv))) :
    ∃ t, PSs (cxOf CX0 P w K mg base nR9 "_law_right" (defScope sR9) f cdv A outer s H E).nox ((defBody sR9).drop 9) t ∧
      ∀ (De : Ends) (y7 y8 y9 y10 y11 y12 y13 y14 : Option V) (b fl nl pm a1 a2 ps t1 t2 : Addr) (m1 m2 : Md) (H0 : Hp), RS c H0 pm a1 a2 ps t1 t2 m1 m2 → (∀ H', Same H0 H' → De.rt (.bl true) H') →
        t De [some (.ref b), some (.ref fl), some (.ref nl), some (.ref pm), some (.ref a1), some (.ref a2), some (.ref ps), y7, y8, y9, y10, y11, y12, y13, y14] H0 := by
  have hr18 := hr
  have hr1 := hr.mono (show 1 ≤ 18 by decide)
  have hr2 := hr.mono (show 2 ≤ 18 by decide)
  have hr4 := hr.mono (show 4 ≤ 18 by decide)
  have hr5 := hr.mono (show 5 ≤ 18 by decide)
  have hr6 := hr.mono (show 6 ≤ 18 by decide)
  have hr7 := hr.mono (show 6 + 1 ≤ 18 by decide)
  have hrp := hr.mono (show 3 + 1 ≤ 18 by decide)
  have hrn := hr.mono (show 2 + 1 ≤ 18 by decide)
  obtain ⟨fO, fdO, MO, bO, GO⟩ := O.mbo
  obtain ⟨t2_, p2_, k2_⟩ := r_tail2 (P := P) (w := w) (base := base) (outer := outer) (H := H) (E := E) (cdv := cdv) (s := s) (f := f) O AE AS ms hr
  refine ⟨_, pss_cons (ps_set (i := 10) scR9.nd rfl (.inl rfl) (pe_call GL hr6 rfl gL kL bL .nil pass0 (pa_cons (pe_ix ix_list (pv 3) pe_int (fun _ _ => rfl)) pa_nil)))
    (pss_cons (ps_if (pt_cmpR op_lt (pe_callB (cr_sum rfl) (by rfl) msu (by decide +kernel) (pa_cons (pe_lc (own := [("_law_leaf_here", 13)]) (g := gName 13) (by rfl) scR9.nd (pi_list (pv 10))
          (blkOk_by (own := [("_law_leaf_here", 13)]) (N := nR9) (sc := defScope sR9) (by decide +kernel)) (fun _ _ _ _ _ => pg_name (i := 13) scR9.nd rfl (.inl rfl))
          (fun _ _ _ _ _ => pts_one (pt_cmpR op_eq (pe_ix (r := rIxT K) ix_tup (pv 13) pe_int (fun _ _ => rfl)) pe_str (nomark _)))
          (fun _ _ _ _ _ => pe_op op_sub (pe_callB (r := rLenK K) call_len_seq (by rfl) ml PySem.boot_len (pa_cons (pv 13) pa_nil)) pe_int)) pa_nil)) pe_int (nomark _))
      (pss_cons (ps_set (i := 11) scR9.nd rfl (.inl rfl) (pe_op (op_own (sp := spAnd c) .BitAnd hr5 pass0) (pv 4) (pv 4)))
      (pss_cons (ps_if (PW.pt (pw_or (pt_not (pt_cmpR (op_eqM (c := c) (d := 5) AE hr6) (pe_propV (pv 11) hr2 rfl) (pv 4) (nomark _))) (pw_or (pt_not (pt_cmpR (op_eqM (c := c) (d := 5) AE hr6) (pe_propV (pv 11) hr2 rfl) (pv 4) (nomark _)))
          (pw_or1 (pt_not (pt_cmpR (op_eqM (c := c) (d := 5) AE hr6) (pv 11) (pe_make MO GO hrp rfl O.gbo bO .nil pass0 (pa_cons (pv 4) (pa_cons (pv 4) pa_nil))) (nomark _))))))) (pss_one (ps_ret pe_bl)) pss_nil)
      (pss_one (ps_if (pt_cmpR op_ne (pe_methV0 (k := 1) (pv 11) hr1 pass0) (pe_op op_mul pe_int (pe_callB call_len_seq (by rfl) ml PySem.boot_len (pa_cons (pv 10) pa_nil))) (nomark _)) (pss_one (ps_ret pe_bl)) pss_nil)))) pss_nil)
    p2_), ?_⟩
  intro De y7 y8 y9 y10 y11 y12 y13 y14 b fl nl pm a1 a2 ps t1 t2 m1 m2 H0 R q
  have d15 : m1.depth ≤ 5 := Nat.le_succ_of_le R.d1
  have l3 := R.l1
  refine ⟨_, rfl, pm, _, ((0 : Nat) : Int), .ref t1, rfl, rfl, .of R.em, atI_nat (j := 0) rfl, t1, m1, rfl, R.h1, d15, by omega, fun p as H1 fp ep al s1 => ?_⟩
  have R1 := R.same s1
  refine ⟨_, rfl, p, rfl, ⟨_, .of ep⟩, fun D1 hD => ?_⟩
  have nD : p ≠ D1 := ne_of_none ep hD
  have hlen : as.length = m1.leafs.length := al.len
  refine lc_list (xs := as.map V.ref) (fun i H2 => Same H1 H2 ∧ H2 D1 = some (.lst (((m1.leafs.take i).filterMap Md.cnt).map V.int))) ?_ ?_ ?_ ?_
  · exact ⟨Same.new hD, upd_same⟩
  · rintro i H2 _ ⟨s2, _⟩
    exact .of (s2 _ _ ep)
  · rintro i x H2 hx ⟨s4, eD⟩
    rw [List.getElem?_map] at hx
    obtain ⟨a, hai, rfl⟩ := Option.map_eq_some_iff.mp hx
    obtain ⟨m0, hmi, hm0⟩ := (al.same s4).get hai
    have lf := m1.leafs_lf _ (List.mem_of_getElem? hmi)
    have fewD : (((m1.leafs.take i).filterMap Md.cnt).map V.int).length ≤ 12 := by
      rw [List.length_map]
      refine Nat.le_trans (List.length_filterMap_le _ _) ?_
      rw [List.length_take]
      have := m1.leafs_len
      omega
    refine ⟨rfl, ?_⟩
    cases m0 with
    | btw z lo hi =>
      have e : H2 a = some (.tup [.str "between", .str z, .int lo, .int hi]) := hm0
      refine ⟨_, rfl, a, _, 0, _, rfl, rfl, .of e, rfl, rfl, _, rfl, ?_⟩
      refine ifN (by decide +kernel) ⟨s4, ?_⟩
      rw [eD, List.take_add_one, hmi]
      simp [Md.cnt]
    | nam zs =>
      have e : H2 a = some (.tup (.str "named" :: zs.map V.str)) := hm0
      refine ⟨_, rfl, a, _, ((0 : Nat) : Int), .str "named", rfl, rfl, .of e, atI_nat (j := 0) rfl, rfl, _, rfl, ?_⟩
      refine ifY (self_eq _) ⟨_, rfl, a, _, rfl, .inr (.of e), _, _, rfl, rfl, _, eD, small1000 (by omega), ?_⟩
      refine ⟨fun c o ec => (upd_ne (ne_of_none ec hD)).trans (s4 _ _ ec), ?_⟩
      rw [upd_same, List.take_add_one, hmi]
      have e9 : (((V.str "named" :: zs.map V.str).length : Nat) : Int) - 1 = (zs.length : Int) := by
        rw [List.length_cons, List.length_map]
        omega
      show some (HO.lst (_ ++ [V.int ((((V.str "named" :: zs.map V.str).length : Nat) : Int) - 1)])) = _
      rw [e9]
      simp [Md.cnt]
    | _ => cases lf
  · rintro H2 ⟨s4, eD⟩
    rw [List.length_map, hlen, List.take_length] at eD
    refine ⟨D1, _, rfl, .inl (.inl eD), _, _, rfl, rfl, _, rfl, ?_⟩
    have s2 := s1.trans s4
    have R2 := R.same s2
    rw [Md.cnt_sum]
    refine ite2 (fun hlt => ?_) (fun _ => k2_ _ _ _ _ _ _ _ _ _ b fl nl pm a1 a2 ps t1 t2 m1 m2 H2 R2 fun H' s' => q H' (s2.trans s'))
    have h5 : (m1.names : Int) < 5 := of_decide_eq_true hlt
    have d4 := R.d1
    have ft : Fits m1 m1 := ⟨by omega, by omega, by omega⟩
    refine ⟨_, rfl, _, rfl, and_go O.and_ R2.c1 R2.c1 ft fun r H3 hr3 s3 => ?_⟩
    have R3 := R2.same s3
    obtain ⟨u1, u2, dx, er, hu1, hu2⟩ : ∃ p q dx, H3 r = some (.ins c.bo dx (pairFs (m1.leaves + m1.leaves) (max m1.depth m1.depth + 1) (m1.names + m1.names) p q)) ∧ CoAt c H3 p m1 ∧ CoAt c H3 q m1 := id hr3
    refine ⟨_, rfl, r, _, dx, _, _, _, rfl, er, PO.one3, rfl, _, rfl, eq_same hu1 R3.c1 d15 R.g1 ⟨_, rfl, iteF ?_⟩⟩
    refine ⟨_, rfl, r, _, dx, _, _, _, rfl, er, PO.oth3, rfl, _, rfl, eq_same hu2 R3.c1 d15 R.g1 ⟨_, rfl, iteF ?_⟩⟩
    refine ⟨_, rfl, _, rfl, _, rfl, bo_made2 (E := E0) R3.c1 R3.c1 ft fun r2 H4 h4 s4' => eq_same (hr3.same s4') h4 ft.2.1 ⟨R.g1, R.g1⟩ ⟨_, rfl, iteF ?_⟩⟩
    have s5 := (s2.trans s3).trans s4'
    have R4 := R.same s5
    have hr4 := hr3.same s4'
    obtain ⟨dy, fs, ey, lk1, _, _, _, lk2, _⟩ := hr4.get
    refine ⟨_, rfl, r, _, dy, fs, spLeaves c, rfl, ey, O2.leaves (.both m1 m1), lk2, r, .both m1 m1, rfl, hr4, _, rfl, p, _, rfl, .inl (.of (((s4.trans s3).trans s4') _ _ ep)), _, _, rfl, rfl, .inl ⟨by decide, by decide⟩, rfl, _, rfl, ne_if ?_ (k2_ _ _ _ _ _ _ _ _ _ b fl nl pm a1 a2 ps t1 t2 m1 m2 H4 R4 fun H' s' => q H' (s5.trans s'))⟩
    rw [List.length_map, al.len, Md.leafs_len]
    show V.int ((m1.leaves + m1.leaves : Nat) : Int) = V.int (2 * (m1.leaves : Int))
    congr 1
    omega
end
end G
set_option Elab.async false
set_option linter.all false
set_option maxRecDepth 100000
set_option maxHeartbeats 8000000
/-! FA: the two conditions joined. -/
namespace G
open PySem PySem.Spec PyProof.Rows L2 NdefX StX
theorem leafs2_lf (m n : Md) : ∀ l ∈ m.leafs ++ n.leafs, l.isLeaf = true := fun _ h => (List.mem_append.mp h).elim Md.leafs_leaf Md.leafs_leaf
theorem cnt_sum2 (m n : Md) : ((m.leafs ++ n.leafs).filterMap Md.cnt).sum = ((m.names + n.names : Nat) : Int) := by
  rw [List.filterMap_append, List.sum_append, Md.cnt_sum, Md.cnt_sum]
  omega
theorem len2 (m n : Md) : (m.leafs ++ n.leafs).length = m.leaves + n.leaves := by
  rw [List.length_append, Md.leafs_len, Md.leafs_len]
section
variable {P : Program} {w : World} {K : PySem.W.Frag} {mg : Str → Option Value} {base : Heap} {c : Cs} {D f fL fD : Addr} {fdL fdD : FuncData} {cdv : Value} {A : Around} {outer : List Env} {s : Shared} {H : Hp} {E : XK}
theorem r_tail0 (O : Conds P w K mg base D c) (O2 : CondL P w K mg base c) (PO : PropsOk P w K mg base c) (AE : EqAll P w K mg base c 6 5) (AS : StrAll P w K mg base c 16 5) (ms : mg "str" = none) (msu : mg "sum" = none) (ml : mg "len" = none)
    (GL : FnOk P w K mg base CX0 6 fL fdL ["_law_model_here"] (spLLeaves 5)) (gL : mg "_law_leaves" = some (.ref fL)) (kL : PySem.W.keepIn K (.ref fL) = true) (bL : Binds K fdL ["_law_model_here"] [])
    (GD : FnOk P w K mg base CX0 6 fD fdD ["_law_model_here"] (spLDepth 5)) (gD : mg "_law_depth" = some (.ref fD)) (kD : PySem.W.keepIn K (.ref fD) = true) (bD : Binds K fdD ["_law_model_here"] [])
    (hr : Room 18 (A.deeper (envOfC "_law_right" (defScope sR9) s.heap.objs.size f cdv))) :
    ∃ t, PSs (cxOf CX0 P w K mg base nR9 "_law_right" (defScope sR9) f cdv A outer s H E).nox ((defBody sR9).drop 6) t ∧
      ∀ (De : Ends) (y7 y8 y9 y10 y11 y12 y13 y14 : Option V) (b fl nl pm a1 a2 ps t1 t2 : Addr) (m1 m2 : Md) (H0 : Hp), RS c H0 pm a1 a2 ps t1 t2 m1 m2 → (∀ H', Same H0 H' → De.rt (.bl true) H') →
        t De [some (.ref b), some (.ref fl), some (.ref nl), some (.ref pm), some (.ref a1), some (.ref a2), some (.ref ps), y7, y8, y9, y10, y11, y12, y13, y14] H0 := by
  have hr18 := hr
  have hr1 := hr.mono (show 1 ≤ 18 by decide)
  have hr2 := hr.mono (show 2 ≤ 18 by decide)
  have hr4 := hr.mono (show 4 ≤ 18 by decide)
  have hr5 := hr.mono (show 5 ≤ 18 by decide)
  have hr6 := hr.mono (show 6 ≤ 18 by decide)
  have hr7 := hr.mono (show 6 + 1 ≤ 18 by decide)
  have hrp := hr.mono (show 3 + 1 ≤ 18 by decide)
  have hrn := hr.mono (show 2 + 1 ≤ 18 by decide)
  obtain ⟨fO, fdO, MO, bO, GO⟩ := O.mbo
  obtain ⟨fE, fdE, ME, bE, GE⟩ := O.mei
  obtain ⟨fN, fdN, MN, bN, GN⟩ := O.mnt
  obtain ⟨t2_, p2_, k2_⟩ := r_tail1 (P := P) (w := w) (base := base) (outer := outer) (H := H) (E := E) (cdv := cdv) (s := s) (f := f) O O2 PO AE AS ms msu ml GL gL kL bL GD gD kD bD hr
  refine ⟨_, pss_cons (ps_set (i := 8) scR9.nd rfl (.inl rfl) (pe_op op_cat (pe_call GL hr6 rfl gL kL bL .nil pass0 (pa_cons (pe_ix ix_list (pv 3) pe_int (fun _ _ => rfl)) pa_nil)) (pe_call GL hr6 rfl gL kL bL .nil pass0 (pa_cons (pe_ix ix_list (pv 3) pe_int (fun _ _ => rfl)) pa_nil))))
    (pss_cons (ps_set (i := 9) scR9.nd rfl (.inl rfl) (pe_callB (cr_sum rfl) (by rfl) msu (by decide +kernel) (pa_cons (pe_lc (own := [("_law_leaf_here", 13)]) (g := gName 13) (by rfl) scR9.nd (pi_list (pv 8))
          (blkOk_by (own := [("_law_leaf_here", 13)]) (N := nR9) (sc := defScope sR9) (by decide +kernel)) (fun _ _ _ _ _ => pg_name (i := 13) scR9.nd rfl (.inl rfl))
          (fun _ _ _ _ _ => pts_one (pt_cmpR op_eq (pe_ix (r := rIxT K) ix_tup (pv 13) pe_int (fun _ _ => rfl)) pe_str (nomark _)))
          (fun _ _ _ _ _ => pe_op op_sub (pe_callB (r := rLenK K) call_len_seq (by rfl) ml PySem.boot_len (pa_cons (pv 13) pa_nil)) pe_int)) pa_nil)))
    (pss_cons (ps_if (PW.pt (pw_and (pt_cmpR op_lt (pe_callB call_len_seq (by rfl) ml PySem.boot_len (pa_cons (pv 8) pa_nil)) pe_int (nomark _)) (pw_and (pt_cmpR op_lt (pv 9) pe_int (nomark _)) (pw_and1 (pt_cmpR op_lt (pe_call GD hr6 rfl gD kD bD .nil pass0 (pa_cons (pe_ix ix_list (pv 3) pe_int (fun _ _ => rfl)) pa_nil)) pe_int (nomark _))))))
      (pss_cons (ps_if (PW.pt (pw_or (pt_not (pt_cmpR (op_eqM (c := c) (d := 5) AE hr6) (pe_op (op_own (sp := spAnd c) .BitAnd hr5 pass0) (pv 4) (pv 5)) (pe_make MO GO hrp rfl O.gbo bO .nil pass0 (pa_cons (pv 4) (pa_cons (pv 5) pa_nil))) (nomark _)))
          (pw_or (pt_not (pt_cmpR (op_eqM (c := c) (d := 5) AE hr6) (pe_op (op_own (sp := spOr c) .BitOr hr5 pass0) (pv 5) (pv 4)) (pe_make ME GE hrp rfl O.gei bE .nil pass0 (pa_cons (pv 5) (pa_cons (pv 4) pa_nil))) (nomark _)))
          (pw_or1 (pt_not (pt_cmpR (op_eqM (c := c) (d := 5) AE hr6) (pe_un (un_own (sp := spInv c) hr4 pass0) (pv 4)) (pe_make MN GN hrn rfl O.gnt bN .nil pass0 (pa_cons (pv 4) pa_nil)) (nomark _))))))) (pss_one (ps_ret pe_bl)) pss_nil)
      (pss_one (ps_if (PW.pt (pw_or (pt_cmpR (op_eqM (c := c) (d := 5) AE hr6) (pe_op (op_own (sp := spAnd c) .BitAnd hr5 pass0) (pv 4) (pv 5)) (pe_op (op_own (sp := spOr c) .BitOr hr5 pass0) (pv 4) (pv 5)) (nomark _)) (pw_or (pt_cmpR (op_neM (c := c) (d := 5) AE hr7) (pe_propV (pe_op (op_own (sp := spAnd c) .BitAnd hr5 pass0) (pv 4) (pv 5)) hr2 rfl) (pv 4) (nomark _)) (pw_or1 (pt_cmpR (op_neM (c := c) (d := 5) AE hr7) (pe_propV (pe_op (op_own (sp := spOr c) .BitOr hr5 pass0) (pv 5) (pv 4)) hr2 rfl) (pv 4) (nomark _)))))) (pss_one (ps_ret pe_bl)) pss_nil))) pss_nil)
    p2_)), ?_⟩
  intro De y7 y8 y9 y10 y11 y12 y13 y14 b fl nl pm a1 a2 ps t1 t2 m1 m2 H0 R q
  have d15 : m1.depth ≤ 5 := Nat.le_succ_of_le R.d1
  have d25 : m2.depth ≤ 5 := Nat.le_succ_of_le R.d2
  have l13 := R.l1
  have l23 := R.l2
  refine ⟨_, rfl, pm, _, ((0 : Nat) : Int), .ref t1, rfl, rfl, .of R.em, atI_nat (j := 0) rfl, t1, m1, rfl, R.h1, d15, by omega, fun p1 as1 Ha fp1 ep1 al1 sa => ?_⟩
  have Ra := R.same sa
  refine ⟨_, rfl, pm, _, ((1 : Nat) : Int), .ref t2, rfl, rfl, .of Ra.em, atI_nat (j := 1) rfl, t2, m2, rfl, Ra.h2, d25, by omega, fun p2 as2 Hb fp2 ep2 al2 sb => ?_⟩
  have k1 : as1.length = m1.leaves := by rw [al1.len, Md.leafs_len]
  have k2 : as2.length = m2.leaves := by rw [al2.len, Md.leafs_len]
  refine ⟨p1, p2, _, _, rfl, rfl, sb _ _ ep1, ep2, (by rw [List.length_map, List.length_map]; exact small_size (by omega)), fun p hp => ?_⟩
  have sc := Same.new (o := .lst (as1.map V.ref ++ as2.map V.ref)) hp
  have s1 := (sa.trans sb).trans sc
  have ep : (upd Hb p (.lst (as1.map V.ref ++ as2.map V.ref))) p = some (.lst ((as1 ++ as2).map V.ref)) := by rw [upd_same, List.map_append]
  have al := ((al1.same sb).app al2).same sc
  generalize upd Hb p (.lst (as1.map V.ref ++ as2.map V.ref)) = H1 at sc s1 ep al ⊢
  have R1 := R.same s1
  refine ⟨_, rfl, p, rfl, ⟨_, .of ep⟩, fun D1 hD => ?_⟩
  have nD : p ≠ D1 := ne_of_none ep hD
  have hlen : (as1 ++ as2).length = (m1.leafs ++ m2.leafs).length := al.len
  refine lc_list (xs := (as1 ++ as2).map V.ref) (fun i H2 => Same H1 H2 ∧ H2 D1 = some (.lst ((((m1.leafs ++ m2.leafs).take i).filterMap Md.cnt).map V.int))) ?_ ?_ ?_ ?_
  · exact ⟨Same.new hD, upd_same⟩
  · rintro i H2 _ ⟨s2, _⟩
    exact .of (s2 _ _ ep)
  · rintro i x H2 hx ⟨s4, eD⟩
    rw [List.getElem?_map] at hx
    obtain ⟨a, hai, rfl⟩ := Option.map_eq_some_iff.mp hx
    obtain ⟨m0, hmi, hm0⟩ := (al.same s4).get hai
    have lf := leafs2_lf m1 m2 _ (List.mem_of_getElem? hmi)
    have fewD : ((((m1.leafs ++ m2.leafs).take i).filterMap Md.cnt).map V.int).length ≤ 12 := by
      rw [List.length_map]
      refine Nat.le_trans (List.length_filterMap_le _ _) ?_
      rw [List.length_take]
      have := len2 m1 m2
      omega
    refine ⟨rfl, ?_⟩
    cases m0 with
    | btw z lo hi =>
      have e : H2 a = some (.tup [.str "between", .str z, .int lo, .int hi]) := hm0
      refine ⟨_, rfl, a, _, 0, _, rfl, rfl, .of e, rfl, rfl, _, rfl, ?_⟩
      refine ifN (by decide +kernel) ⟨s4, ?_⟩
      rw [eD, List.take_add_one, hmi]
      simp [Md.cnt]
    | nam zs =>
      have e : H2 a = some (.tup (.str "named" :: zs.map V.str)) := hm0
      refine ⟨_, rfl, a, _, ((0 : Nat) : Int), .str "named", rfl, rfl, .of e, atI_nat (j := 0) rfl, rfl, _, rfl, ?_⟩
      refine ifY (self_eq _) ⟨_, rfl, a, _, rfl, .inr (.of e), _, _, rfl, rfl, _, eD, small1000 (by omega), ?_⟩
      refine ⟨fun c o ec => (upd_ne (ne_of_none ec hD)).trans (s4 _ _ ec), ?_⟩
      rw [upd_same, List.take_add_one, hmi]
      have e9 : (((V.str "named" :: zs.map V.str).length : Nat) : Int) - 1 = (zs.length : Int) := by
        rw [List.length_cons, List.length_map]
        omega
      show some (HO.lst (_ ++ [V.int ((((V.str "named" :: zs.map V.str).length : Nat) : Int) - 1)])) = _
      rw [e9]
      simp [Md.cnt]
    | _ => cases lf
  · rintro H2 ⟨s4, eD⟩
    rw [List.length_map, hlen, List.take_length] at eD
    refine ⟨D1, _, rfl, .inl (.inl eD), ?_⟩
    have s2 := s1.trans s4
    have R2 := R.same s2
    rw [cnt_sum2]
    have go : ∀ H' y11 y12 y13 y14, Same H0 H' → t2_ De [some (.ref b), some (.ref fl), some (.ref nl), some (.ref pm), some (.ref a1), some (.ref a2), some (.ref ps), y7, (some (.ref p)), (some (.int ((m1.names + m2.names : Nat) : Int))), y10, y11, y12, y13, y14] H' := fun H' y11 y12 y13 y14 s' =>
      k2_ _ _ _ _ _ _ _ _ _ b fl nl pm a1 a2 ps t1 t2 m1 m2 H' (R.same s') fun H3 s3 => q H3 (s'.trans s3)
    refine ⟨_, rfl, p, _, rfl, .inl (.of (s4 _ _ ep)), _, _, rfl, rfl, _, rfl, ite2 (fun _ => ⟨_, rfl, _, _, rfl, rfl, _, rfl, ite2 (fun hc => ⟨_, rfl, pm, _, ((1 : Nat) : Int), .ref t2, rfl, rfl, .of R2.em, atI_nat (j := 1) rfl, t2, m2, rfl, R2.h2, d25, fun H3 s3 => ⟨_, _, rfl, rfl, _, rfl, ite2 (fun _ => ?_) (fun _ => go H3 _ _ _ _ (s2.trans s3))⟩⟩) (fun _ => go H2 _ _ _ _ s2)⟩) (fun _ => go H2 _ _ _ _ s2)⟩
    have h9 : ((m1.names + m2.names : Nat) : Int) < 9 := of_decide_eq_true hc
    have d14 := R.d1
    have d24 := R.d2
    have n18 := R.n1
    have R3 := R2.same s3
    have ft : Fits m1 m2 := ⟨by omega, by omega, by omega⟩
    have ft2 : Fits m2 m1 := ⟨by omega, by omega, by omega⟩
    refine ⟨_, rfl, _, rfl, and_go O.and_ R3.c1 R3.c2 ft fun r4 H4 h4 s4' => ⟨_, rfl, _, rfl, bo_made2 (E := E0) (R3.c1.same s4') (R3.c2.same s4') ft fun r5 H5 h5 s5 => eq_same (h4.same s5) h5 ft.2.1 ⟨R.g1, R.g2⟩ ⟨_, rfl, iteF ?_⟩⟩⟩
    have R5 := R3.same (s4'.trans s5)
    refine ⟨_, rfl, _, rfl, or_go O.or_ R5.c2 R5.c1 ft2 fun r6 H6 h6 s6 => ⟨_, rfl, _, rfl, ei_made2 (E := E0) (R5.c2.same s6) (R5.c1.same s6) ft2 fun r7 H7 h7 s7 => eq_same (h6.same s7) h7 ft2.2.1 ⟨R.g2, R.g1⟩ ⟨_, rfl, iteF ?_⟩⟩⟩
    have R7 := R5.same (s6.trans s7)
    refine ⟨_, rfl, inv_go O.inv R7.c1 (by omega) (by omega) n18 fun r8 H8 h8 s8 => ⟨_, rfl, nt_made2 (E := E0) (R7.c1.same s8) (by omega) (by omega) n18 fun r9 H9 h9' s9 => eq_same (h8.same s9) h9' (by show m1.depth + 1 ≤ 5; omega) R.g1 ⟨_, rfl, iteF ?_⟩⟩⟩
    have R9 := R7.same (s8.trans s9)
    have S39 : Same H3 H9 := (((s4'.trans s5).trans s6).trans s7).trans (s8.trans s9)
    refine ⟨_, rfl, _, rfl, and_go O.and_ R9.c1 R9.c2 ft fun ra Ha ha sa' => ⟨_, rfl, _, rfl, or_go O.or_ (R9.c1.same sa') (R9.c2.same sa') ft fun rb Hb hb sb' => eq_both (ha.same sb') hb ft.2.1 ⟨R.g1, R.g2⟩ ⟨R.g1, R.g2⟩ ⟨_, rfl, iteF ?_⟩⟩⟩
    have Rb := R9.same (sa'.trans sb')
    refine ⟨_, rfl, _, rfl, and_go O.and_ Rb.c1 Rb.c2 ft fun rc Hc hc' sc' => ?_⟩
    obtain ⟨u1, u2, dx, er, hu1, hu2⟩ : ∃ p q dx, Hc rc = some (.ins c.bo dx (pairFs (m1.leaves + m2.leaves) (max m1.depth m2.depth + 1) (m1.names + m2.names) p q)) ∧ CoAt c Hc p m1 ∧ CoAt c Hc q m2 := hc'
    have Rc := Rb.same sc'
    refine ⟨rc, _, dx, _, _, _, rfl, er, PO.one3, rfl, _, rfl, ne_same' hu1 Rc.c1 d15 R.g1 ⟨_, rfl, iteF ?_⟩⟩
    refine ⟨_, rfl, _, rfl, or_go O.or_ Rc.c2 Rc.c1 ft2 fun rd Hd hd' sd' => ?_⟩
    obtain ⟨v1, v2, dy, ey, hv1, hv2⟩ : ∃ p q dx, Hd rd = some (.ins c.ei dx (pairFs (m2.leaves + m1.leaves) (max m2.depth m1.depth + 1) (m2.names + m1.names) p q)) ∧ CoAt c Hd p m2 ∧ CoAt c Hd q m1 := hd'
    have Rd := Rc.same sd'
    refine ⟨rd, _, dy, _, _, _, rfl, ey, PO.oth4, rfl, _, rfl, ne_same' hv2 Rd.c1 d15 R.g1 ⟨_, rfl, iteF ?_⟩⟩
    exact go Hd _ _ _ _ ((s2.trans s3).trans (S39.trans ((sa'.trans sb').trans (sc'.trans sd'))))
end
end G
set_option Elab.async false
set_option linter.all false
set_option maxRecDepth 100000
set_option maxHeartbeats 8000000
/-! FB: the law's turn. -/
namespace G
open PySem PySem.Spec PyProof.Rows L2 NdefX StX
theorem Md.eqb_comm (m n : Md) : m.eqb n = n.eqb m := by
  rw [Bool.eq_iff_iff, Md.eqb_iff, Md.eqb_iff]
  exact ⟨Eq.symm, Eq.symm⟩
theorem cost_4 : cost 4 = 206 := by decide
def spRight : Sp := fun vs H Q _ => ∃ (b fl nl : Addr) (n : Nat) (fs ns : List Str), vs = [.ref b, .ref fl, .ref nl] ∧ BoxAt H b n ∧ n ≤ 50000 ∧ Nm H fl fs ∧ Nm H nl ns ∧ ∀ H', BoxAt H' b (n + 3000) → But b H H' → Q (.bl true) H'
section
variable {P : Program} {w : World} {K : PySem.W.Frag} {mg : Str → Option Value} {base : Heap} {c : Cs} {D : Addr}
theorem ok_right {f fT fM fC fB fO fP fL fD : Addr} {fd fdT fdM fdC fdB fdO fdP fdL fdD : FuncData} (F : Fun K "_law_right" "_law_right" sR9 f fd) (T : Fun K "_law_take" "_law_take" sTake fT fdT) (bT : Binds K fdT ["_law_box_here", "_law_many"] []) (gT : mg "_law_take" = some (.ref fT))
    (GM : FnOk P w K mg base CX0 9 fM fdM ["_law_box_here", "_law_fields", "_law_names_here", "_law_deep", "_law_most"] (spModel 5)) (gM : mg "_law_model" = some (.ref fM)) (kM : PySem.W.keepIn K (.ref fM) = true) (bM : Binds K fdM ["_law_box_here", "_law_fields", "_law_names_here", "_law_deep", "_law_most"] [])
    (GC : FnOk P w K mg base CX0 7 fC fdC ["_law_model_here"] spCapped) (gC : mg "_law_capped" = some (.ref fC)) (kC : PySem.W.keepIn K (.ref fC) = true) (bC : Binds K fdC ["_law_model_here"] [])
    (GB : FnOk P w K mg base CX0 11 fB fdB ["_law_box_here", "_law_model_here"] (spBuilt c 5)) (gB : mg "_law_built" = some (.ref fB)) (kB : PySem.W.keepIn K (.ref fB) = true) (bB : Binds K fdB ["_law_box_here", "_law_model_here"] [])
    (GO : FnOk P w K mg base CX0 8 fO fdO ["_law_box_here", "_law_model_here", "_law_fields", "_law_names_here"] (spOther 4)) (gO : mg "_law_other" = some (.ref fO)) (kO : PySem.W.keepIn K (.ref fO) = true) (bO : Binds K fdO ["_law_box_here", "_law_model_here", "_law_fields", "_law_names_here"] [])
    (GP : FnOk P w K mg base CX0 17 fP fdP ["_law_box_here", "_law_model_here", "_law_condition"] (spParts c 5)) (gP : mg "_law_parts_right" = some (.ref fP)) (kP : PySem.W.keepIn K (.ref fP) = true) (bP : Binds K fdP ["_law_box_here", "_law_model_here", "_law_condition"] [])
    (GL : FnOk P w K mg base CX0 6 fL fdL ["_law_model_here"] (spLLeaves 5)) (gL : mg "_law_leaves" = some (.ref fL)) (kL : PySem.W.keepIn K (.ref fL) = true) (bL : Binds K fdL ["_law_model_here"] [])
    (GD : FnOk P w K mg base CX0 6 fD fdD ["_law_model_here"] (spLDepth 5)) (gD : mg "_law_depth" = some (.ref fD)) (kD : PySem.W.keepIn K (.ref fD) = true) (bD : Binds K fdD ["_law_model_here"] [])
    (O : Conds P w K mg base D c) (O2 : CondL P w K mg base c) (PO : PropsOk P w K mg base c) (AE : EqAll P w K mg base c 6 5) (AS : StrAll P w K mg base c 16 5) (ms : mg "str" = none) (msu : mg "sum" = none) (ml : mg "len" = none) (mr : mg "repr" = none) :
    FnG P w K mg base CX0 19 f fd ["_law_box_here", "_law_fields", "_law_names_here"] spRight := by
  have GT : FnOk P w K mg base CX0 1 fT fdT ["_law_box_here", "_law_many"] spTake := ok_take T
  refine FnG.of_body F scR9 (fun vs H Q E h => ?_) (fun cdv A outer s H vs Q E hg hr h => ?_)
  · obtain ⟨b, fl, nl, n, fs, ns, rfl, _⟩ := h
    rfl
  · obtain ⟨b, fl, nl, n, fs, ns, rfl, B, hn, F0, N0, q⟩ := h
    have hr18 := hr
    have hr1 := hr.mono (show 1 ≤ 18 by decide)
    have hr2 := hr.mono (show 2 ≤ 18 by decide)
    have hr4 := hr.mono (show 4 ≤ 18 by decide)
    have hr5 := hr.mono (show 5 ≤ 18 by decide)
    have hr6 := hr.mono (show 6 ≤ 18 by decide)
    have hr7 := hr.mono (show 6 + 1 ≤ 18 by decide)
    have hrp := hr.mono (show 3 + 1 ≤ 18 by decide)
    have hrn := hr.mono (show 2 + 1 ≤ 18 by decide)
    have hr8 := hr.mono (show 8 ≤ 18 by decide)
    have hr9 := hr.mono (show 9 ≤ 18 by decide)
    have hrc := hr.mono (show 7 ≤ 18 by decide)
    have hr11 := hr.mono (show 11 ≤ 18 by decide)
    have hr17 := hr.mono (show 17 ≤ 18 by decide)
    obtain ⟨t2_, p2_, k2_⟩ := r_tail0 (P := P) (w := w) (base := base) (outer := outer) (H := H) (E := E) (cdv := cdv) (s := s) (f := f) O O2 PO AE AS ms msu ml GL gL kL bL GD gD kD bD hr
    refine ⟨_, pss_cons (ps_set (i := 3) scR9.nd rfl (.inl rfl) (pe_lst (pa_cons (pe_call GC hrc rfl gC kC bC .nil pass0 (pa_cons (pe_call GM hr9 rfl gM kM bM .nil pass0 (pa_cons (pv 0) (pa_cons (pv 1) (pa_cons (pv 2)
          (pa_cons (pe_op op_add pe_int (pe_call GT hr1 rfl gT T.kp bT .nil pass0 (pa_cons (pv 0) (pa_cons pe_int pa_nil)))) (pa_cons (pe_op op_add pe_int (pe_call GT hr1 rfl gT T.kp bT .nil pass0 (pa_cons (pv 0) (pa_cons pe_int pa_nil)))) pa_nil)))))) pa_nil)) pa_nil)))
      (pss_cons (ps_expr (pe_bm PySem.F.plainAttrs_list PySem.F.slot_list_append PySem.F.type_list_append mt_append (pv 3) (pa_cons (pe_call GC hrc rfl gC kC bC .nil pass0 (pa_cons (pe_call GO hr8 rfl gO kO bO .nil pass0 (pa_cons (pv 0) (pa_cons (pe_ix ix_list (pv 3) pe_int (fun _ _ => rfl)) (pa_cons (pv 1) (pa_cons (pv 2) pa_nil))))) pa_nil)) pa_nil)))
      (pss_cons (ps_asg (pe_tup (pa_cons (pe_call GB hr11 rfl gB kB bB .nil pass0 (pa_cons (pv 0) (pa_cons (pe_ix ix_list (pv 3) pe_int (fun _ _ => rfl)) pa_nil))) (pa_cons (pe_call GB hr11 rfl gB kB bB .nil pass0 (pa_cons (pv 0) (pa_cons (pe_ix ix_list (pv 3) pe_int (fun _ _ => rfl)) pa_nil))) pa_nil)))
        (pg_tup (by rfl) (pgs_cons (pg_name (i := 4) scR9.nd rfl (.inr rfl)) (pgs_cons (pg_name (i := 5) scR9.nd rfl (.inl rfl)) pgs_nil))))
      (pss_cons (ps_par (i := 6) (j := 7) (by rfl) scR9.nd rfl rfl (by decide) rfl rfl (pa_cons (pe_lst (pa_cons (pe_callTy (call_strM (c := c) AS hr18) (by rfl) ms (by decide +kernel) (pa_cons (pv 4) pa_nil)) (pa_cons (pe_callTy (call_strM (c := c) AS hr18) (by rfl) ms (by decide +kernel) (pa_cons (pv 5) pa_nil)) pa_nil))) (pa_cons (pe_cmpR (op_eqD hr.units) (pe_ix ix_list (pv 3) pe_int (fun _ _ => rfl)) (pe_ix ix_list (pv 3) pe_int (fun _ _ => rfl)) (nomark _)) pa_nil)) (by rfl))
      (pss_cons (ps_if (pt_cmpR op_ne (pe_callB (call_repr hg hr.units) (by rfl) mr (by decide +kernel) (pa_cons (pe_lst (pa_cons (pe_cmpR (op_eqM (c := c) (d := 5) AE hr6) (pv 4) (pv 5) (nomark _)) (pa_cons (pe_cmpR (op_eqM (c := c) (d := 5) AE hr6) (pv 5) (pv 4) (nomark _)) (pa_cons (pe_cmpR (op_neM (c := c) (d := 5) AE hr7) (pv 4) (pv 5) (nomark _)) pa_nil)))) pa_nil)) (pe_callB (call_repr hg hr.units) (by rfl) mr (by decide +kernel) (pa_cons (pe_lst (pa_cons (pv 7) (pa_cons (pv 7) (pa_cons (pe_not (pv 7)) pa_nil)))) pa_nil)) (nomark _)) (pss_one (ps_ret pe_bl)) pss_nil)
      (pss_cons (ps_if (PW.pt (pw_or (pt_not (pt_val (pe_call GP hr17 rfl gP kP bP .nil pass0 (pa_cons (pv 0) (pa_cons (pe_ix ix_list (pv 3) pe_int (fun _ _ => rfl)) (pa_cons (pv 4) pa_nil)))))) (pw_or1 (pt_not (pt_val (pe_call GP hr17 rfl gP kP bP .nil pass0 (pa_cons (pv 0) (pa_cons (pe_ix ix_list (pv 3) pe_int (fun _ _ => rfl)) (pa_cons (pv 5) pa_nil))))))))) (pss_one (ps_ret pe_bl)) pss_nil)
      p2_))))), ?_⟩
    have hc4 := cost_4
    refine ⟨_, rfl, _, rfl, _, rfl, _, rfl, b, 4, n, rfl, B, by omega, by decide, by decide, fun x H1 x0 x1 B1 k1 => ⟨_, _, rfl, rfl, _, rfl, b, 3, n + 1, rfl, B1, by omega, by decide, by decide, fun y H2 y0 y1 B2 k2 => ⟨_, _, rfl, rfl, ?_⟩⟩⟩
    obtain ⟨dj, rfl, hdj⟩ := draw_at (n := 4) x0 x1 rfl
    obtain ⟨mj, rfl, hmj⟩ := draw_at (n := 3) y0 y1 rfl
    have hcd : cost (dj + 1) ≤ cost 4 := cost_mono (by omega)
    have k02 := k1.trans k2
    have F2 := (F0.but B k1).but B1 k2
    have N2 := (N0.but B k1).but B1 k2
    refine ⟨b, fl, nl, n + 2, dj + 1, mj + 1, fs, ns, ?_, B2, by omega, F2, N2, by omega, by omega, by omega, by omega, fun t0 m0 H3 hm0 g0 l0 dp0 nm0 B3 k3 => ?_⟩
    · show [V.ref b, V.ref fl, V.ref nl, V.int (1 + (dj : Int)), V.int (1 + (mj : Int))] = _
      rw [show (1 : Int) + (dj : Int) = ((dj + 1 : Nat) : Int) by omega, show (1 : Int) + (mj : Int) = ((mj + 1 : Nat) : Int) by omega]
    refine ⟨t0, m0, rfl, hm0, g0, by omega, by omega, by omega, fun t1 m1 H4 hm1 g1 l1 d1 n1 s4 => ⟨(by show 1 ≤ sizeLine; decide), fun pm hpm => ?_⟩⟩
    have F4 := (F2.but B2 k3).same s4
    have N4 := (N2.but B2 k3).same s4
    have B4 := B3.same s4
    have k04 : But b H H4 := (k02.trans k3).trans (But.same s4)
    have npm := box_ne B4 hpm
    have fpm : H pm = none := free_of k04 npm hpm
    have s5 := Same.new (o := .lst [.ref t1]) hpm
    have epm : (upd H4 pm (.lst [.ref t1])) pm = some (.lst [.ref t1]) := upd_same
    have fl4 : fl ≠ pm := ne_of_none F4.at_ hpm
    have nl4 : nl ≠ pm := ne_of_none N4.at_ hpm
    generalize upd H4 pm (.lst [.ref t1]) = H5 at s5 epm ⊢
    have B5 := B4.same s5
    have hm15 := hm1.same s5
    refine ⟨_, rfl, .inl ⟨rfl, _, .of epm⟩, _, rfl, _, rfl, pm, _, ((0 : Nat) : Int), .ref t1, rfl, rfl, .of epm, atI_nat (j := 0) rfl, _, rfl, _, rfl, b, t1, fl, nl, n + 2 + cost (dj + 1), m1, fs, ns, rfl, B5, by omega, hm15, g1, by omega, F4.same s5, N4.same s5, by omega, fun t2' m2' H6 hm2' g2' l2' d2' n2' B6 k6 => ?_⟩
    refine ⟨t2', m2', rfl, hm2', g2', by omega, by omega, by omega, fun t2 m2 H7 hm2 g2 l2 d2 n2 s7 => ?_⟩
    have epm7 := s7 _ _ (k6 _ _ npm epm)
    refine ⟨pm, _, _, rfl, rfl, epm7, (by show 1 < sizeLine; decide), ?_⟩
    have k07 : But b H H7 := ((k04.trans (But.same s5)).trans k6).trans (But.same s7)
    have B7 := B6.same s7
    have hm17 := (hm15.sk (SK.of_but B5 k6)).same s7
    have sk8 : ∀ o, SK H7 (upd H7 pm o) := fun o c v ec hv => by
      refine (upd_ne fun z => ?_).trans ec
      rw [z, epm7] at ec
      rw [← Option.some.inj ec] at hv
      cases hv
    have k08 : But b H (upd H7 pm (.lst [.ref t1, .ref t2])) := but_upd k07 fpm
    have B8 : BoxAt (upd H7 pm (.lst [.ref t1, .ref t2])) b (n + 2 + cost (dj + 1) + 13 * 4) := box_upd B7 npm
    have h18 := hm17.sk (sk8 (.lst [.ref t1, .ref t2]))
    have h28 := hm2.sk (sk8 (.lst [.ref t1, .ref t2]))
    have em8 : (upd H7 pm (.lst [.ref t1, .ref t2])) pm = some (.lst [.ref t1, .ref t2]) := upd_same
    have dm1 : m1.depth ≤ 4 := by omega
    have dm2 : m2.depth ≤ 4 := by omega
    have lm1 : m1.leaves ≤ 3 := by omega
    have lm2 : m2.leaves ≤ 3 := by omega
    have z1 := Md.size_31 (m := m1) (by omega)
    have z2 := Md.size_31 (m := m2) (by omega)
    have w1 := Md.pc_961 (m := m1) (by omega)
    have w2 := Md.pc_961 (m := m2) (by omega)
    dsimp only [List.cons_append, List.nil_append]
    generalize upd H7 pm (.lst [.ref t1, .ref t2]) = H8 at k08 B8 h18 h28 em8 ⊢
    refine ⟨_, rfl, _, rfl, pm, _, ((0 : Nat) : Int), .ref t1, rfl, rfl, .of em8, atI_nat (j := 0) rfl, b, t1, n + 2 + cost (dj + 1) + 13 * 4, m1, rfl, B8, by omega, h18, g1, by omega, by omega, by omega, n1, fun a1 H9 c1 B9 k9 => ?_⟩
    have em9 := k9 _ _ npm em8
    have sk9 := SK.of_but B8 k9
    refine ⟨_, rfl, _, rfl, pm, _, ((1 : Nat) : Int), .ref t2, rfl, rfl, .of em9, atI_nat (j := 1) rfl, b, t2, n + 2 + cost (dj + 1) + 13 * 4 + m1.size, m2, rfl, B9, by omega, h28.sk sk9, g2, by omega, by omega, by omega, n2, fun a2 H10 c2 B10 k10 => ⟨(by show 2 ≤ sizeLine; decide), fun pt hpt => ?_⟩⟩
    have s11 := Same.new (o := .tup [.ref a1, .ref a2]) hpt
    have skA := sk9.trans (SK.of_but B9 k10)
    have em11 := s11 _ _ (k10 _ _ npm em9)
    have h111 := (h18.sk skA).same s11
    have h211 := (h28.sk skA).same s11
    have c111 := (c1.sk (SK.of_but B9 k10)).same s11
    have c211 := c2.same s11
    have B11 := B10.same s11
    have k011 : But b H (upd H10 pt (.tup [.ref a1, .ref a2])) := ((k08.trans k9).trans k10).trans (But.same s11)
    refine ⟨pt, _, rfl, .of upd_same, rfl, _, _, rfl, _, _, rfl, rfl, ?_⟩
    generalize upd H10 pt (.tup [.ref a1, .ref a2]) = H11 at s11 em11 h111 h211 c111 c211 B11 k011 ⊢
    have d15 : m1.depth ≤ 5 := by omega
    have d25 : m2.depth ≤ 5 := by omega
    refine ⟨_, rfl, a1, m1, rfl, c111, d15, d15, g1, n1, _, rfl, a2, m2, rfl, c211, d25, d25, g2, n2, (by show 2 ≤ sizeLine; decide), fun ps hps => ?_⟩
    have s12 := Same.new (o := .lst [.str m1.txt, .str m2.txt]) hps
    have R : RS c (upd H11 ps (.lst [.str m1.txt, .str m2.txt])) pm a1 a2 ps t1 t2 m1 m2 := ⟨s12 _ _ em11, h111.same s12, h211.same s12, c111.same s12, c211.same s12, upd_same, g1, g2, dm1, dm2, lm1, lm2, n1, n2⟩
    have B12 := B11.same s12
    have k012 : But b H (upd H11 ps (.lst [.str m1.txt, .str m2.txt])) := k011.trans (But.same s12)
    generalize upd H11 ps (.lst [.str m1.txt, .str m2.txt]) = H12 at s12 R B12 k012 ⊢
    refine ⟨_, rfl, pm, _, ((0 : Nat) : Int), .ref t1, rfl, rfl, .of R.em, atI_nat (j := 0) rfl, _, rfl, pm, _, ((1 : Nat) : Int), .ref t2, rfl, rfl, .of R.em, atI_nat (j := 1) rfl, m1.py, m2.py, dp_md R.h1, dp_md R.h2, py_shaped g1 d15, py_shaped g2 d25, _, _, rfl, ?_⟩
    rw [eqv_py]
    refine ⟨_, rfl, _, rfl, eq_go R.c1 R.c2 d15 g1 g2 ⟨_, rfl, _, rfl, eq_go R.c2 R.c1 d25 g2 g1 ⟨_, rfl, _, rfl, eq_go R.c1 R.c2 d15 g1 g2 ⟨(by show 3 ≤ sizeLine; decide), fun p hp => ?_⟩⟩⟩⟩
    rw [Md.eqb_comm m2 m1]
    generalize m1.eqb m2 = e
    have rb : ∀ Hx : Hp, RpAll K Hx [.bl e, .bl e, .bl (!e)] [.bool e, .bool e, .bool (!e)] := fun Hx => .cons (.bl _) (.cons (.bl _) (.cons (.bl _) .nil))
    have sb : 3 + massAll [.bool e, .bool e, .bool (!e)] ≤ sizeLine := small_size (by show 3 + (5 + 2 + (5 + 2 + (5 + 2 + 0))) ≤ 7000; decide)
    refine ⟨p, _, [.bool e, .bool e, .bool (!e)], rfl, upd_same, rb _, rfl, (fun hh => by simp [PyData.hasDictAll, PyData.hasDict] at hh), (by show (1 : Nat) ≤ 20; decide), sb, ?_⟩
    refine ⟨_, rfl, _, rfl, _, rfl, _, rfl, (by show 3 ≤ sizeLine; decide), fun p5 hp5 => ⟨p5, _, [.bool e, .bool e, .bool (!e)], rfl, upd_same, rb _, rfl, (fun hh => by simp [PyData.hasDictAll, PyData.hasDict] at hh), (by show (1 : Nat) ≤ 20; decide), sb, rfl, _, rfl, ne_if rfl ?_⟩⟩
    have s13 := (Same.new (o := .lst [.bl e, .bl e, .bl (!e)]) hp).trans (Same.new (o := .lst [.bl e, .bl e, .bl (!e)]) hp5)
    have R13 := R.same s13
    have B13 := B12.same s13
    have k013 := k012.trans (But.same s13)
    refine ⟨_, rfl, _, rfl, pm, _, ((0 : Nat) : Int), .ref t1, rfl, rfl, .of R13.em, atI_nat (j := 0) rfl, _, rfl, b, t1, a1, n + 2 + cost (dj + 1) + 13 * 4 + m1.size + m2.size, m1, rfl, B13, by omega, R13.h1, R13.c1, g1, by omega, d15, d15, n1, fun H14 B14 k14 => ⟨_, rfl, iteF ?_⟩⟩
    have sk14 := SK.of_but B13 k14
    have em14 := k14 _ _ npm R13.em
    have nps : ps ≠ b := fun z => by
      obtain ⟨x, y, u, eb, _⟩ := B13
      have es := R13.es
      rw [z, eb] at es
      cases es
    have R14 : RS c H14 pm a1 a2 ps t1 t2 m1 m2 := ⟨em14, R13.h1.sk sk14, R13.h2.sk sk14, R13.c1.sk sk14, R13.c2.sk sk14, k14 _ _ nps R13.es, g1, g2, dm1, dm2, lm1, lm2, n1, n2⟩
    refine ⟨_, rfl, _, rfl, pm, _, ((1 : Nat) : Int), .ref t2, rfl, rfl, .of R14.em, atI_nat (j := 1) rfl, _, rfl, b, t2, a2, n + 2 + cost (dj + 1) + 13 * 4 + m1.size + m2.size + m1.pc, m2, rfl, B14, by omega, R14.h2, R14.c2, g2, by omega, d25, d25, n2, fun H15 B15 k15 => ⟨_, rfl, iteF ?_⟩⟩
    have sk15 := SK.of_but B14 k15
    have R15 : RS c H15 pm a1 a2 ps t1 t2 m1 m2 := ⟨k15 _ _ npm R14.em, R14.h1.sk sk15, R14.h2.sk sk15, R14.c1.sk sk15, R14.c2.sk sk15, k15 _ _ nps R14.es, g1, g2, dm1, dm2, lm1, lm2, n1, n2⟩
    exact k2_ _ _ _ _ _ _ _ _ _ b fl nl pm a1 a2 ps t1 t2 m1 m2 H15 R15 fun H' s' => q H' ((B15.same s').mono (by omega)) (((k013.trans k14).trans k15).trans (But.same s'))
end
end G
set_option Elab.async false
set_option linter.all false
set_option maxRecDepth 100000
set_option maxHeartbeats 4000000
/-! FC: the law. -/
namespace G
open PySem PySem.Spec PyProof.Rows L2 NdefX StX
abbrev sLaw : Stmt := topS 65
abbrev nLaw : List Str := ["_law_script", "_law_k", "_law_box_here", "_law_names_here", "_law_fields", "_law_turn"]
theorem scLaw : FnScope nLaw ["_law_script"] (defScope sLaw) := ⟨rfl, rfl, rfl, by decide +kernel, rfl, by decide +kernel, by decide +kernel⟩
def spLaw (K : PySem.W.Frag) : Sp := fun vs H Q _ => ∃ (a : Addr) (ns : List Int), vs = [.ref a] ∧ SqL K H a (ns.map V.int) ∧ ns.length ≤ 63 ∧ ∀ H', Q (.bl true) H'
theorem sqL_same {K : PySem.W.Frag} {H H' : Hp} {a : Addr} {xs : List V} (h : SqL K H a xs) (s : Same H H') : SqL K H' a xs := by
  rcases h with (h | ⟨o, h⟩) | h
  · exact .inl (.inl (s _ _ h))
  · exact .inl (.inr ⟨o, s _ _ h⟩)
  · exact .inr h
theorem same_but {b : Addr} {H H1 H2 : Hp} (s : Same H H1) (n : H b = none) (k : But b H1 H2) : Same H H2 := fun c o e => k c o (ne_of_none e n) (s c o e)
section
variable {P : Program} {w : World} {K : PySem.W.Frag} {mg : Str → Option Value} {base : Heap}
theorem ok_law {f fc fb fn fR fT : Addr} {fd fdc fdb fdn fdR fdT : FuncData} (F : Fun K "law" "law" sLaw f fd)
    (Fc : Fun K "_law_cell" "_law_cell" sCell fc fdc) (bc : Binds K fdc ["_law_script", "_law_k"] []) (gc : mg "_law_cell" = some (.ref fc))
    (Fb : Fun K "_law_box" "_law_box" sBox fb fdb) (bb : Binds K fdb ["_law_cell_here"] []) (gb : mg "_law_box" = some (.ref fb))
    (T : Fun K "_law_take" "_law_take" sTake fT fdT) (bT : Binds K fdT ["_law_box_here", "_law_many"] []) (gT : mg "_law_take" = some (.ref fT))
    (kn : PySem.W.keepIn K (.ref fn) = true) (bn : Binds K fdn ["_law_box_here", "_law_many"] []) (gn : mg "_law_names" = some (.ref fn)) (Gn : FnOk P w K mg base CX0 3 fn fdn ["_law_box_here", "_law_many"] spNames)
    (kR : PySem.W.keepIn K (.ref fR) = true) (bR : Binds K fdR ["_law_box_here", "_law_fields", "_law_names_here"] []) (gR : mg "_law_right" = some (.ref fR)) (GR : FnG P w K mg base CX0 19 fR fdR ["_law_box_here", "_law_fields", "_law_names_here"] spRight)
    (mr : mg "range" = none) (mmx : mg "max" = none) (mmn : mg "min" = none) (ml : mg "len" = none) : FnG P w K mg base CX0 20 f fd ["_law_script"] (spLaw K) := by
  have Gc : FnOk P w K mg base CX0 1 fc fdc ["_law_script", "_law_k"] (spCell' K) := ok_cell Fc ml
  have Gb : FnOk P w K mg base CX0 1 fb fdb ["_law_cell_here"] spBox := ok_box Fb mmx
  have GT : FnOk P w K mg base CX0 1 fT fdT ["_law_box_here", "_law_many"] spTake := ok_take T
  refine FnG.of_body F scLaw (fun vs H Q E h => ?_) (fun cdv A outer s H vs Q E hg hr h => ?_)
  · obtain ⟨a, ns, rfl, _⟩ := h
    rfl
  · obtain ⟨a, ns, rfl, hS, hl, q⟩ := h
    have hr1 := hr.mono (show 1 ≤ 19 by decide)
    have hr3 := hr.mono (show 3 ≤ 19 by decide)
    refine ⟨_, pss_cons (ps_for PassesOwn.never rfl (pi_range1 rfl mr (pa_cons (pe_callB (call_max2 rfl) (by rfl) mmx (by decide +kernel) (pa_cons pe_int (pa_cons (pe_callB (call_min2 rfl) (by rfl) mmn (by decide +kernel)
          (pa_cons (pe_callB call_len_seq (by rfl) ml PySem.boot_len (pa_cons (pv 0) pa_nil)) (pa_cons pe_int pa_nil))) pa_nil))) pa_nil)) (pg_name (i := 1) scLaw.nd rfl (.inl rfl))
        (pss_cons (ps_set (i := 2) scLaw.nd rfl (.inl rfl) (pe_call Gb hr1 rfl gb Fb.kp bb .nil pass0 (pa_cons (pe_call Gc hr1 rfl gc Fc.kp bc .nil pass0 (pa_cons (pv 0) (pa_cons (pv 1) pa_nil))) pa_nil)))
        (pss_cons (ps_set (i := 3) scLaw.nd rfl (.inl rfl) (pe_call Gn hr3 rfl gn kn bn .nil pass0 (pa_cons (pv 2) (pa_cons pe_int pa_nil))))
        (pss_cons (ps_set (i := 4) scLaw.nd rfl (.inl rfl) (pe_call Gn hr3 rfl gn kn bn .nil pass0 (pa_cons (pv 2) (pa_cons pe_int pa_nil))))
        (pss_one (ps_for PassesOwn.never rfl (pi_range1 rfl mr (pa_cons pe_int pa_nil)) (pg_name (i := 5) scLaw.nd rfl (.inl rfl))
          (pss_one (ps_if (pt_not (pt_val (pe_callG GR hg hr rfl gR kR bR .nil pass0 (pa_cons (pv 2) (pa_cons (pv 4) (pa_cons (pv 3) pa_nil)))))) (pss_one (ps_ret pe_bl)) pss_nil))))))))
      (pss_one (ps_ret pe_bl)), ?_⟩
    refine ⟨_, rfl, a, _, rfl, .inl hS, _, _, rfl, _, _, rfl, ?_⟩
    generalize hm : (if (if (6 : Int) < ((ns.map V.int).length : Int) then (6 : Int) else ((ns.map V.int).length : Int)) > 2 then (if (6 : Int) < ((ns.map V.int).length : Int) then (6 : Int) else ((ns.map V.int).length : Int)) else 2) = m
    have hm8 : 0 ≤ m ∧ m ≤ 8 := by
      rw [← hm]
      split <;> split at * <;> omega
    refine ⟨m, rfl, by omega, by omega, ?_⟩
    refine for_range (lo := 0) (n := m.toNat) (fun i σ H' => Same H H' ∧ ∃ x1 x2 x3 x4 x5 : Option V, σ = [some (.ref a), x1, x2, x3, x4, x5]) ?_ ?_ ?_
    · exact ⟨Same.refl H, none, none, none, none, none, rfl⟩
    · rintro i σ H1 hi ⟨s1, x1, x2, x3, x4, x5, rfl⟩
      refine ⟨_, rfl, _, rfl, a, ns, 0 + i, rfl, sqL_same hS s1, by omega, by omega, fun cell => ⟨cell, rfl, fun b H2 nb s2 B2 => ?_⟩⟩
      refine ⟨_, rfl, b, 4, 0, rfl, B2, by decide, by decide, fun p H3 zs l4 zn np e3 B3 k3 => ?_⟩
      refine ⟨_, rfl, b, 3, 0 + 11 + 4, rfl, B3, by decide, by decide, fun p2 H5 ys l6 yn np2 e5 B5 k5 => ?_⟩
      have N3 : Nm H3 p zs := ⟨e3, by omega, by omega, zn⟩
      have N5 := N3.but B3 k5
      have F5 : Nm H5 p2 ys := ⟨e5, by omega, by omega, yn⟩
      have nbH : H b = none := s1.free nb
      have s12 : Same H H2 := s1.trans s2
      have s5 : Same H H5 := same_but (same_but s12 nbH k3) nbH k5
      refine ⟨3, rfl, by decide, by decide, ?_⟩
      refine for_range (lo := 0) (n := 3) (fun t σ H' => But b H5 H' ∧ BoxAt H' b (100 + 3000 * t) ∧ ∃ x5 : Option V, σ = [some (.ref a), some (.int (0 + i)), some (.ref b), some (.ref p), some (.ref p2), x5]) ?_ ?_ ?_
      · exact ⟨But.refl _ _, B5.mono (by omega), _, rfl⟩
      · rintro t σ H6 ht ⟨k6, B6, x5, rfl⟩
        refine ⟨_, rfl, _, rfl, _, rfl, b, p2, p, 100 + 3000 * t, ys, zs, rfl, B6, by omega, F5.but B5 k6, N5.but B5 k6, fun H7 B7 k7 => ⟨_, rfl, iteF ⟨k6.trans k7, B7.mono (by omega), _, rfl⟩⟩⟩
      · rintro σ H6 ⟨k6, B6, x5, rfl⟩
        exact ⟨same_but s5 nbH k6, _, _, _, _, _, rfl⟩
    · rintro σ H1 ⟨s1, x1, x2, x3, x4, x5, rfl⟩
      exact q H1
end
end G
set_option Elab.async false
set_option linter.all false
set_option maxRecDepth 100000
set_option maxHeartbeats 2000000
/-! HK: the head's facts by a Hook of our own: methods that capture __class__, properties, instances that are called; the law's end over it. -/
namespace G
open PySem PySem.Spec PyProof.Rows L2 NdefX StX He

/-! ### defs by where they stand -/
/-- a def of the text: where it stands, its names, its statement, the names that it captures -/
structure Dp where
  at_ : PySem.W.Frag → Addr
  name : Str
  qual : Str
  st : Stmt
  clo : List Str
abbrev FnY : Type := Option (Str × Str × Arguments × FuncBody × Scope × Addr × List Str × Addr)
def fnY (K : PySem.W.Frag) (a : Addr) : FnY := match K.lookup a with
  | some ⟨_, _, .func fd, _⟩ => some (fd.name, fd.qualname, fd.params, fd.body, fd.scope, fd.globals, fd.closure.map (·.1), fd.builtins)
  | _ => none
def Dp.val (d : Dp) : FnY := some (d.name, d.qual, defArgs d.st, .stmts (defBody d.st), defScope d.st, mainGlobals, d.clo, builtinsNs)
def noneB : Value → Bool
  | .none => true
  | _ => false
/-- the def's code, no positional defaults -/
def codB (K : PySem.W.Frag) (a : Addr) (q : Str) : Bool := match K.lookup a with
  | some ⟨_, _, .func fd, _⟩ => PySem.W.codeIn K fd.code q && noneB fd.defaults
  | _ => false
def plainB (K : PySem.W.Frag) (a : Addr) (q : Str) : Bool := PySem.W.keepIn K (.ref a) && codB K a q
theorem fun_of {K : PySem.W.Frag} {a : Addr} {d : Dp} (e : fnY K a = d.val) (hc : d.clo = []) (c : plainB K a d.qual = true) : ∃ fd, Fun K d.name d.qual d.st a fd := by
  obtain ⟨kp, c2⟩ := ba c
  unfold fnY Dp.val at e
  rw [hc] at e
  unfold codB at c2
  cases q : K.lookup a with
  | none =>
    rw [q] at c2
    cases c2
  | some o =>
    obtain ⟨oc, od, dt, osl⟩ := o
    rw [q] at c2 e
    cases dt with
    | func fd =>
      obtain ⟨n1, n2, n3, n4, n5, n6, n7, n8, n9, n10, n11, n12, n13, n14, n15⟩ := fd
      have e2 : (some (n1, n2, n3, n4, n5, n6, n7.map (·.1), n15) : FnY) = some (d.name, d.qual, defArgs d.st, .stmts (defBody d.st), defScope d.st, mainGlobals, [], builtinsNs) := e
      simp only [Option.some.injEq, Prod.mk.injEq] at e2
      obtain ⟨h1, h2, h3, h4, h5, h6, h7, h8⟩ := e2
      have h7' : n7 = [] := List.map_eq_nil_iff.mp h7
      subst h1 h2 h3 h4 h5 h6 h7' h8
      have c3 : (PySem.W.codeIn K n13 d.qual && noneB n8) = true := c2
      obtain ⟨k1, k2⟩ := ba c3
      cases n8 with
      | none => exact ⟨_, ⟨oc, od, n9, n10, n11, n12, n13, n14, osl, rfl, q, k1⟩, kp⟩
      | _ => cases k2
    | _ => cases c2
/-- a method that captures __class__ -/
def celC (K : PySem.W.Frag) (cc C : Addr) : Bool := match K.lookup cc with
  | some ⟨_, _, .cell (some (.ref D)), _⟩ => decide (D = C)
  | _ => false
def cloB (K : PySem.W.Frag) (a C : Addr) : Bool := match K.lookup a with
  | some ⟨_, _, .func fd, _⟩ => (match fd.closure with
    | [(_, cc)] => celC K cc C
    | _ => false)
  | _ => false
/-- .. its code object's file -/
def filC (K : PySem.W.Frag) (c : Addr) (file : Str) : Bool := match K.lookup c with
  | some ⟨_, _, .fields vs, _⟩ => (match vs.toList[2]? with
    | some (Value.str fl _) => file == fl
    | _ => false)
  | _ => false
def filV (K : PySem.W.Frag) (v : Value) (file : Str) : Bool := match v with
  | .ref c => filC K c file
  | _ => false
def filB (K : PySem.W.Frag) (a : Addr) (file : Str) : Bool := match K.lookup a with
  | some ⟨_, _, .func fd, _⟩ => filV K fd.code file
  | _ => false
def kwV (K : PySem.W.Frag) (a : Addr) : Value := match K.lookup a with
  | some ⟨_, _, .func fd, _⟩ => fd.kwdefaults
  | _ => .none
/-- what FunX and SupOf want of the def at a, of the class at C -/
structure ClsDef (P : Program) (K : PySem.W.Frag) (d : Dp) (a C : Addr) : Prop where
  ex : ∃ (oc : Value) (od : Option Addr) (doc pm ct : Value) (an : Option Addr) (osl : Array (Option Value)) (cda cc : Addr) (oc3 : Value) (od3 : Option Addr) (sl3 : Array (Option Value)) (oc2 : Value) (od2 : Option Addr) (vs : Array Value) (sl2 : Array (Option Value)) (fl : Str) (tf : Tok),
    K.lookup a = some ⟨oc, od, .func (PySem.W.ksFn d.name d.qual (defArgs d.st) (defBody d.st) (defScope d.st) .none (kwV K a) doc pm an (.ref cda) ct cc), osl⟩ ∧ PySem.W.codeIn K (.ref cda) d.qual = true ∧
    K.lookup cc = some ⟨oc3, od3, .cell (some (.ref C)), sl3⟩ ∧ K.lookup cda = some ⟨oc2, od2, .fields vs, sl2⟩ ∧ vs.toList[2]? = some (Value.str fl tf) ∧ ((P.main.file : Str) == fl) = true
theorem clsdef_of {P : Program} {K : PySem.W.Frag} {a C : Addr} {d : Dp} (e : fnY K a = d.val) (hc : d.clo = [("__class__" : Str)]) (c : (codB K a d.qual && (cloB K a C && filB K a P.main.file)) = true) : ClsDef P K d a C := by
  obtain ⟨c1, c23⟩ := ba c
  obtain ⟨c2, c3⟩ := ba c23
  unfold fnY Dp.val at e
  rw [hc] at e
  unfold codB at c1
  unfold cloB at c2
  unfold filB at c3
  cases q : K.lookup a with
  | none =>
    rw [q] at c1
    cases c1
  | some o =>
    obtain ⟨oc, od, dt, osl⟩ := o
    rw [q] at c1 c2 c3 e
    cases dt with
    | func fd =>
      have ekw : kwV K a = fd.kwdefaults := by
        unfold kwV
        rw [q]
      obtain ⟨n1, n2, n3, n4, n5, n6, n7, n8, n9, n10, n11, n12, n13, n14, n15⟩ := fd
      have e2 : (some (n1, n2, n3, n4, n5, n6, n7.map (·.1), n15) : FnY) = some (d.name, d.qual, defArgs d.st, .stmts (defBody d.st), defScope d.st, mainGlobals, [("__class__" : Str)], builtinsNs) := e
      simp only [Option.some.injEq, Prod.mk.injEq] at e2
      obtain ⟨h1, h2, h3, h4, h5, h6, h7, h8⟩ := e2
      obtain ⟨cc, rfl⟩ : ∃ cc, n7 = [(("__class__" : Str), cc)] := by
        match n7, h7 with
        | [(y, cc)], h7 =>
          have : y = ("__class__" : Str) := by
            have h9 : [y] = [("__class__" : Str)] := h7
            exact List.head_eq_of_cons_eq h9
          exact ⟨cc, by rw [this]⟩
      subst h1 h2 h3 h4 h5 h6 h8
      have c4 : (PySem.W.codeIn K n13 d.qual && noneB n8) = true := c1
      obtain ⟨k1, k2⟩ := ba c4
      have c5 : celC K cc C = true := c2
      unfold celC at c5
      have c6 : filV K n13 P.main.file = true := c3
      obtain ⟨oc3, od3, sl3, hcell⟩ : ∃ oc3 od3 sl3, K.lookup cc = some ⟨oc3, od3, .cell (some (.ref C)), sl3⟩ := by
        split at c5
        · rename_i x1 x2 D x3 ho
          rw [of_decide_eq_true c5] at ho
          exact ⟨_, _, _, ho⟩
        · cases c5
      cases n13 with
      | ref cda =>
        have c7 : filC K cda P.main.file = true := c6
        unfold filC at c7
        obtain ⟨oc2, od2, vs, sl2, fl, tf, w1, w2, w3⟩ : ∃ oc2 od2 vs sl2 fl tf, K.lookup cda = some ⟨oc2, od2, .fields vs, sl2⟩ ∧ vs.toList[2]? = some (Value.str fl tf) ∧ ((P.main.file : Str) == fl) = true := by
          split at c7
          · rename_i x1 x2 vs x3 ho
            split at c7
            · rename_i fl tf hv
              exact ⟨_, _, vs, _, fl, tf, ho, hv, c7⟩
            · cases c7
          · cases c7
        cases n8 with
        | none =>
          refine ⟨oc, od, n10, n11, n14, n12, osl, cda, cc, oc3, od3, sl3, oc2, od2, vs, sl2, fl, tf, ?_, k1, hcell, w1, w2, w3⟩
          rw [ekw]
          exact q
        | _ => cases k2
      | _ => cases c6
    | _ => cases c1
/-- what super() rests on besides -/
def supB (K : PySem.W.Frag) (C f2 : Addr) : Bool := PySem.W.isClsIn K C && (decide (PySem.W.mroIn K C (.ref C) = some true) && (eqO (PySem.W.nsIn K cStatics "thirdparty.any") (some none) && (eqO (PySem.W.ks_superIn K C C "__init__") (some (some (.ref f2))) &&
  (decide (PySem.W.typeIn K (.ref f2) = some (.type "function")) && PySem.W.fnIn K f2))))
/-! ### properties, calls -/
def getr (K : PySem.W.Frag) (p : Addr) : Addr := match PySem.W.recIn K p "property" with
  | some (.ref g :: _) => g
  | _ => 0
def proB (K : PySem.W.Frag) (C : Addr) (f : Str) : Bool := eqO (PySem.W.findIn K (.ref C) f) (some (some (.ref (ma K C f)))) && (eqO (PySem.W.specialIn K (.ref (ma K C f)) "__get__") (some (some (.builtin "property.__get__"))) &&
  (decide (PySem.W.takesIn K (.ref (ma K C f)) = some true) && (match PySem.W.recIn K (ma K C f) "property" with
    | some (.ref _ :: _) => true
    | _ => false)))
theorem pro_ok {K : PySem.W.Frag} {C : Addr} {f : Str} (h : proB K C f = true) : PropOf K C f (ma K C f) (getr K (ma K C f)) := by
  obtain ⟨c1, c⟩ := ba h
  obtain ⟨c2, c⟩ := ba c
  obtain ⟨c3, c4⟩ := ba c
  refine ⟨eqO_ok c1, eqO_ok c2, of_decide_eq_true c3, ?_⟩
  unfold getr
  split at c4
  · rename_i g rest e
    rw [e]
    exact ⟨rest, rfl⟩
  · cases c4
def calB (K : PySem.W.Frag) (C : Addr) : Bool := eqO (PySem.W.findIn K (.ref C) "__call__") (some (some (.ref (ma K C "__call__")))) && (PySem.W.isFn K (.ref (ma K C "__call__")) && PySem.W.fnIn K (ma K C "__call__"))
theorem cal_ok {K : PySem.W.Frag} {C : Addr} (h : calB K C = true) : CallO K C (ma K C "__call__") := by
  obtain ⟨c1, c⟩ := ba h
  obtain ⟨c2, c3⟩ := ba c
  exact ⟨eqO_ok c1, c2, c3⟩
/-! ### the Hook -/
/-- what an object names, as far as the facts ask -/
def refsQ (o : Obj) : List Addr := match o.data with
  | .dict es _ => es.toList.flatMap fun e => refV e.val
  | .func fd => refV fd.code ++ (refV fd.kwdefaults ++ fd.closure.map (·.2))
  | .cls cd => [cd.ns]
  | .fields vs => (match o.cls with
    | .type n => (match decide (n = "property") with
      | true => vs.toList.flatMap refV
      | false => [])
    | _ => [])
  | _ => []
def frL {α : Type} : List Addr → (List Addr → α) → α
  | [], k => k []
  | a :: r, k => HandSHeadRun.frNat a fun a => frL r fun r => k (a :: r)
theorem frL_eq {α : Type} : ∀ (l : List Addr) (k : List Addr → α), frL l k = k l
  | [], _ => rfl
  | a :: r, k => by
    show (HandSHeadRun.frNat a fun a => frL r fun r => k (a :: r)) = _
    rw [HandSHeadRun.frNat_eq, frL_eq r]
def lvl (g : Addr → Option Obj) (as : List Addr) : List Addr := as.flatMap fun a => match g a with
  | some o => refsQ o
  | none => []
def asQ {α : Type} (g : Addr → Option Obj) : Nat → List Addr → List Addr → (List Addr → α) → α
  | 0, fr, acc, k => k (acc ++ fr)
  | n + 1, fr, acc, k => frL (lvl g fr) fun f2 => asQ g n f2 (acc ++ fr) k
theorem asQ_ex {g : Addr → Option Obj} : ∀ (n : Nat) (fr acc : List Addr), ∃ as : List Addr, ∀ (α : Type) (k : List Addr → α), asQ g n fr acc k = k as
  | 0, fr, acc => ⟨acc ++ fr, fun _ _ => rfl⟩
  | n + 1, fr, acc => by
    obtain ⟨as, h⟩ := asQ_ex (g := g) n (lvl g fr) (acc ++ fr)
    refine ⟨as, fun α k => ?_⟩
    show (frL (lvl g fr) fun f2 => asQ g n f2 (acc ++ fr) k) = _
    rw [frL_eq]
    exact h α k
def frK {α : Type} (g : Addr → Option Obj) : List Addr → (PySem.W.Frag → α) → α
  | [], k => k []
  | a :: r, k => match g a with
    | some o => frK g r fun K => k ((a, o) :: K)
    | none => frK g r k
theorem frK_eq {α : Type} {g : Addr → Option Obj} : ∀ (as : List Addr) (k : PySem.W.Frag → α), frK g as k = k (frG g as)
  | [], _ => rfl
  | a :: r, k => by
    unfold frK frG
    rw [List.filterMap_cons]
    cases g a with
    | some o =>
      show (frK g r fun K => k ((a, o) :: K)) = _
      rw [frK_eq r]
      rfl
    | none =>
      show frK g r k = _
      rw [frK_eq r]
      rfl
abbrev AlP : Type := Bool × List FnY
abbrev Ck : Type := PySem.W.Frag → Bool
def obsP (cs : List Ck) (fn : List Dp) (K : PySem.W.Frag) : AlP := (cs.all fun c => c K, fn.map fun d => fnY K (d.at_ K))
def valP (fn : List Dp) : AlP := (true, fn.map Dp.val)
def SaysP (cs : List Ck) (fn : List Dp) (K : PySem.W.Frag) : Prop := obsP cs fn K = valP fn
def obsPG (n : Nat) (cs : List Ck) (fn : List Dp) (g : Addr → Option Obj) : AlP := asQ g n [mainGlobals, cStatics] [] fun as => frK g as fun K => obsP cs fn K
theorem obsPG_ex (n : Nat) (cs : List Ck) (fn : List Dp) (g : Addr → Option Obj) : ∃ as, obsPG n cs fn g = obsP cs fn (frG g as) := by
  obtain ⟨as, h⟩ := asQ_ex (g := g) n [mainGlobals, cStatics] []
  refine ⟨as, ?_⟩
  unfold obsPG
  rw [h, frK_eq]
def hookP (n : Nat) (cs : List Ck) (fn : List Dp) : PySem.W.Hook where
  α := AlP
  obs := fun s => obsPG n cs fn s.heap.get?
  val := fun _ => valP fn
  says := fun _ h => ∃ K : PySem.W.Frag, K.In h ∧ SaysP cs fn K
  of := fun _ s e => by
    obtain ⟨as, h⟩ := obsPG_ex n cs fn s.heap.get?
    rw [h] at e
    exact ⟨_, frG_in, e⟩
  keeps := fun _ _ _ ⟨K, hK, c⟩ k => ⟨K, PySem.W.Frag.In.keeps hK k, c⟩
theorem obsPG_eq {n : Nat} {cs : List Ck} {fn : List Dp} {g : Addr → Option Obj} {s : Shared} (h : ∀ a, g a = s.heap.get? a) : obsPG n cs fn g = (hookP n cs fn).obs s := by
  have e : g = s.heap.get? := funext h
  rw [e] <;> rfl
section
variable {cs : List Ck} {fn : List Dp} {K : PySem.W.Frag}
theorem SaysP.ck (c : SaysP cs fn K) (i : Nat) {f : Ck} (h : cs[i]? = some f := by rfl) : f K = true :=
  List.all_eq_true.mp (show (cs.all fun c => c K) = true from congrArg (fun z : AlP => z.1) c) f (List.mem_of_getElem? h)
theorem SaysP.at_ (c : SaysP cs fn K) (i : Nat) {d : Dp} (h : fn[i]? = some d := by rfl) : fnY K (d.at_ K) = d.val := by
  have e : fn.map (fun d => fnY K (d.at_ K)) = fn.map Dp.val := congrArg (fun z : AlP => z.2) c
  have e2 : (fn.map fun d => fnY K (d.at_ K))[i]? = (fn.map Dp.val)[i]? := by rw [e]
  rw [List.getElem?_map, List.getElem?_map, h] at e2
  exact Option.some.inj e2
end
/-! ### the law's end -/
theorem walk_goE {l : PySem.W.OpenLaw} {n k : Nat} {q : Program} {loose : List Str} {XP : (Str → Option Value) → Heap → Prop} {YP : World → Heap → Prop} {d : DefRec} {x : Str}
    (most : l.most = some n) (few : n ≤ sizeLine) (nodf : d.params.defaults = []) (hr : Room k callerA)
    (F : ∀ (w : World) (mg : Str → Option Value) (fa : Addr) (h : Heap), YP w h → h.Ns mainGlobals mg → mg d.name = some (.ref fa) →
      ∃ (K : PySem.W.Frag) (fd : FuncData) (sp : Sp), K.In h ∧ (∀ (s : Shared) (u : Value), BindsTo s fd ⟨[u], []⟩ [(x, u)]) ∧
        (∀ (H : Hp) (a : Addr) (ns : List Int), ns.length ≤ n → Only H → SqL K H a (ns.map V.int) → sp [.ref a] H (fun v _ => v = .bl true) fun _ _ _ => False) ∧
        ∀ base : Heap, K.In base → base.Ns mainGlobals mg → FnG l.prog w K mg base CX0 k fa fd [x] sp) :
    PySem.W.WalkO q loose XP YP l.row.toRowW d [] (fun f vs => PySem.call f vs) := by
  refine Att.attach_call most nodf
    fun w _ s₁ mg mb fa _ _ _ _ a vs ns top Y _ _ _ atF obj allInt len noG => ?_
  obtain ⟨K, fd, sp, inK, binds, hsp, keeps⟩ := F w mg fa _ Y top.T.g atF
  exact law_go inK top.T.g top.T.b top.T.builtins top.T.nolimit noG obj allInt (Nat.le_trans len few) hr keeps binds
    fun H hO hS => hsp H a ns len hO hS
end G
set_option Elab.async false
set_option linter.all false
set_option maxRecDepth 100000
set_option maxHeartbeats 2000000
/-! HK2: FunX and SupOf by the Hook. -/
namespace G
open PySem PySem.Spec PyProof.Rows L2 NdefX StX He
theorem funx_of {P : Program} {K : PySem.W.Frag} {d : Dp} {a C f2 : Addr} {x : Str} (D : ClsDef P K d a C) (hx : ∃ ar, ((defArgs d.st).posonlyargs ++ (defArgs d.st).args).head? = some ar ∧ ar.arg = x) (s : supB K C f2 = true)
    (top : (P.main.scope.names.lookup ("super" : Str)).isSome = false) :
    ∃ cda cc fd, FunX K d.name d.qual d.st a cda cc (kwV K a) fd ∧ SupOf P K a cda cc C C f2 x := by
  obtain ⟨oc, od, doc, pm, ct, an, osl, cda, cc, oc3, od3, sl3, oc2, od2, vs, sl2, fl, tf, h1, h2, h3, h4, h5, h6⟩ := D.ex
  obtain ⟨s1, s⟩ := ba s
  obtain ⟨s2, s⟩ := ba s
  obtain ⟨s3, s⟩ := ba s
  obtain ⟨s4, s⟩ := ba s
  obtain ⟨s5, s6⟩ := ba s
  obtain ⟨cd, hcd⟩ := Option.isSome_iff_exists.mp s1
  obtain ⟨ar, e1, e2⟩ := hx
  rw [Array.getElem?_toList] at h5
  exact ⟨cda, cc, _, ⟨⟨oc, od, doc, pm, an, ct, osl, rfl, h1, h2⟩, ⟨oc3, od3, sl3, _, h3⟩⟩,
    ⟨⟨oc, od, _, osl, ar, h1, e1, e2⟩, ⟨oc2, od2, vs, sl2, fl, tf, h4, h5, h6⟩, ⟨oc3, od3, sl3, h3⟩, ⟨cd, hcd⟩, ⟨cd, hcd⟩, of_decide_eq_true s2, eqO_ok s3, eqO_ok s4, of_decide_eq_true s5, s6, top⟩⟩
def intB (K : PySem.W.Frag) (D : Addr) (x : Str) (i : Int) : Bool := match PySem.W.nsIn K D x with
  | some (some (Value.int j _)) => decide (j = i)
  | _ => false
theorem int_of {K : PySem.W.Frag} {D : Addr} {x : Str} {i : Int} (h : intB K D x i = true) : ∃ t, PySem.W.nsIn K D x = some (some (.int i t)) := by
  unfold intB at h
  split at h
  · rename_i j t e
    rw [of_decide_eq_true h] at e
    exact ⟨t, e⟩
  · cases h
def btwDefB (K : PySem.W.Frag) (v : Value) : Bool := match v with
  | .ref D => intB K D "low" (-999) && intB K D "high" 999
  | _ => false
theorem btwDef_of {K : PySem.W.Frag} {v : Value} (h : btwDefB K v = true) : ∃ D, v = .ref D ∧ BtwDef K D := by
  unfold btwDefB at h
  split at h
  · rename_i D
    obtain ⟨h1, h2⟩ := ba h
    exact ⟨D, rfl, int_of h1, int_of h2⟩
  · cases h
end G
set_option Elab.async false
set_option linter.all false
set_option maxRecDepth 100000
set_option maxHeartbeats 2000000
/-! DA: what is said of the five classes, put together. -/
namespace G
open PySem PySem.Spec PyProof.Rows L2 NdefX StX He
section
variable {P : Program} {w : World} {K : PySem.W.Frag} {mg : Str → Option Value} {base : Heap} {c : Cs} {D : Addr}
/-- a sign's method of the class at C -/
def OpOf (P : Program) (w : World) (K : PySem.W.Frag) (mg : Str → Option Value) (base : Heap) (C : Addr) (op : Operator) (sp : Sp) : Prop := ∃ (f : Addr) (fd : FuncData), OpO K C op f ∧ Binds K fd ["self", "other"] [] ∧ FnOk P w K mg base CX0 5 f fd ["self", "other"] sp
theorem polyO {C C2 : Addr} {op : Operator} {sp : Sp} (a : OpOf P w K mg base C op sp) (b : OpOf P w K mg base C2 op sp) (h : C = C2 ∨ PySem.W.subIn K (.ref C2) (.ref C) = some false) : PolyO P w K mg base 5 C C2 op sp := by
  obtain ⟨f, fd, o1, b1, g1⟩ := a
  obtain ⟨g, _, o2, _, _⟩ := b
  exact ⟨f, g, fd, _, o1, o2, h, b1, g1⟩
end
/-! ### facts -/
def condB (K : PySem.W.Frag) (D C : Addr) : Bool := eqO (PySem.W.findIn K (.ref C) "__class__") (some (some (.builtin "object.__class__"))) && (eqO (PySem.W.specialIn K (.builtin "object.__class__") "__get__") (some (some (.builtin "getset_descriptor.__get__"))) &&
  (decide (PySem.W.takesIn K (.builtin "object.__class__") = some true) && (decide (PySem.W.mroIn K C (.type "object") = some true) && decide (PySem.W.kitOne K (.ref C) (.ref D) = some true))))
theorem cond_ok {K : PySem.W.Frag} {D C : Addr} (h : condB K D C = true) (cl : Cls K C) (n1 : NoAttr K C "leaf_count") (n2 : NoAttr K C "height") (n3 : NoAttr K C "name_count") : CondC K D C := by
  obtain ⟨c1, h⟩ := ba h
  obtain ⟨c2, h⟩ := ba h
  obtain ⟨c3, h⟩ := ba h
  obtain ⟨c4, c5⟩ := ba h
  exact ⟨cl, n1, n2, n3, eqO_ok c1, eqO_ok c2, of_decide_eq_true c3, of_decide_eq_true c4, of_decide_eq_true c5⟩
def opB (K : PySem.W.Frag) (C : Addr) (op : Operator) (f : Addr) : Bool := PySem.W.selfFirst K C && (eqO (PySem.W.findIn K (.ref C) (PySem.dunder op.info.2)) (some (some (.ref f))) && (PySem.W.isFn K (.ref f) && eqO (PySem.W.findIn K (.ref C) (dunderR op.info.2)) (some none)))
theorem op_ok {K : PySem.W.Frag} {C f : Addr} {op : Operator} (h : opB K C op f = true) : OpO K C op f := by
  obtain ⟨c1, h⟩ := ba h
  obtain ⟨c2, h⟩ := ba h
  obtain ⟨c3, c4⟩ := ba h
  exact ⟨c1, eqO_ok c2, c3, eqO_ok c4⟩
def invB (K : PySem.W.Frag) (C f : Addr) : Bool := eqO (PySem.W.findIn K (.ref C) "__invert__") (some (some (.ref f))) && PySem.W.isFn K (.ref f)
def notSub (K : PySem.W.Frag) (C2 C : Addr) : Bool := decide (PySem.W.subIn K (.ref C2) (.ref C) = some false)
def eqoB (K : PySem.W.Frag) (C f : Addr) : Bool := eqO (PySem.W.findIn K (.ref C) "__eq__") (some (some (.ref f))) && (PySem.W.isFn K (.ref f) && (eqO (PySem.W.findIn K (.ref C) "__ne__") (some (some (.builtin "object.__ne__"))) && decide (PySem.W.mroIn K C (.type "object") = some true)))
theorem eqo_ok {K : PySem.W.Frag} {C f : Addr} (h : eqoB K C f = true) : EqO K C f := by
  obtain ⟨c1, h⟩ := ba h
  obtain ⟨c2, h⟩ := ba h
  obtain ⟨c3, c4⟩ := ba h
  exact ⟨eqO_ok c1, c2, eqO_ok c3, of_decide_eq_true c4⟩
def strkB (K : PySem.W.Frag) (C f : Addr) : Bool := eqO (PySem.W.findIn K (.ref C) "__str__") (some (some (.ref f))) && (PySem.W.isFn K (.ref f) && (eqO (PySem.W.findIn K (.ref C) "__format__") (some (some (.builtin "object.__format__"))) && decide (PySem.W.mroIn K C (.type "object") = some true)))
theorem strk_ok {K : PySem.W.Frag} {C f : Addr} (h : strkB K C f = true) : StrK K C f := by
  obtain ⟨c1, h⟩ := ba h
  obtain ⟨c2, h⟩ := ba h
  obtain ⟨c3, c4⟩ := ba h
  exact ⟨eqO_ok c1, c2, eqO_ok c3, of_decide_eq_true c4⟩
def five : List Nat := [0, 1, 2, 3, 4]
theorem five_mem {i : Nat} (h : i < 5) : i ∈ five := by
  match i, h with
  | 0, _ => decide
  | 1, _ => decide
  | 2, _ => decide
  | 3, _ => decide
  | 4, _ => decide
def tys : List String := ["NoneType", "int", "str", "list", "tuple"]
def kitB (K : PySem.W.Frag) (c : Cs) : Bool := five.all fun i => five.all fun j => decide (PySem.W.kitOne K (.ref (c.at i)) (.ref (c.at j)) = some (decide (i = j)))
def kitTB (K : PySem.W.Frag) (c : Cs) : Bool := tys.all fun T => five.all fun j => decide (PySem.W.kitOne K (.type T) (.ref (c.at j)) = some false)
def nofB (K : PySem.W.Frag) (c : Cs) : Bool := five.all fun i => five.all fun j => PySem.W.notFirst K (c.at j) (.ref (c.at i))
def nofTB (K : PySem.W.Frag) (c : Cs) : Bool := tys.all fun T => five.all fun j => PySem.W.notFirst K (c.at j) (.type T)
theorem eqk_ok {K : PySem.W.Frag} {c : Cs} (h1 : kitB K c = true) (h2 : kitTB K c = true) (h3 : nofB K c = true) (h4 : nofTB K c = true) : EqK K c :=
  ⟨fun i j hi hj => of_decide_eq_true (List.all_eq_true.mp (List.all_eq_true.mp h1 i (five_mem hi)) j (five_mem hj)), fun T hT j hj => of_decide_eq_true (List.all_eq_true.mp (List.all_eq_true.mp h2 T hT) j (five_mem hj)),
    fun i j hi hj => List.all_eq_true.mp (List.all_eq_true.mp h3 i (five_mem hi)) j (five_mem hj), fun T hT j hj => List.all_eq_true.mp (List.all_eq_true.mp h4 T hT) j (five_mem hj)⟩
def kindB (K : PySem.W.Frag) (c : Cs) (L R : Addr) : Bool := five.all fun i => decide (PySem.W.kitOne K (.ref (c.at i)) (.ref L) = some (decide (i < 2))) && decide (PySem.W.kitOne K (.ref (c.at i)) (.ref R) = some (decide (2 < i)))
theorem kind_ok {K : PySem.W.Frag} {c : Cs} {L R : Addr} (h : kindB K c L R = true) : KindK K c L R :=
  ⟨fun i hi => of_decide_eq_true (ba (List.all_eq_true.mp h i (five_mem hi))).1, fun i hi => of_decide_eq_true (ba (List.all_eq_true.mp h i (five_mem hi))).2⟩
end G
set_option Elab.async false
set_option linter.all false
set_option maxRecDepth 100000
set_option maxHeartbeats 8000000
/-! EA: what the top has written. -/
namespace G
open PySem PySem.Spec PyProof.Rows L2 NdefX StX
theorem fx_binds {K : PySem.W.Frag} {x qual : Str} {st : Stmt} {f cda cc : Addr} {kV : Value} {fd : FuncData} {ps : List Str} (F : FunX K x qual st f cda cc kV fd)
    (h : ∀ (kV doc pm : Value) (an : Option Addr) (cdv ct : Value) (cc : Addr) (us : List Value), us.length = ps.length → bindArgs (PySem.W.ksFn x qual (defArgs st) (defBody st) (defScope st) .none kV doc pm an cdv ct cc) ⟨us, []⟩ = pure (ps.zip us)) : Binds K fd ps [] := by
  obtain ⟨oc, od, doc, pm, an, ct, osl, rfl, lk, hcd⟩ := F.ex
  intro s us _ hl
  rw [List.append_nil] at hl ⊢
  exact .of_eq (h _ _ _ _ _ _ _ us hl)
abbrev PX : Program := PySem.W.OpenLaw.prog PySem.Challenge.rw_listviews_k09_operators_and_equal_condit
def cks0 : List Ck := [
  fun K => He.Fa.ok K (.free "isinstance"),
  fun K => He.Fa.ok K (.free "int"),
  fun K => He.Fa.ok K (.free "bool"),
  fun K => He.Fa.ok K (.free "str"),
  fun K => He.Fa.ok K (.free "dict"),
  fun K => He.Fa.ok K (.free "len"),
  fun K => He.Fa.ok K (.free "all"),
  fun K => He.Fa.ok K (.free "list"),
  fun K => He.Fa.ok K (.free "range"),
  fun K => He.Fa.ok K (.free "min"),
  fun K => He.Fa.ok K (.free "max"),
  fun K => He.Fa.ok K (.free "repr"),
  fun K => He.Fa.ok K (.free "tuple"),
  fun K => He.Fa.ok K (.free "super"),
  fun K => He.Fa.ok K (.free "sum"),
  fun K => He.Fa.ok K (.str "LETTERS" "abcdefghijklmnopqrstuvwxyz"),
  fun K => He.Fa.ok K (.int "MOST_LETTERS" 8),
  fun K => He.Fa.ok K (.int "MOST_FIELDS" 6),
  fun K => He.Fa.ok K (.int "GREATEST" 999),
  fun K => He.Fa.ok K (.int "MOST_LEAVES" 6),
  fun K => He.Fa.ok K (.int "MOST_DEPTH" 5),
  fun K => He.Fa.ok K (.int "MOST_NAMES" 8),
  fun K => plainB K (He.ga K "is_integer") "is_integer",
  fun K => He.Fa.ok K (.glo "is_integer"),
  fun K => plainB K (He.ga K "is_name") "is_name",
  fun K => He.Fa.ok K (.glo "is_name"),
  fun K => plainB K (He.ga K "need_integer") "need_integer",
  fun K => He.Fa.ok K (.glo "need_integer"),
  fun K => plainB K (He.ga K "need_name") "need_name",
  fun K => He.Fa.ok K (.glo "need_name")]
def cks1 : List Ck := [
  fun K => plainB K (He.ga K "need_condition") "need_condition",
  fun K => He.Fa.ok K (.glo "need_condition"),
  fun K => plainB K (He.ga K "sizes_of_pair") "sizes_of_pair",
  fun K => He.Fa.ok K (.glo "sizes_of_pair"),
  fun K => plainB K (He.ga K "_law_cell") "_law_cell",
  fun K => He.Fa.ok K (.glo "_law_cell"),
  fun K => plainB K (He.ga K "_law_box") "_law_box",
  fun K => He.Fa.ok K (.glo "_law_box"),
  fun K => plainB K (He.ga K "_law_take") "_law_take",
  fun K => He.Fa.ok K (.glo "_law_take"),
  fun K => plainB K (He.ga K "_law_mixed") "_law_mixed",
  fun K => He.Fa.ok K (.glo "_law_mixed"),
  fun K => plainB K (He.ga K "_law_names") "_law_names",
  fun K => He.Fa.ok K (.glo "_law_names"),
  fun K => plainB K (He.ga K "_law_number") "_law_number",
  fun K => He.Fa.ok K (.glo "_law_number"),
  fun K => plainB K (He.ga K "_law_named") "_law_named",
  fun K => He.Fa.ok K (.glo "_law_named"),
  fun K => plainB K (He.ga K "_law_leaf") "_law_leaf",
  fun K => He.Fa.ok K (.glo "_law_leaf"),
  fun K => plainB K (He.ga K "_law_model") "_law_model",
  fun K => He.Fa.ok K (.glo "_law_model"),
  fun K => plainB K (He.ga K "_law_built") "_law_built",
  fun K => He.Fa.ok K (.glo "_law_built"),
  fun K => plainB K (He.ga K "_law_leaves") "_law_leaves",
  fun K => He.Fa.ok K (.glo "_law_leaves"),
  fun K => plainB K (He.ga K "_law_depth") "_law_depth",
  fun K => He.Fa.ok K (.glo "_law_depth"),
  fun K => plainB K (He.ga K "_law_listed") "_law_listed",
  fun K => He.Fa.ok K (.glo "_law_listed")]
def cks2 : List Ck := [
  fun K => plainB K (He.ga K "_law_capped") "_law_capped",
  fun K => He.Fa.ok K (.glo "_law_capped"),
  fun K => plainB K (He.ga K "_law_one_name") "_law_one_name",
  fun K => He.Fa.ok K (.glo "_law_one_name"),
  fun K => plainB K (He.ga K "_law_other") "_law_other",
  fun K => He.Fa.ok K (.glo "_law_other"),
  fun K => plainB K (He.ga K "_law_classes_right") "_law_classes_right",
  fun K => He.Fa.ok K (.glo "_law_classes_right"),
  fun K => plainB K (He.ga K "_law_parts_right") "_law_parts_right",
  fun K => He.Fa.ok K (.glo "_law_parts_right"),
  fun K => plainB K (He.ga K "_law_right") "_law_right",
  fun K => He.Fa.ok K (.glo "_law_right"),
  fun K => plainB K (He.ga K "law") "law",
  fun K => He.Fa.ok K (.glo "law"),
  fun K => He.Fa.ok K (.glo "Condition"),
  fun K => He.Fa.ok K (.glo "Leaf"),
  fun K => He.Fa.ok K (.glo "Pair"),
  fun K => plainB K (He.ma K (He.ga K "Condition") "__init__") "Condition.__init__",
  fun K => He.Fa.ok K (.glo "Between"),
  fun K => He.Fa.ok K (.cls "Between"),
  fun K => He.Fa.ok K (.noat "Between" "leaf_count"),
  fun K => He.Fa.ok K (.noat "Between" "height"),
  fun K => He.Fa.ok K (.noat "Between" "name_count"),
  fun K => He.Fa.ok K (.noat "Between" "field_name"),
  fun K => He.Fa.ok K (.noat "Between" "lowest"),
  fun K => He.Fa.ok K (.noat "Between" "highest"),
  fun K => He.Fa.ok K (.mkr "Between"),
  fun K => codB K (He.ma K (He.ga K "Between") "__init__") "Between.__init__" && (cloB K (He.ma K (He.ga K "Between") "__init__") (He.ga K "Between") && filB K (He.ma K (He.ga K "Between") "__init__") PX.main.file),
  fun K => supB K (He.ga K "Between") (He.ma K (He.ga K "Condition") "__init__"),
  fun K => condB K (He.ga K "Condition") (He.ga K "Between")]
def cks3 : List Ck := [
  fun K => plainB K (He.ma K (He.ga K "Between") "leaves") "Between.leaves",
  fun K => He.Fa.ok K (.meth "Between" "leaves"),
  fun K => plainB K (getr K (He.ma K (He.ga K "Between") "field")) "Between.field",
  fun K => proB K (He.ga K "Between") "field",
  fun K => plainB K (getr K (He.ma K (He.ga K "Between") "low")) "Between.low",
  fun K => proB K (He.ga K "Between") "low",
  fun K => plainB K (getr K (He.ma K (He.ga K "Between") "high")) "Between.high",
  fun K => proB K (He.ga K "Between") "high",
  fun K => plainB K (He.ma K (He.ga K "Between") "__eq__") "Between.__eq__",
  fun K => eqoB K (He.ga K "Between") (He.ma K (He.ga K "Between") "__eq__"),
  fun K => plainB K (He.ma K (He.ga K "Between") "__str__") "Between.__str__",
  fun K => strkB K (He.ga K "Between") (He.ma K (He.ga K "Between") "__str__"),
  fun K => plainB K (He.ma K (He.ga K "Between") "__and__") "Between.__and__",
  fun K => opB K (He.ga K "Between") .BitAnd (He.ma K (He.ga K "Between") "__and__"),
  fun K => plainB K (He.ma K (He.ga K "Between") "__or__") "Between.__or__",
  fun K => opB K (He.ga K "Between") .BitOr (He.ma K (He.ga K "Between") "__or__"),
  fun K => plainB K (He.ma K (He.ga K "Between") "__invert__") "Between.__invert__",
  fun K => invB K (He.ga K "Between") (He.ma K (He.ga K "Between") "__invert__"),
  fun K => He.Fa.ok K (.glo "Named"),
  fun K => He.Fa.ok K (.cls "Named"),
  fun K => He.Fa.ok K (.noat "Named" "leaf_count"),
  fun K => He.Fa.ok K (.noat "Named" "height"),
  fun K => He.Fa.ok K (.noat "Named" "name_count"),
  fun K => He.Fa.ok K (.noat "Named" "accepted_names"),
  fun K => He.Fa.ok K (.mkr "Named"),
  fun K => codB K (He.ma K (He.ga K "Named") "__init__") "Named.__init__" && (cloB K (He.ma K (He.ga K "Named") "__init__") (He.ga K "Named") && filB K (He.ma K (He.ga K "Named") "__init__") PX.main.file),
  fun K => supB K (He.ga K "Named") (He.ma K (He.ga K "Condition") "__init__"),
  fun K => condB K (He.ga K "Condition") (He.ga K "Named"),
  fun K => plainB K (He.ma K (He.ga K "Named") "leaves") "Named.leaves",
  fun K => He.Fa.ok K (.meth "Named" "leaves")]
def cks4 : List Ck := [
  fun K => plainB K (getr K (He.ma K (He.ga K "Named") "accepted")) "Named.accepted",
  fun K => proB K (He.ga K "Named") "accepted",
  fun K => plainB K (He.ma K (He.ga K "Named") "__eq__") "Named.__eq__",
  fun K => eqoB K (He.ga K "Named") (He.ma K (He.ga K "Named") "__eq__"),
  fun K => plainB K (He.ma K (He.ga K "Named") "__str__") "Named.__str__",
  fun K => strkB K (He.ga K "Named") (He.ma K (He.ga K "Named") "__str__"),
  fun K => plainB K (He.ma K (He.ga K "Named") "__and__") "Named.__and__",
  fun K => opB K (He.ga K "Named") .BitAnd (He.ma K (He.ga K "Named") "__and__"),
  fun K => plainB K (He.ma K (He.ga K "Named") "__or__") "Named.__or__",
  fun K => opB K (He.ga K "Named") .BitOr (He.ma K (He.ga K "Named") "__or__"),
  fun K => plainB K (He.ma K (He.ga K "Named") "__invert__") "Named.__invert__",
  fun K => invB K (He.ga K "Named") (He.ma K (He.ga K "Named") "__invert__"),
  fun K => He.Fa.ok K (.glo "Not"),
  fun K => He.Fa.ok K (.cls "Not"),
  fun K => He.Fa.ok K (.noat "Not" "leaf_count"),
  fun K => He.Fa.ok K (.noat "Not" "height"),
  fun K => He.Fa.ok K (.noat "Not" "name_count"),
  fun K => He.Fa.ok K (.noat "Not" "inner"),
  fun K => He.Fa.ok K (.mkr "Not"),
  fun K => codB K (He.ma K (He.ga K "Not") "__init__") "Not.__init__" && (cloB K (He.ma K (He.ga K "Not") "__init__") (He.ga K "Not") && filB K (He.ma K (He.ga K "Not") "__init__") PX.main.file),
  fun K => supB K (He.ga K "Not") (He.ma K (He.ga K "Condition") "__init__"),
  fun K => condB K (He.ga K "Condition") (He.ga K "Not"),
  fun K => plainB K (He.ma K (He.ga K "Not") "leaves") "Not.leaves",
  fun K => He.Fa.ok K (.meth "Not" "leaves"),
  fun K => plainB K (getr K (He.ma K (He.ga K "Not") "one")) "Not.one",
  fun K => proB K (He.ga K "Not") "one",
  fun K => plainB K (He.ma K (He.ga K "Not") "__eq__") "Not.__eq__",
  fun K => eqoB K (He.ga K "Not") (He.ma K (He.ga K "Not") "__eq__"),
  fun K => plainB K (He.ma K (He.ga K "Not") "__str__") "Not.__str__",
  fun K => strkB K (He.ga K "Not") (He.ma K (He.ga K "Not") "__str__")]
def cks5 : List Ck := [
  fun K => plainB K (He.ma K (He.ga K "Not") "__and__") "Not.__and__",
  fun K => opB K (He.ga K "Not") .BitAnd (He.ma K (He.ga K "Not") "__and__"),
  fun K => plainB K (He.ma K (He.ga K "Not") "__or__") "Not.__or__",
  fun K => opB K (He.ga K "Not") .BitOr (He.ma K (He.ga K "Not") "__or__"),
  fun K => plainB K (He.ma K (He.ga K "Not") "__invert__") "Not.__invert__",
  fun K => invB K (He.ga K "Not") (He.ma K (He.ga K "Not") "__invert__"),
  fun K => He.Fa.ok K (.glo "Both"),
  fun K => He.Fa.ok K (.cls "Both"),
  fun K => He.Fa.ok K (.noat "Both" "leaf_count"),
  fun K => He.Fa.ok K (.noat "Both" "height"),
  fun K => He.Fa.ok K (.noat "Both" "name_count"),
  fun K => He.Fa.ok K (.noat "Both" "first"),
  fun K => He.Fa.ok K (.noat "Both" "second"),
  fun K => He.Fa.ok K (.mkr "Both"),
  fun K => codB K (He.ma K (He.ga K "Both") "__init__") "Both.__init__" && (cloB K (He.ma K (He.ga K "Both") "__init__") (He.ga K "Both") && filB K (He.ma K (He.ga K "Both") "__init__") PX.main.file),
  fun K => supB K (He.ga K "Both") (He.ma K (He.ga K "Condition") "__init__"),
  fun K => condB K (He.ga K "Condition") (He.ga K "Both"),
  fun K => plainB K (He.ma K (He.ga K "Both") "leaves") "Both.leaves",
  fun K => He.Fa.ok K (.meth "Both" "leaves"),
  fun K => plainB K (getr K (He.ma K (He.ga K "Both") "one")) "Both.one",
  fun K => proB K (He.ga K "Both") "one",
  fun K => plainB K (getr K (He.ma K (He.ga K "Both") "other")) "Both.other",
  fun K => proB K (He.ga K "Both") "other",
  fun K => plainB K (He.ma K (He.ga K "Both") "__eq__") "Both.__eq__",
  fun K => eqoB K (He.ga K "Both") (He.ma K (He.ga K "Both") "__eq__"),
  fun K => plainB K (He.ma K (He.ga K "Both") "__str__") "Both.__str__",
  fun K => strkB K (He.ga K "Both") (He.ma K (He.ga K "Both") "__str__"),
  fun K => plainB K (He.ma K (He.ga K "Both") "__and__") "Both.__and__",
  fun K => opB K (He.ga K "Both") .BitAnd (He.ma K (He.ga K "Both") "__and__"),
  fun K => plainB K (He.ma K (He.ga K "Both") "__or__") "Both.__or__"]
def cks6 : List Ck := [
  fun K => opB K (He.ga K "Both") .BitOr (He.ma K (He.ga K "Both") "__or__"),
  fun K => plainB K (He.ma K (He.ga K "Both") "__invert__") "Both.__invert__",
  fun K => invB K (He.ga K "Both") (He.ma K (He.ga K "Both") "__invert__"),
  fun K => He.Fa.ok K (.glo "Either"),
  fun K => He.Fa.ok K (.cls "Either"),
  fun K => He.Fa.ok K (.noat "Either" "leaf_count"),
  fun K => He.Fa.ok K (.noat "Either" "height"),
  fun K => He.Fa.ok K (.noat "Either" "name_count"),
  fun K => He.Fa.ok K (.noat "Either" "first"),
  fun K => He.Fa.ok K (.noat "Either" "second"),
  fun K => He.Fa.ok K (.mkr "Either"),
  fun K => codB K (He.ma K (He.ga K "Either") "__init__") "Either.__init__" && (cloB K (He.ma K (He.ga K "Either") "__init__") (He.ga K "Either") && filB K (He.ma K (He.ga K "Either") "__init__") PX.main.file),
  fun K => supB K (He.ga K "Either") (He.ma K (He.ga K "Condition") "__init__"),
  fun K => condB K (He.ga K "Condition") (He.ga K "Either"),
  fun K => plainB K (He.ma K (He.ga K "Either") "leaves") "Either.leaves",
  fun K => He.Fa.ok K (.meth "Either" "leaves"),
  fun K => plainB K (getr K (He.ma K (He.ga K "Either") "one")) "Either.one",
  fun K => proB K (He.ga K "Either") "one",
  fun K => plainB K (getr K (He.ma K (He.ga K "Either") "other")) "Either.other",
  fun K => proB K (He.ga K "Either") "other",
  fun K => plainB K (He.ma K (He.ga K "Either") "__eq__") "Either.__eq__",
  fun K => eqoB K (He.ga K "Either") (He.ma K (He.ga K "Either") "__eq__"),
  fun K => plainB K (He.ma K (He.ga K "Either") "__str__") "Either.__str__",
  fun K => strkB K (He.ga K "Either") (He.ma K (He.ga K "Either") "__str__"),
  fun K => plainB K (He.ma K (He.ga K "Either") "__and__") "Either.__and__",
  fun K => opB K (He.ga K "Either") .BitAnd (He.ma K (He.ga K "Either") "__and__"),
  fun K => plainB K (He.ma K (He.ga K "Either") "__or__") "Either.__or__",
  fun K => opB K (He.ga K "Either") .BitOr (He.ma K (He.ga K "Either") "__or__"),
  fun K => plainB K (He.ma K (He.ga K "Either") "__invert__") "Either.__invert__",
  fun K => invB K (He.ga K "Either") (He.ma K (He.ga K "Either") "__invert__")]
def cks7 : List Ck := [
  fun K => btwDefB K (kwV K (He.ma K (He.ga K "Between") "__init__")),
  fun K => notSub K (He.ga K "Between") (He.ga K "Named"),
  fun K => notSub K (He.ga K "Between") (He.ga K "Not"),
  fun K => notSub K (He.ga K "Between") (He.ga K "Both"),
  fun K => notSub K (He.ga K "Between") (He.ga K "Either"),
  fun K => notSub K (He.ga K "Named") (He.ga K "Between"),
  fun K => notSub K (He.ga K "Named") (He.ga K "Not"),
  fun K => notSub K (He.ga K "Named") (He.ga K "Both"),
  fun K => notSub K (He.ga K "Named") (He.ga K "Either"),
  fun K => notSub K (He.ga K "Not") (He.ga K "Between"),
  fun K => notSub K (He.ga K "Not") (He.ga K "Named"),
  fun K => notSub K (He.ga K "Not") (He.ga K "Both"),
  fun K => notSub K (He.ga K "Not") (He.ga K "Either"),
  fun K => notSub K (He.ga K "Both") (He.ga K "Between"),
  fun K => notSub K (He.ga K "Both") (He.ga K "Named"),
  fun K => notSub K (He.ga K "Both") (He.ga K "Not"),
  fun K => notSub K (He.ga K "Both") (He.ga K "Either"),
  fun K => notSub K (He.ga K "Either") (He.ga K "Between"),
  fun K => notSub K (He.ga K "Either") (He.ga K "Named"),
  fun K => notSub K (He.ga K "Either") (He.ga K "Not"),
  fun K => notSub K (He.ga K "Either") (He.ga K "Both"),
  fun K => kitB K (⟨He.ga K "Between", He.ga K "Named", He.ga K "Not", He.ga K "Both", He.ga K "Either"⟩ : Cs),
  fun K => kitTB K (⟨He.ga K "Between", He.ga K "Named", He.ga K "Not", He.ga K "Both", He.ga K "Either"⟩ : Cs),
  fun K => nofB K (⟨He.ga K "Between", He.ga K "Named", He.ga K "Not", He.ga K "Both", He.ga K "Either"⟩ : Cs),
  fun K => nofTB K (⟨He.ga K "Between", He.ga K "Named", He.ga K "Not", He.ga K "Both", He.ga K "Either"⟩ : Cs),
  fun K => kindB K (⟨He.ga K "Between", He.ga K "Named", He.ga K "Not", He.ga K "Both", He.ga K "Either"⟩ : Cs) (He.ga K "Leaf") (He.ga K "Pair")]
abbrev cks : List Ck := cks0 ++ cks1 ++ cks2 ++ cks3 ++ cks4 ++ cks5 ++ cks6 ++ cks7
def fns0 : List Dp := [
  ⟨fun K => He.ga K "is_integer", "is_integer", "is_integer", sIsInt, []⟩,
  ⟨fun K => He.ga K "is_name", "is_name", "is_name", sIsName, []⟩,
  ⟨fun K => He.ga K "need_integer", "need_integer", "need_integer", sNeedInt, []⟩,
  ⟨fun K => He.ga K "need_name", "need_name", "need_name", sNeedName, []⟩,
  ⟨fun K => He.ga K "need_condition", "need_condition", "need_condition", sNeedCond, []⟩,
  ⟨fun K => He.ga K "sizes_of_pair", "sizes_of_pair", "sizes_of_pair", sSizes, []⟩,
  ⟨fun K => He.ga K "_law_cell", "_law_cell", "_law_cell", sCell, []⟩,
  ⟨fun K => He.ga K "_law_box", "_law_box", "_law_box", sBox, []⟩,
  ⟨fun K => He.ga K "_law_take", "_law_take", "_law_take", sTake, []⟩,
  ⟨fun K => He.ga K "_law_mixed", "_law_mixed", "_law_mixed", sMixed, []⟩,
  ⟨fun K => He.ga K "_law_names", "_law_names", "_law_names", sNames, []⟩,
  ⟨fun K => He.ga K "_law_number", "_law_number", "_law_number", sNumber, []⟩,
  ⟨fun K => He.ga K "_law_named", "_law_named", "_law_named", sNamed, []⟩,
  ⟨fun K => He.ga K "_law_leaf", "_law_leaf", "_law_leaf", sLeaf, []⟩,
  ⟨fun K => He.ga K "_law_model", "_law_model", "_law_model", sModel, []⟩,
  ⟨fun K => He.ga K "_law_built", "_law_built", "_law_built", sBuilt, []⟩,
  ⟨fun K => He.ga K "_law_leaves", "_law_leaves", "_law_leaves", sLLeaves, []⟩,
  ⟨fun K => He.ga K "_law_depth", "_law_depth", "_law_depth", sLDepth, []⟩,
  ⟨fun K => He.ga K "_law_listed", "_law_listed", "_law_listed", sListed, []⟩,
  ⟨fun K => He.ga K "_law_capped", "_law_capped", "_law_capped", sCapped, []⟩]
def fns1 : List Dp := [
  ⟨fun K => He.ga K "_law_one_name", "_law_one_name", "_law_one_name", sOneName, []⟩,
  ⟨fun K => He.ga K "_law_other", "_law_other", "_law_other", sOther, []⟩,
  ⟨fun K => He.ga K "_law_classes_right", "_law_classes_right", "_law_classes_right", sKinds, []⟩,
  ⟨fun K => He.ga K "_law_parts_right", "_law_parts_right", "_law_parts_right", sParts, []⟩,
  ⟨fun K => He.ga K "_law_right", "_law_right", "_law_right", sR9, []⟩,
  ⟨fun K => He.ga K "law", "law", "law", sLaw, []⟩,
  ⟨fun K => He.ma K (He.ga K "Condition") "__init__", "__init__", "Condition.__init__", sCondInit, []⟩,
  ⟨fun K => He.ma K (He.ga K "Between") "__init__", "__init__", "Between.__init__", sBtwInit, ["__class__"]⟩,
  ⟨fun K => He.ma K (He.ga K "Between") "leaves", "leaves", "Between.leaves", (sBtw 6), []⟩,
  ⟨fun K => getr K (He.ma K (He.ga K "Between") "field"), "field", "Between.field", (sBtw 1), []⟩,
  ⟨fun K => getr K (He.ma K (He.ga K "Between") "low"), "low", "Between.low", (sBtw 2), []⟩,
  ⟨fun K => getr K (He.ma K (He.ga K "Between") "high"), "high", "Between.high", (sBtw 3), []⟩,
  ⟨fun K => He.ma K (He.ga K "Between") "__eq__", "__eq__", "Between.__eq__", (sBtw 11), []⟩,
  ⟨fun K => He.ma K (He.ga K "Between") "__str__", "__str__", "Between.__str__", (sBtw 12), []⟩,
  ⟨fun K => He.ma K (He.ga K "Between") "__and__", "__and__", "Between.__and__", (sBtw 8), []⟩,
  ⟨fun K => He.ma K (He.ga K "Between") "__or__", "__or__", "Between.__or__", (sBtw 9), []⟩,
  ⟨fun K => He.ma K (He.ga K "Between") "__invert__", "__invert__", "Between.__invert__", (sBtw 10), []⟩,
  ⟨fun K => He.ma K (He.ga K "Named") "__init__", "__init__", "Named.__init__", sNamInit, ["__class__"]⟩,
  ⟨fun K => He.ma K (He.ga K "Named") "leaves", "leaves", "Named.leaves", (sNam 4), []⟩,
  ⟨fun K => getr K (He.ma K (He.ga K "Named") "accepted"), "accepted", "Named.accepted", (sNam 1), []⟩]
def fns2 : List Dp := [
  ⟨fun K => He.ma K (He.ga K "Named") "__eq__", "__eq__", "Named.__eq__", (sNam 9), []⟩,
  ⟨fun K => He.ma K (He.ga K "Named") "__str__", "__str__", "Named.__str__", (sNam 10), []⟩,
  ⟨fun K => He.ma K (He.ga K "Named") "__and__", "__and__", "Named.__and__", (sNam 6), []⟩,
  ⟨fun K => He.ma K (He.ga K "Named") "__or__", "__or__", "Named.__or__", (sNam 7), []⟩,
  ⟨fun K => He.ma K (He.ga K "Named") "__invert__", "__invert__", "Named.__invert__", (sNam 8), []⟩,
  ⟨fun K => He.ma K (He.ga K "Not") "__init__", "__init__", "Not.__init__", (sNt 0), ["__class__"]⟩,
  ⟨fun K => He.ma K (He.ga K "Not") "leaves", "leaves", "Not.leaves", (sNt 5), []⟩,
  ⟨fun K => getr K (He.ma K (He.ga K "Not") "one"), "one", "Not.one", (sNt 1), []⟩,
  ⟨fun K => He.ma K (He.ga K "Not") "__eq__", "__eq__", "Not.__eq__", (sNt 10), []⟩,
  ⟨fun K => He.ma K (He.ga K "Not") "__str__", "__str__", "Not.__str__", (sNt 11), []⟩,
  ⟨fun K => He.ma K (He.ga K "Not") "__and__", "__and__", "Not.__and__", (sNt 7), []⟩,
  ⟨fun K => He.ma K (He.ga K "Not") "__or__", "__or__", "Not.__or__", (sNt 8), []⟩,
  ⟨fun K => He.ma K (He.ga K "Not") "__invert__", "__invert__", "Not.__invert__", (sNt 9), []⟩,
  ⟨fun K => He.ma K (He.ga K "Both") "__init__", "__init__", "Both.__init__", (sBo 0), ["__class__"]⟩,
  ⟨fun K => He.ma K (He.ga K "Both") "leaves", "leaves", "Both.leaves", (sBo 5), []⟩,
  ⟨fun K => getr K (He.ma K (He.ga K "Both") "one"), "one", "Both.one", (sBo 1), []⟩,
  ⟨fun K => getr K (He.ma K (He.ga K "Both") "other"), "other", "Both.other", (sBo 2), []⟩,
  ⟨fun K => He.ma K (He.ga K "Both") "__eq__", "__eq__", "Both.__eq__", (sBo 10), []⟩,
  ⟨fun K => He.ma K (He.ga K "Both") "__str__", "__str__", "Both.__str__", (sBo 11), []⟩,
  ⟨fun K => He.ma K (He.ga K "Both") "__and__", "__and__", "Both.__and__", (sBo 7), []⟩]
def fns3 : List Dp := [
  ⟨fun K => He.ma K (He.ga K "Both") "__or__", "__or__", "Both.__or__", (sBo 8), []⟩,
  ⟨fun K => He.ma K (He.ga K "Both") "__invert__", "__invert__", "Both.__invert__", (sBo 9), []⟩,
  ⟨fun K => He.ma K (He.ga K "Either") "__init__", "__init__", "Either.__init__", (sEi 0), ["__class__"]⟩,
  ⟨fun K => He.ma K (He.ga K "Either") "leaves", "leaves", "Either.leaves", (sEi 5), []⟩,
  ⟨fun K => getr K (He.ma K (He.ga K "Either") "one"), "one", "Either.one", (sEi 1), []⟩,
  ⟨fun K => getr K (He.ma K (He.ga K "Either") "other"), "other", "Either.other", (sEi 2), []⟩,
  ⟨fun K => He.ma K (He.ga K "Either") "__eq__", "__eq__", "Either.__eq__", (sEi 10), []⟩,
  ⟨fun K => He.ma K (He.ga K "Either") "__str__", "__str__", "Either.__str__", (sEi 11), []⟩,
  ⟨fun K => He.ma K (He.ga K "Either") "__and__", "__and__", "Either.__and__", (sEi 7), []⟩,
  ⟨fun K => He.ma K (He.ga K "Either") "__or__", "__or__", "Either.__or__", (sEi 8), []⟩,
  ⟨fun K => He.ma K (He.ga K "Either") "__invert__", "__invert__", "Either.__invert__", (sEi 9), []⟩]
abbrev fns : List Dp := fns0 ++ fns1 ++ fns2 ++ fns3
theorem facts {w : World} {K : PySem.W.Frag} {h : Heap} {mg : Str → Option Value} {fa : Addr} (X : K.In h) (G : h.Ns mainGlobals mg) (hfa : mg "law" = some (.ref fa)) (c : SaysP cks fns K) :
    ∃ fd : FuncData, (∀ (s : Shared) (u : Value), BindsTo s fd ⟨[u], []⟩ [("_law_script", u)]) ∧ ∀ base : Heap, K.In base → base.Ns mainGlobals mg → FnG PX w K mg base CX0 20 fa fd ["_law_script"] (spLaw K) := by
  have m_isinstance : mg "isinstance" = none := He.free_ok X G (c.ck 0 rfl)
  have m_int : mg "int" = none := He.free_ok X G (c.ck 1 rfl)
  have m_bool : mg "bool" = none := He.free_ok X G (c.ck 2 rfl)
  have m_str : mg "str" = none := He.free_ok X G (c.ck 3 rfl)
  have m_dict : mg "dict" = none := He.free_ok X G (c.ck 4 rfl)
  have m_len : mg "len" = none := He.free_ok X G (c.ck 5 rfl)
  have m_all : mg "all" = none := He.free_ok X G (c.ck 6 rfl)
  have m_list : mg "list" = none := He.free_ok X G (c.ck 7 rfl)
  have m_range : mg "range" = none := He.free_ok X G (c.ck 8 rfl)
  have m_min : mg "min" = none := He.free_ok X G (c.ck 9 rfl)
  have m_max : mg "max" = none := He.free_ok X G (c.ck 10 rfl)
  have m_repr : mg "repr" = none := He.free_ok X G (c.ck 11 rfl)
  have m_tuple : mg "tuple" = none := He.free_ok X G (c.ck 12 rfl)
  have m_super : mg "super" = none := He.free_ok X G (c.ck 13 rfl)
  have m_sum : mg "sum" = none := He.free_ok X G (c.ck 14 rfl)
  obtain ⟨tcLet, gcLet⟩ := He.str_ok X G (x := "LETTERS") (c.ck 15 rfl)
  obtain ⟨tcML, gcML⟩ := He.int_ok X G (x := "MOST_LETTERS") (c.ck 16 rfl)
  obtain ⟨tcMF, gcMF⟩ := He.int_ok X G (x := "MOST_FIELDS") (c.ck 17 rfl)
  obtain ⟨tcG, gcG⟩ := He.int_ok X G (x := "GREATEST") (c.ck 18 rfl)
  obtain ⟨tcL, gcL⟩ := He.int_ok X G (x := "MOST_LEAVES") (c.ck 19 rfl)
  obtain ⟨tcD, gcD⟩ := He.int_ok X G (x := "MOST_DEPTH") (c.ck 20 rfl)
  obtain ⟨tcN, gcN⟩ := He.int_ok X G (x := "MOST_NAMES") (c.ck 21 rfl)
  obtain ⟨fd1, F1⟩ : ∃ fd, Fun K "is_integer" "is_integer" sIsInt (He.ga K "is_integer") fd := fun_of (c.at_ 0 rfl) rfl (c.ck 22 rfl)
  have b1 := F1.binds (ps := ["value", "low", "high"]) fun _ _ _ _ _ _ us hl => match us, hl with | [_, _, _], _ => rfl
  have g1 : mg "is_integer" = some (.ref (He.ga K "is_integer")) := He.glo_ok X G (c.ck 23 rfl)
  have k1 := F1.kp
  obtain ⟨fd2, F2⟩ : ∃ fd, Fun K "is_name" "is_name" sIsName (He.ga K "is_name") fd := fun_of (c.at_ 1 rfl) rfl (c.ck 24 rfl)
  have b2 := F2.binds (ps := ["value"]) fun _ _ _ _ _ _ us hl => match us, hl with | [_], _ => rfl
  have g2 : mg "is_name" = some (.ref (He.ga K "is_name")) := He.glo_ok X G (c.ck 25 rfl)
  have k2 := F2.kp
  obtain ⟨fd4, F4⟩ : ∃ fd, Fun K "need_integer" "need_integer" sNeedInt (He.ga K "need_integer") fd := fun_of (c.at_ 2 rfl) rfl (c.ck 26 rfl)
  have b4 := F4.binds (ps := ["value", "low", "high"]) fun _ _ _ _ _ _ us hl => match us, hl with | [_, _, _], _ => rfl
  have g4 : mg "need_integer" = some (.ref (He.ga K "need_integer")) := He.glo_ok X G (c.ck 27 rfl)
  have k4 := F4.kp
  obtain ⟨fd5, F5⟩ : ∃ fd, Fun K "need_name" "need_name" sNeedName (He.ga K "need_name") fd := fun_of (c.at_ 3 rfl) rfl (c.ck 28 rfl)
  have b5 := F5.binds (ps := ["value"]) fun _ _ _ _ _ _ us hl => match us, hl with | [_], _ => rfl
  have g5 : mg "need_name" = some (.ref (He.ga K "need_name")) := He.glo_ok X G (c.ck 29 rfl)
  have k5 := F5.kp
  obtain ⟨fdnc, Fnc⟩ : ∃ fd, Fun K "need_condition" "need_condition" sNeedCond (He.ga K "need_condition") fd := fun_of (c.at_ 4 rfl) rfl (c.ck 30 rfl)
  have bnc := Fnc.binds (ps := ["value"]) fun _ _ _ _ _ _ us hl => match us, hl with | [_], _ => rfl
  have gnc : mg "need_condition" = some (.ref (He.ga K "need_condition")) := He.glo_ok X G (c.ck 31 rfl)
  have knc := Fnc.kp
  obtain ⟨fdsz, Fsz⟩ : ∃ fd, Fun K "sizes_of_pair" "sizes_of_pair" sSizes (He.ga K "sizes_of_pair") fd := fun_of (c.at_ 5 rfl) rfl (c.ck 32 rfl)
  have bsz := Fsz.binds (ps := ["one", "other"]) fun _ _ _ _ _ _ us hl => match us, hl with | [_, _], _ => rfl
  have gsz : mg "sizes_of_pair" = some (.ref (He.ga K "sizes_of_pair")) := He.glo_ok X G (c.ck 33 rfl)
  have ksz := Fsz.kp
  obtain ⟨fd8, F8⟩ : ∃ fd, Fun K "_law_cell" "_law_cell" sCell (He.ga K "_law_cell") fd := fun_of (c.at_ 6 rfl) rfl (c.ck 34 rfl)
  have b8 := F8.binds (ps := ["_law_script", "_law_k"]) fun _ _ _ _ _ _ us hl => match us, hl with | [_, _], _ => rfl
  have g8 : mg "_law_cell" = some (.ref (He.ga K "_law_cell")) := He.glo_ok X G (c.ck 35 rfl)
  have k8 := F8.kp
  obtain ⟨fd9, F9⟩ : ∃ fd, Fun K "_law_box" "_law_box" sBox (He.ga K "_law_box") fd := fun_of (c.at_ 7 rfl) rfl (c.ck 36 rfl)
  have b9 := F9.binds (ps := ["_law_cell_here"]) fun _ _ _ _ _ _ us hl => match us, hl with | [_], _ => rfl
  have g9 : mg "_law_box" = some (.ref (He.ga K "_law_box")) := He.glo_ok X G (c.ck 37 rfl)
  have k9 := F9.kp
  obtain ⟨fdA, FA⟩ : ∃ fd, Fun K "_law_take" "_law_take" sTake (He.ga K "_law_take") fd := fun_of (c.at_ 8 rfl) rfl (c.ck 38 rfl)
  have bA := FA.binds (ps := ["_law_box_here", "_law_many"]) fun _ _ _ _ _ _ us hl => match us, hl with | [_, _], _ => rfl
  have gA : mg "_law_take" = some (.ref (He.ga K "_law_take")) := He.glo_ok X G (c.ck 39 rfl)
  have kA := FA.kp
  obtain ⟨fdB, FB⟩ : ∃ fd, Fun K "_law_mixed" "_law_mixed" sMixed (He.ga K "_law_mixed") fd := fun_of (c.at_ 9 rfl) rfl (c.ck 40 rfl)
  have bB := FB.binds (ps := ["_law_box_here", "_law_some"]) fun _ _ _ _ _ _ us hl => match us, hl with | [_, _], _ => rfl
  have gB : mg "_law_mixed" = some (.ref (He.ga K "_law_mixed")) := He.glo_ok X G (c.ck 41 rfl)
  have kB := FB.kp
  obtain ⟨fdC, FC⟩ : ∃ fd, Fun K "_law_names" "_law_names" sNames (He.ga K "_law_names") fd := fun_of (c.at_ 10 rfl) rfl (c.ck 42 rfl)
  have bC := FC.binds (ps := ["_law_box_here", "_law_many"]) fun _ _ _ _ _ _ us hl => match us, hl with | [_, _], _ => rfl
  have gC : mg "_law_names" = some (.ref (He.ga K "_law_names")) := He.glo_ok X G (c.ck 43 rfl)
  have kC := FC.kp
  obtain ⟨fdD, FD⟩ : ∃ fd, Fun K "_law_number" "_law_number" sNumber (He.ga K "_law_number") fd := fun_of (c.at_ 11 rfl) rfl (c.ck 44 rfl)
  have bD := FD.binds (ps := ["_law_box_here"]) fun _ _ _ _ _ _ us hl => match us, hl with | [_], _ => rfl
  have gD : mg "_law_number" = some (.ref (He.ga K "_law_number")) := He.glo_ok X G (c.ck 45 rfl)
  have kD := FD.kp
  obtain ⟨fdF, FF⟩ : ∃ fd, Fun K "_law_named" "_law_named" sNamed (He.ga K "_law_named") fd := fun_of (c.at_ 12 rfl) rfl (c.ck 46 rfl)
  have bF := FF.binds (ps := ["_law_some"]) fun _ _ _ _ _ _ us hl => match us, hl with | [_], _ => rfl
  have gF : mg "_law_named" = some (.ref (He.ga K "_law_named")) := He.glo_ok X G (c.ck 47 rfl)
  have kF := FF.kp
  obtain ⟨fdlf, Flf⟩ : ∃ fd, Fun K "_law_leaf" "_law_leaf" sLeaf (He.ga K "_law_leaf") fd := fun_of (c.at_ 13 rfl) rfl (c.ck 48 rfl)
  have blf := Flf.binds (ps := ["_law_box_here", "_law_fields", "_law_names_here"]) fun _ _ _ _ _ _ us hl => match us, hl with | [_, _, _], _ => rfl
  have glf : mg "_law_leaf" = some (.ref (He.ga K "_law_leaf")) := He.glo_ok X G (c.ck 49 rfl)
  have klf := Flf.kp
  obtain ⟨fdmd, Fmd⟩ : ∃ fd, Fun K "_law_model" "_law_model" sModel (He.ga K "_law_model") fd := fun_of (c.at_ 14 rfl) rfl (c.ck 50 rfl)
  have bmd := Fmd.binds (ps := ["_law_box_here", "_law_fields", "_law_names_here", "_law_deep", "_law_most"]) fun _ _ _ _ _ _ us hl => match us, hl with | [_, _, _, _, _], _ => rfl
  have gmd : mg "_law_model" = some (.ref (He.ga K "_law_model")) := He.glo_ok X G (c.ck 51 rfl)
  have kmd := Fmd.kp
  obtain ⟨fdbu, Fbu⟩ : ∃ fd, Fun K "_law_built" "_law_built" sBuilt (He.ga K "_law_built") fd := fun_of (c.at_ 15 rfl) rfl (c.ck 52 rfl)
  have bbu := Fbu.binds (ps := ["_law_box_here", "_law_model_here"]) fun _ _ _ _ _ _ us hl => match us, hl with | [_, _], _ => rfl
  have gbu : mg "_law_built" = some (.ref (He.ga K "_law_built")) := He.glo_ok X G (c.ck 53 rfl)
  have kbu := Fbu.kp
  obtain ⟨fdle, Fle⟩ : ∃ fd, Fun K "_law_leaves" "_law_leaves" sLLeaves (He.ga K "_law_leaves") fd := fun_of (c.at_ 16 rfl) rfl (c.ck 54 rfl)
  have ble := Fle.binds (ps := ["_law_model_here"]) fun _ _ _ _ _ _ us hl => match us, hl with | [_], _ => rfl
  have gle : mg "_law_leaves" = some (.ref (He.ga K "_law_leaves")) := He.glo_ok X G (c.ck 55 rfl)
  have kle := Fle.kp
  obtain ⟨fdde, Fde⟩ : ∃ fd, Fun K "_law_depth" "_law_depth" sLDepth (He.ga K "_law_depth") fd := fun_of (c.at_ 17 rfl) rfl (c.ck 56 rfl)
  have bde := Fde.binds (ps := ["_law_model_here"]) fun _ _ _ _ _ _ us hl => match us, hl with | [_], _ => rfl
  have gde : mg "_law_depth" = some (.ref (He.ga K "_law_depth")) := He.glo_ok X G (c.ck 57 rfl)
  have kde := Fde.kp
  obtain ⟨fdli, Fli⟩ : ∃ fd, Fun K "_law_listed" "_law_listed" sListed (He.ga K "_law_listed") fd := fun_of (c.at_ 18 rfl) rfl (c.ck 58 rfl)
  have bli := Fli.binds (ps := ["_law_box_here", "_law_names_here"]) fun _ _ _ _ _ _ us hl => match us, hl with | [_, _], _ => rfl
  have gli : mg "_law_listed" = some (.ref (He.ga K "_law_listed")) := He.glo_ok X G (c.ck 59 rfl)
  have kli := Fli.kp
  obtain ⟨fdca, Fca⟩ : ∃ fd, Fun K "_law_capped" "_law_capped" sCapped (He.ga K "_law_capped") fd := fun_of (c.at_ 19 rfl) rfl (c.ck 60 rfl)
  have bca := Fca.binds (ps := ["_law_model_here"]) fun _ _ _ _ _ _ us hl => match us, hl with | [_], _ => rfl
  have gca : mg "_law_capped" = some (.ref (He.ga K "_law_capped")) := He.glo_ok X G (c.ck 61 rfl)
  have kca := Fca.kp
  obtain ⟨fdon, Fon⟩ : ∃ fd, Fun K "_law_one_name" "_law_one_name" sOneName (He.ga K "_law_one_name") fd := fun_of (c.at_ 20 rfl) rfl (c.ck 62 rfl)
  have bon := Fon.binds (ps := ["_law_model_here"]) fun _ _ _ _ _ _ us hl => match us, hl with | [_], _ => rfl
  have gon : mg "_law_one_name" = some (.ref (He.ga K "_law_one_name")) := He.glo_ok X G (c.ck 63 rfl)
  have kon := Fon.kp
  obtain ⟨fdot, Fot⟩ : ∃ fd, Fun K "_law_other" "_law_other" sOther (He.ga K "_law_other") fd := fun_of (c.at_ 21 rfl) rfl (c.ck 64 rfl)
  have bot := Fot.binds (ps := ["_law_box_here", "_law_model_here", "_law_fields", "_law_names_here"]) fun _ _ _ _ _ _ us hl => match us, hl with | [_, _, _, _], _ => rfl
  have got : mg "_law_other" = some (.ref (He.ga K "_law_other")) := He.glo_ok X G (c.ck 65 rfl)
  have kot := Fot.kp
  obtain ⟨fdki, Fki⟩ : ∃ fd, Fun K "_law_classes_right" "_law_classes_right" sKinds (He.ga K "_law_classes_right") fd := fun_of (c.at_ 22 rfl) rfl (c.ck 66 rfl)
  have bki := Fki.binds (ps := ["_law_model_here", "_law_condition"]) fun _ _ _ _ _ _ us hl => match us, hl with | [_, _], _ => rfl
  have gki : mg "_law_classes_right" = some (.ref (He.ga K "_law_classes_right")) := He.glo_ok X G (c.ck 67 rfl)
  have kki := Fki.kp
  obtain ⟨fdpa, Fpa⟩ : ∃ fd, Fun K "_law_parts_right" "_law_parts_right" sParts (He.ga K "_law_parts_right") fd := fun_of (c.at_ 23 rfl) rfl (c.ck 68 rfl)
  have bpa := Fpa.binds (ps := ["_law_box_here", "_law_model_here", "_law_condition"]) fun _ _ _ _ _ _ us hl => match us, hl with | [_, _, _], _ => rfl
  have gpa : mg "_law_parts_right" = some (.ref (He.ga K "_law_parts_right")) := He.glo_ok X G (c.ck 69 rfl)
  have kpa := Fpa.kp
  obtain ⟨fdri, Fri⟩ : ∃ fd, Fun K "_law_right" "_law_right" sR9 (He.ga K "_law_right") fd := fun_of (c.at_ 24 rfl) rfl (c.ck 70 rfl)
  have bri := Fri.binds (ps := ["_law_box_here", "_law_fields", "_law_names_here"]) fun _ _ _ _ _ _ us hl => match us, hl with | [_, _, _], _ => rfl
  have gri : mg "_law_right" = some (.ref (He.ga K "_law_right")) := He.glo_ok X G (c.ck 71 rfl)
  have kri := Fri.kp
  obtain ⟨fdL, FL⟩ : ∃ fd, Fun K "law" "law" sLaw (He.ga K "law") fd := fun_of (c.at_ 25 rfl) rfl (c.ck 72 rfl)
  have bL := FL.binds (ps := ["_law_script"]) fun _ _ _ _ _ _ us hl => match us, hl with | [_], _ => rfl
  have gL : mg "law" = some (.ref (He.ga K "law")) := He.glo_ok X G (c.ck 73 rfl)
  have kL := FL.kp
  have gcond : mg "Condition" = some (.ref (He.ga K "Condition")) := He.glo_ok X G (c.ck 74 rfl)
  have gLeaf : mg "Leaf" = some (.ref (He.ga K "Leaf")) := He.glo_ok X G (c.ck 75 rfl)
  have gPair : mg "Pair" = some (.ref (He.ga K "Pair")) := He.glo_ok X G (c.ck 76 rfl)
  obtain ⟨fdci, Fci⟩ : ∃ fd, Fun K "__init__" "Condition.__init__" sCondInit (He.ma K (He.ga K "Condition") "__init__") fd := fun_of (c.at_ 26 rfl) rfl (c.ck 77 rfl)
  have bci := Fci.binds (ps := ["self", "leaf_count", "height", "name_count"]) fun _ _ _ _ _ _ us hl => match us, hl with | [_, _, _, _], _ => rfl
  have gbt : mg "Between" = some (.ref (He.ga K "Between")) := He.glo_ok X G (c.ck 78 rfl)
  have cbt : Cls K (He.ga K "Between") := He.cls_ok (c.ck 79 rfl)
  have nbt_leaf_count : NoAttr K (He.ga K "Between") "leaf_count" := He.noat_ok (c.ck 80 rfl)
  have nbt_height : NoAttr K (He.ga K "Between") "height" := He.noat_ok (c.ck 81 rfl)
  have nbt_name_count : NoAttr K (He.ga K "Between") "name_count" := He.noat_ok (c.ck 82 rfl)
  have nbt_field_name : NoAttr K (He.ga K "Between") "field_name" := He.noat_ok (c.ck 83 rfl)
  have nbt_lowest : NoAttr K (He.ga K "Between") "lowest" := He.noat_ok (c.ck 84 rfl)
  have nbt_highest : NoAttr K (He.ga K "Between") "highest" := He.noat_ok (c.ck 85 rfl)
  have Mbt : Mk K (He.ga K "Between") (He.ma K (He.ga K "Between") "__init__") := He.mkr_ok (c.ck 86 rfl)
  have Dbt : ClsDef PX K ⟨fun K => He.ma K (He.ga K "Between") "__init__", "__init__", "Between.__init__", sBtwInit, ["__class__"]⟩ (He.ma K (He.ga K "Between") "__init__") (He.ga K "Between") := clsdef_of (c.at_ 27 rfl) rfl (c.ck 87 rfl)
  obtain ⟨cdabt, ccbt, fdbt, FXbt, Sbt⟩ := funx_of Dbt (x := "self") ⟨_, rfl, rfl⟩ (c.ck 88 rfl) (show (PX.main.scope.names.lookup ("super" : Str)).isSome = false from rfl)
  have ccbt : CondC K (He.ga K "Condition") (He.ga K "Between") := cond_ok (c.ck 89 rfl) cbt nbt_leaf_count nbt_height nbt_name_count
  obtain ⟨fdbtle, Fbtle⟩ : ∃ fd, Fun K "leaves" "Between.leaves" (sBtw 6) (He.ma K (He.ga K "Between") "leaves") fd := fun_of (c.at_ 28 rfl) rfl (c.ck 90 rfl)
  have bbtle := Fbtle.binds (ps := ["self"]) fun _ _ _ _ _ _ us hl => match us, hl with | [_], _ => rfl
  have Mbtle : Meth K (He.ga K "Between") "leaves" (He.ma K (He.ga K "Between") "leaves") := He.meth_ok (c.ck 91 rfl)
  obtain ⟨fdbtpfield, Fbtpfield⟩ : ∃ fd, Fun K "field" "Between.field" (sBtw 1) (getr K (He.ma K (He.ga K "Between") "field")) fd := fun_of (c.at_ 29 rfl) rfl (c.ck 92 rfl)
  have bbtpfield := Fbtpfield.binds (ps := ["self"]) fun _ _ _ _ _ _ us hl => match us, hl with | [_], _ => rfl
  have Pbtpfield : PropOf K (He.ga K "Between") "field" (He.ma K (He.ga K "Between") "field") (getr K (He.ma K (He.ga K "Between") "field")) := pro_ok (c.ck 93 rfl)
  obtain ⟨fdbtplow, Fbtplow⟩ : ∃ fd, Fun K "low" "Between.low" (sBtw 2) (getr K (He.ma K (He.ga K "Between") "low")) fd := fun_of (c.at_ 30 rfl) rfl (c.ck 94 rfl)
  have bbtplow := Fbtplow.binds (ps := ["self"]) fun _ _ _ _ _ _ us hl => match us, hl with | [_], _ => rfl
  have Pbtplow : PropOf K (He.ga K "Between") "low" (He.ma K (He.ga K "Between") "low") (getr K (He.ma K (He.ga K "Between") "low")) := pro_ok (c.ck 95 rfl)
  obtain ⟨fdbtphigh, Fbtphigh⟩ : ∃ fd, Fun K "high" "Between.high" (sBtw 3) (getr K (He.ma K (He.ga K "Between") "high")) fd := fun_of (c.at_ 31 rfl) rfl (c.ck 96 rfl)
  have bbtphigh := Fbtphigh.binds (ps := ["self"]) fun _ _ _ _ _ _ us hl => match us, hl with | [_], _ => rfl
  have Pbtphigh : PropOf K (He.ga K "Between") "high" (He.ma K (He.ga K "Between") "high") (getr K (He.ma K (He.ga K "Between") "high")) := pro_ok (c.ck 97 rfl)
  obtain ⟨fdbteq, Fbteq⟩ : ∃ fd, Fun K "__eq__" "Between.__eq__" (sBtw 11) (He.ma K (He.ga K "Between") "__eq__") fd := fun_of (c.at_ 32 rfl) rfl (c.ck 98 rfl)
  have bbteq := Fbteq.binds (ps := ["self", "other"]) fun _ _ _ _ _ _ us hl => match us, hl with | [_, _], _ => rfl
  have qbt : EqO K (He.ga K "Between") (He.ma K (He.ga K "Between") "__eq__") := eqo_ok (c.ck 99 rfl)
  obtain ⟨fdbtst, Fbtst⟩ : ∃ fd, Fun K "__str__" "Between.__str__" (sBtw 12) (He.ma K (He.ga K "Between") "__str__") fd := fun_of (c.at_ 33 rfl) rfl (c.ck 100 rfl)
  have bbtst := Fbtst.binds (ps := ["self"]) fun _ _ _ _ _ _ us hl => match us, hl with | [_], _ => rfl
  have zbt : StrK K (He.ga K "Between") (He.ma K (He.ga K "Between") "__str__") := strk_ok (c.ck 101 rfl)
  obtain ⟨fdbtan, Fbtan⟩ : ∃ fd, Fun K "__and__" "Between.__and__" (sBtw 8) (He.ma K (He.ga K "Between") "__and__") fd := fun_of (c.at_ 34 rfl) rfl (c.ck 102 rfl)
  have bbtan := Fbtan.binds (ps := ["self", "other"]) fun _ _ _ _ _ _ us hl => match us, hl with | [_, _], _ => rfl
  have obtan : OpO K (He.ga K "Between") .BitAnd (He.ma K (He.ga K "Between") "__and__") := op_ok (c.ck 103 rfl)
  obtain ⟨fdbtorr, Fbtorr⟩ : ∃ fd, Fun K "__or__" "Between.__or__" (sBtw 9) (He.ma K (He.ga K "Between") "__or__") fd := fun_of (c.at_ 35 rfl) rfl (c.ck 104 rfl)
  have bbtorr := Fbtorr.binds (ps := ["self", "other"]) fun _ _ _ _ _ _ us hl => match us, hl with | [_, _], _ => rfl
  have obtorr : OpO K (He.ga K "Between") .BitOr (He.ma K (He.ga K "Between") "__or__") := op_ok (c.ck 105 rfl)
  obtain ⟨fdbtiv, Fbtiv⟩ : ∃ fd, Fun K "__invert__" "Between.__invert__" (sBtw 10) (He.ma K (He.ga K "Between") "__invert__") fd := fun_of (c.at_ 36 rfl) rfl (c.ck 106 rfl)
  have bbtiv := Fbtiv.binds (ps := ["self"]) fun _ _ _ _ _ _ us hl => match us, hl with | [_], _ => rfl
  obtain ⟨vibt, vfbt⟩ := He.ba (c.ck 107 rfl : invB K (He.ga K "Between") (He.ma K (He.ga K "Between") "__invert__") = true)
  have gnm : mg "Named" = some (.ref (He.ga K "Named")) := He.glo_ok X G (c.ck 108 rfl)
  have cnm : Cls K (He.ga K "Named") := He.cls_ok (c.ck 109 rfl)
  have nnm_leaf_count : NoAttr K (He.ga K "Named") "leaf_count" := He.noat_ok (c.ck 110 rfl)
  have nnm_height : NoAttr K (He.ga K "Named") "height" := He.noat_ok (c.ck 111 rfl)
  have nnm_name_count : NoAttr K (He.ga K "Named") "name_count" := He.noat_ok (c.ck 112 rfl)
  have nnm_accepted_names : NoAttr K (He.ga K "Named") "accepted_names" := He.noat_ok (c.ck 113 rfl)
  have Mnm : Mk K (He.ga K "Named") (He.ma K (He.ga K "Named") "__init__") := He.mkr_ok (c.ck 114 rfl)
  have Dnm : ClsDef PX K ⟨fun K => He.ma K (He.ga K "Named") "__init__", "__init__", "Named.__init__", sNamInit, ["__class__"]⟩ (He.ma K (He.ga K "Named") "__init__") (He.ga K "Named") := clsdef_of (c.at_ 37 rfl) rfl (c.ck 115 rfl)
  obtain ⟨cdanm, ccnm, fdnm, FXnm, Snm⟩ := funx_of Dnm (x := "self") ⟨_, rfl, rfl⟩ (c.ck 116 rfl) (show (PX.main.scope.names.lookup ("super" : Str)).isSome = false from rfl)
  have ccnm : CondC K (He.ga K "Condition") (He.ga K "Named") := cond_ok (c.ck 117 rfl) cnm nnm_leaf_count nnm_height nnm_name_count
  obtain ⟨fdnmle, Fnmle⟩ : ∃ fd, Fun K "leaves" "Named.leaves" (sNam 4) (He.ma K (He.ga K "Named") "leaves") fd := fun_of (c.at_ 38 rfl) rfl (c.ck 118 rfl)
  have bnmle := Fnmle.binds (ps := ["self"]) fun _ _ _ _ _ _ us hl => match us, hl with | [_], _ => rfl
  have Mnmle : Meth K (He.ga K "Named") "leaves" (He.ma K (He.ga K "Named") "leaves") := He.meth_ok (c.ck 119 rfl)
  obtain ⟨fdnmpaccepted, Fnmpaccepted⟩ : ∃ fd, Fun K "accepted" "Named.accepted" (sNam 1) (getr K (He.ma K (He.ga K "Named") "accepted")) fd := fun_of (c.at_ 39 rfl) rfl (c.ck 120 rfl)
  have bnmpaccepted := Fnmpaccepted.binds (ps := ["self"]) fun _ _ _ _ _ _ us hl => match us, hl with | [_], _ => rfl
  have Pnmpaccepted : PropOf K (He.ga K "Named") "accepted" (He.ma K (He.ga K "Named") "accepted") (getr K (He.ma K (He.ga K "Named") "accepted")) := pro_ok (c.ck 121 rfl)
  obtain ⟨fdnmeq, Fnmeq⟩ : ∃ fd, Fun K "__eq__" "Named.__eq__" (sNam 9) (He.ma K (He.ga K "Named") "__eq__") fd := fun_of (c.at_ 40 rfl) rfl (c.ck 122 rfl)
  have bnmeq := Fnmeq.binds (ps := ["self", "other"]) fun _ _ _ _ _ _ us hl => match us, hl with | [_, _], _ => rfl
  have qnm : EqO K (He.ga K "Named") (He.ma K (He.ga K "Named") "__eq__") := eqo_ok (c.ck 123 rfl)
  obtain ⟨fdnmst, Fnmst⟩ : ∃ fd, Fun K "__str__" "Named.__str__" (sNam 10) (He.ma K (He.ga K "Named") "__str__") fd := fun_of (c.at_ 41 rfl) rfl (c.ck 124 rfl)
  have bnmst := Fnmst.binds (ps := ["self"]) fun _ _ _ _ _ _ us hl => match us, hl with | [_], _ => rfl
  have znm : StrK K (He.ga K "Named") (He.ma K (He.ga K "Named") "__str__") := strk_ok (c.ck 125 rfl)
  obtain ⟨fdnman, Fnman⟩ : ∃ fd, Fun K "__and__" "Named.__and__" (sNam 6) (He.ma K (He.ga K "Named") "__and__") fd := fun_of (c.at_ 42 rfl) rfl (c.ck 126 rfl)
  have bnman := Fnman.binds (ps := ["self", "other"]) fun _ _ _ _ _ _ us hl => match us, hl with | [_, _], _ => rfl
  have onman : OpO K (He.ga K "Named") .BitAnd (He.ma K (He.ga K "Named") "__and__") := op_ok (c.ck 127 rfl)
  obtain ⟨fdnmorr, Fnmorr⟩ : ∃ fd, Fun K "__or__" "Named.__or__" (sNam 7) (He.ma K (He.ga K "Named") "__or__") fd := fun_of (c.at_ 43 rfl) rfl (c.ck 128 rfl)
  have bnmorr := Fnmorr.binds (ps := ["self", "other"]) fun _ _ _ _ _ _ us hl => match us, hl with | [_, _], _ => rfl
  have onmorr : OpO K (He.ga K "Named") .BitOr (He.ma K (He.ga K "Named") "__or__") := op_ok (c.ck 129 rfl)
  obtain ⟨fdnmiv, Fnmiv⟩ : ∃ fd, Fun K "__invert__" "Named.__invert__" (sNam 8) (He.ma K (He.ga K "Named") "__invert__") fd := fun_of (c.at_ 44 rfl) rfl (c.ck 130 rfl)
  have bnmiv := Fnmiv.binds (ps := ["self"]) fun _ _ _ _ _ _ us hl => match us, hl with | [_], _ => rfl
  obtain ⟨vinm, vfnm⟩ := He.ba (c.ck 131 rfl : invB K (He.ga K "Named") (He.ma K (He.ga K "Named") "__invert__") = true)
  have gnt : mg "Not" = some (.ref (He.ga K "Not")) := He.glo_ok X G (c.ck 132 rfl)
  have cnt : Cls K (He.ga K "Not") := He.cls_ok (c.ck 133 rfl)
  have nnt_leaf_count : NoAttr K (He.ga K "Not") "leaf_count" := He.noat_ok (c.ck 134 rfl)
  have nnt_height : NoAttr K (He.ga K "Not") "height" := He.noat_ok (c.ck 135 rfl)
  have nnt_name_count : NoAttr K (He.ga K "Not") "name_count" := He.noat_ok (c.ck 136 rfl)
  have nnt_inner : NoAttr K (He.ga K "Not") "inner" := He.noat_ok (c.ck 137 rfl)
  have Mnt : Mk K (He.ga K "Not") (He.ma K (He.ga K "Not") "__init__") := He.mkr_ok (c.ck 138 rfl)
  have Dnt : ClsDef PX K ⟨fun K => He.ma K (He.ga K "Not") "__init__", "__init__", "Not.__init__", (sNt 0), ["__class__"]⟩ (He.ma K (He.ga K "Not") "__init__") (He.ga K "Not") := clsdef_of (c.at_ 45 rfl) rfl (c.ck 139 rfl)
  obtain ⟨cdant, ccnt, fdnt, FXnt, Snt⟩ := funx_of Dnt (x := "self") ⟨_, rfl, rfl⟩ (c.ck 140 rfl) (show (PX.main.scope.names.lookup ("super" : Str)).isSome = false from rfl)
  have ccnt : CondC K (He.ga K "Condition") (He.ga K "Not") := cond_ok (c.ck 141 rfl) cnt nnt_leaf_count nnt_height nnt_name_count
  obtain ⟨fdntle, Fntle⟩ : ∃ fd, Fun K "leaves" "Not.leaves" (sNt 5) (He.ma K (He.ga K "Not") "leaves") fd := fun_of (c.at_ 46 rfl) rfl (c.ck 142 rfl)
  have bntle := Fntle.binds (ps := ["self"]) fun _ _ _ _ _ _ us hl => match us, hl with | [_], _ => rfl
  have Mntle : Meth K (He.ga K "Not") "leaves" (He.ma K (He.ga K "Not") "leaves") := He.meth_ok (c.ck 143 rfl)
  obtain ⟨fdntpone, Fntpone⟩ : ∃ fd, Fun K "one" "Not.one" (sNt 1) (getr K (He.ma K (He.ga K "Not") "one")) fd := fun_of (c.at_ 47 rfl) rfl (c.ck 144 rfl)
  have bntpone := Fntpone.binds (ps := ["self"]) fun _ _ _ _ _ _ us hl => match us, hl with | [_], _ => rfl
  have Pntpone : PropOf K (He.ga K "Not") "one" (He.ma K (He.ga K "Not") "one") (getr K (He.ma K (He.ga K "Not") "one")) := pro_ok (c.ck 145 rfl)
  obtain ⟨fdnteq, Fnteq⟩ : ∃ fd, Fun K "__eq__" "Not.__eq__" (sNt 10) (He.ma K (He.ga K "Not") "__eq__") fd := fun_of (c.at_ 48 rfl) rfl (c.ck 146 rfl)
  have bnteq := Fnteq.binds (ps := ["self", "other"]) fun _ _ _ _ _ _ us hl => match us, hl with | [_, _], _ => rfl
  have qnt : EqO K (He.ga K "Not") (He.ma K (He.ga K "Not") "__eq__") := eqo_ok (c.ck 147 rfl)
  obtain ⟨fdntst, Fntst⟩ : ∃ fd, Fun K "__str__" "Not.__str__" (sNt 11) (He.ma K (He.ga K "Not") "__str__") fd := fun_of (c.at_ 49 rfl) rfl (c.ck 148 rfl)
  have bntst := Fntst.binds (ps := ["self"]) fun _ _ _ _ _ _ us hl => match us, hl with | [_], _ => rfl
  have znt : StrK K (He.ga K "Not") (He.ma K (He.ga K "Not") "__str__") := strk_ok (c.ck 149 rfl)
  obtain ⟨fdntan, Fntan⟩ : ∃ fd, Fun K "__and__" "Not.__and__" (sNt 7) (He.ma K (He.ga K "Not") "__and__") fd := fun_of (c.at_ 50 rfl) rfl (c.ck 150 rfl)
  have bntan := Fntan.binds (ps := ["self", "other"]) fun _ _ _ _ _ _ us hl => match us, hl with | [_, _], _ => rfl
  have ontan : OpO K (He.ga K "Not") .BitAnd (He.ma K (He.ga K "Not") "__and__") := op_ok (c.ck 151 rfl)
  obtain ⟨fdntorr, Fntorr⟩ : ∃ fd, Fun K "__or__" "Not.__or__" (sNt 8) (He.ma K (He.ga K "Not") "__or__") fd := fun_of (c.at_ 51 rfl) rfl (c.ck 152 rfl)
  have bntorr := Fntorr.binds (ps := ["self", "other"]) fun _ _ _ _ _ _ us hl => match us, hl with | [_, _], _ => rfl
  have ontorr : OpO K (He.ga K "Not") .BitOr (He.ma K (He.ga K "Not") "__or__") := op_ok (c.ck 153 rfl)
  obtain ⟨fdntiv, Fntiv⟩ : ∃ fd, Fun K "__invert__" "Not.__invert__" (sNt 9) (He.ma K (He.ga K "Not") "__invert__") fd := fun_of (c.at_ 52 rfl) rfl (c.ck 154 rfl)
  have bntiv := Fntiv.binds (ps := ["self"]) fun _ _ _ _ _ _ us hl => match us, hl with | [_], _ => rfl
  obtain ⟨vint, vfnt⟩ := He.ba (c.ck 155 rfl : invB K (He.ga K "Not") (He.ma K (He.ga K "Not") "__invert__") = true)
  have gbo : mg "Both" = some (.ref (He.ga K "Both")) := He.glo_ok X G (c.ck 156 rfl)
  have cbo : Cls K (He.ga K "Both") := He.cls_ok (c.ck 157 rfl)
  have nbo_leaf_count : NoAttr K (He.ga K "Both") "leaf_count" := He.noat_ok (c.ck 158 rfl)
  have nbo_height : NoAttr K (He.ga K "Both") "height" := He.noat_ok (c.ck 159 rfl)
  have nbo_name_count : NoAttr K (He.ga K "Both") "name_count" := He.noat_ok (c.ck 160 rfl)
  have nbo_first : NoAttr K (He.ga K "Both") "first" := He.noat_ok (c.ck 161 rfl)
  have nbo_second : NoAttr K (He.ga K "Both") "second" := He.noat_ok (c.ck 162 rfl)
  have Mbo : Mk K (He.ga K "Both") (He.ma K (He.ga K "Both") "__init__") := He.mkr_ok (c.ck 163 rfl)
  have Dbo : ClsDef PX K ⟨fun K => He.ma K (He.ga K "Both") "__init__", "__init__", "Both.__init__", (sBo 0), ["__class__"]⟩ (He.ma K (He.ga K "Both") "__init__") (He.ga K "Both") := clsdef_of (c.at_ 53 rfl) rfl (c.ck 164 rfl)
  obtain ⟨cdabo, ccbo, fdbo, FXbo, Sbo⟩ := funx_of Dbo (x := "self") ⟨_, rfl, rfl⟩ (c.ck 165 rfl) (show (PX.main.scope.names.lookup ("super" : Str)).isSome = false from rfl)
  have ccbo : CondC K (He.ga K "Condition") (He.ga K "Both") := cond_ok (c.ck 166 rfl) cbo nbo_leaf_count nbo_height nbo_name_count
  obtain ⟨fdbole, Fbole⟩ : ∃ fd, Fun K "leaves" "Both.leaves" (sBo 5) (He.ma K (He.ga K "Both") "leaves") fd := fun_of (c.at_ 54 rfl) rfl (c.ck 167 rfl)
  have bbole := Fbole.binds (ps := ["self"]) fun _ _ _ _ _ _ us hl => match us, hl with | [_], _ => rfl
  have Mbole : Meth K (He.ga K "Both") "leaves" (He.ma K (He.ga K "Both") "leaves") := He.meth_ok (c.ck 168 rfl)
  obtain ⟨fdbopone, Fbopone⟩ : ∃ fd, Fun K "one" "Both.one" (sBo 1) (getr K (He.ma K (He.ga K "Both") "one")) fd := fun_of (c.at_ 55 rfl) rfl (c.ck 169 rfl)
  have bbopone := Fbopone.binds (ps := ["self"]) fun _ _ _ _ _ _ us hl => match us, hl with | [_], _ => rfl
  have Pbopone : PropOf K (He.ga K "Both") "one" (He.ma K (He.ga K "Both") "one") (getr K (He.ma K (He.ga K "Both") "one")) := pro_ok (c.ck 170 rfl)
  obtain ⟨fdbopother, Fbopother⟩ : ∃ fd, Fun K "other" "Both.other" (sBo 2) (getr K (He.ma K (He.ga K "Both") "other")) fd := fun_of (c.at_ 56 rfl) rfl (c.ck 171 rfl)
  have bbopother := Fbopother.binds (ps := ["self"]) fun _ _ _ _ _ _ us hl => match us, hl with | [_], _ => rfl
  have Pbopother : PropOf K (He.ga K "Both") "other" (He.ma K (He.ga K "Both") "other") (getr K (He.ma K (He.ga K "Both") "other")) := pro_ok (c.ck 172 rfl)
  obtain ⟨fdboeq, Fboeq⟩ : ∃ fd, Fun K "__eq__" "Both.__eq__" (sBo 10) (He.ma K (He.ga K "Both") "__eq__") fd := fun_of (c.at_ 57 rfl) rfl (c.ck 173 rfl)
  have bboeq := Fboeq.binds (ps := ["self", "other"]) fun _ _ _ _ _ _ us hl => match us, hl with | [_, _], _ => rfl
  have qbo : EqO K (He.ga K "Both") (He.ma K (He.ga K "Both") "__eq__") := eqo_ok (c.ck 174 rfl)
  obtain ⟨fdbost, Fbost⟩ : ∃ fd, Fun K "__str__" "Both.__str__" (sBo 11) (He.ma K (He.ga K "Both") "__str__") fd := fun_of (c.at_ 58 rfl) rfl (c.ck 175 rfl)
  have bbost := Fbost.binds (ps := ["self"]) fun _ _ _ _ _ _ us hl => match us, hl with | [_], _ => rfl
  have zbo : StrK K (He.ga K "Both") (He.ma K (He.ga K "Both") "__str__") := strk_ok (c.ck 176 rfl)
  obtain ⟨fdboan, Fboan⟩ : ∃ fd, Fun K "__and__" "Both.__and__" (sBo 7) (He.ma K (He.ga K "Both") "__and__") fd := fun_of (c.at_ 59 rfl) rfl (c.ck 177 rfl)
  have bboan := Fboan.binds (ps := ["self", "other"]) fun _ _ _ _ _ _ us hl => match us, hl with | [_, _], _ => rfl
  have oboan : OpO K (He.ga K "Both") .BitAnd (He.ma K (He.ga K "Both") "__and__") := op_ok (c.ck 178 rfl)
  obtain ⟨fdboorr, Fboorr⟩ : ∃ fd, Fun K "__or__" "Both.__or__" (sBo 8) (He.ma K (He.ga K "Both") "__or__") fd := fun_of (c.at_ 60 rfl) rfl (c.ck 179 rfl)
  have bboorr := Fboorr.binds (ps := ["self", "other"]) fun _ _ _ _ _ _ us hl => match us, hl with | [_, _], _ => rfl
  have oboorr : OpO K (He.ga K "Both") .BitOr (He.ma K (He.ga K "Both") "__or__") := op_ok (c.ck 180 rfl)
  obtain ⟨fdboiv, Fboiv⟩ : ∃ fd, Fun K "__invert__" "Both.__invert__" (sBo 9) (He.ma K (He.ga K "Both") "__invert__") fd := fun_of (c.at_ 61 rfl) rfl (c.ck 181 rfl)
  have bboiv := Fboiv.binds (ps := ["self"]) fun _ _ _ _ _ _ us hl => match us, hl with | [_], _ => rfl
  obtain ⟨vibo, vfbo⟩ := He.ba (c.ck 182 rfl : invB K (He.ga K "Both") (He.ma K (He.ga K "Both") "__invert__") = true)
  have gei : mg "Either" = some (.ref (He.ga K "Either")) := He.glo_ok X G (c.ck 183 rfl)
  have cei : Cls K (He.ga K "Either") := He.cls_ok (c.ck 184 rfl)
  have nei_leaf_count : NoAttr K (He.ga K "Either") "leaf_count" := He.noat_ok (c.ck 185 rfl)
  have nei_height : NoAttr K (He.ga K "Either") "height" := He.noat_ok (c.ck 186 rfl)
  have nei_name_count : NoAttr K (He.ga K "Either") "name_count" := He.noat_ok (c.ck 187 rfl)
  have nei_first : NoAttr K (He.ga K "Either") "first" := He.noat_ok (c.ck 188 rfl)
  have nei_second : NoAttr K (He.ga K "Either") "second" := He.noat_ok (c.ck 189 rfl)
  have Mei : Mk K (He.ga K "Either") (He.ma K (He.ga K "Either") "__init__") := He.mkr_ok (c.ck 190 rfl)
  have Dei : ClsDef PX K ⟨fun K => He.ma K (He.ga K "Either") "__init__", "__init__", "Either.__init__", (sEi 0), ["__class__"]⟩ (He.ma K (He.ga K "Either") "__init__") (He.ga K "Either") := clsdef_of (c.at_ 62 rfl) rfl (c.ck 191 rfl)
  obtain ⟨cdaei, ccei, fdei, FXei, Sei⟩ := funx_of Dei (x := "self") ⟨_, rfl, rfl⟩ (c.ck 192 rfl) (show (PX.main.scope.names.lookup ("super" : Str)).isSome = false from rfl)
  have ccei : CondC K (He.ga K "Condition") (He.ga K "Either") := cond_ok (c.ck 193 rfl) cei nei_leaf_count nei_height nei_name_count
  obtain ⟨fdeile, Feile⟩ : ∃ fd, Fun K "leaves" "Either.leaves" (sEi 5) (He.ma K (He.ga K "Either") "leaves") fd := fun_of (c.at_ 63 rfl) rfl (c.ck 194 rfl)
  have beile := Feile.binds (ps := ["self"]) fun _ _ _ _ _ _ us hl => match us, hl with | [_], _ => rfl
  have Meile : Meth K (He.ga K "Either") "leaves" (He.ma K (He.ga K "Either") "leaves") := He.meth_ok (c.ck 195 rfl)
  obtain ⟨fdeipone, Feipone⟩ : ∃ fd, Fun K "one" "Either.one" (sEi 1) (getr K (He.ma K (He.ga K "Either") "one")) fd := fun_of (c.at_ 64 rfl) rfl (c.ck 196 rfl)
  have beipone := Feipone.binds (ps := ["self"]) fun _ _ _ _ _ _ us hl => match us, hl with | [_], _ => rfl
  have Peipone : PropOf K (He.ga K "Either") "one" (He.ma K (He.ga K "Either") "one") (getr K (He.ma K (He.ga K "Either") "one")) := pro_ok (c.ck 197 rfl)
  obtain ⟨fdeipother, Feipother⟩ : ∃ fd, Fun K "other" "Either.other" (sEi 2) (getr K (He.ma K (He.ga K "Either") "other")) fd := fun_of (c.at_ 65 rfl) rfl (c.ck 198 rfl)
  have beipother := Feipother.binds (ps := ["self"]) fun _ _ _ _ _ _ us hl => match us, hl with | [_], _ => rfl
  have Peipother : PropOf K (He.ga K "Either") "other" (He.ma K (He.ga K "Either") "other") (getr K (He.ma K (He.ga K "Either") "other")) := pro_ok (c.ck 199 rfl)
  obtain ⟨fdeieq, Feieq⟩ : ∃ fd, Fun K "__eq__" "Either.__eq__" (sEi 10) (He.ma K (He.ga K "Either") "__eq__") fd := fun_of (c.at_ 66 rfl) rfl (c.ck 200 rfl)
  have beieq := Feieq.binds (ps := ["self", "other"]) fun _ _ _ _ _ _ us hl => match us, hl with | [_, _], _ => rfl
  have qei : EqO K (He.ga K "Either") (He.ma K (He.ga K "Either") "__eq__") := eqo_ok (c.ck 201 rfl)
  obtain ⟨fdeist, Feist⟩ : ∃ fd, Fun K "__str__" "Either.__str__" (sEi 11) (He.ma K (He.ga K "Either") "__str__") fd := fun_of (c.at_ 67 rfl) rfl (c.ck 202 rfl)
  have beist := Feist.binds (ps := ["self"]) fun _ _ _ _ _ _ us hl => match us, hl with | [_], _ => rfl
  have zei : StrK K (He.ga K "Either") (He.ma K (He.ga K "Either") "__str__") := strk_ok (c.ck 203 rfl)
  obtain ⟨fdeian, Feian⟩ : ∃ fd, Fun K "__and__" "Either.__and__" (sEi 7) (He.ma K (He.ga K "Either") "__and__") fd := fun_of (c.at_ 68 rfl) rfl (c.ck 204 rfl)
  have beian := Feian.binds (ps := ["self", "other"]) fun _ _ _ _ _ _ us hl => match us, hl with | [_, _], _ => rfl
  have oeian : OpO K (He.ga K "Either") .BitAnd (He.ma K (He.ga K "Either") "__and__") := op_ok (c.ck 205 rfl)
  obtain ⟨fdeiorr, Feiorr⟩ : ∃ fd, Fun K "__or__" "Either.__or__" (sEi 8) (He.ma K (He.ga K "Either") "__or__") fd := fun_of (c.at_ 69 rfl) rfl (c.ck 206 rfl)
  have beiorr := Feiorr.binds (ps := ["self", "other"]) fun _ _ _ _ _ _ us hl => match us, hl with | [_, _], _ => rfl
  have oeiorr : OpO K (He.ga K "Either") .BitOr (He.ma K (He.ga K "Either") "__or__") := op_ok (c.ck 207 rfl)
  obtain ⟨fdeiiv, Feiiv⟩ : ∃ fd, Fun K "__invert__" "Either.__invert__" (sEi 9) (He.ma K (He.ga K "Either") "__invert__") fd := fun_of (c.at_ 70 rfl) rfl (c.ck 208 rfl)
  have beiiv := Feiiv.binds (ps := ["self"]) fun _ _ _ _ _ _ us hl => match us, hl with | [_], _ => rfl
  obtain ⟨viei, vfei⟩ := He.ba (c.ck 209 rfl : invB K (He.ga K "Either") (He.ma K (He.ga K "Either") "__invert__") = true)
  obtain ⟨Dkw, eDk, dB⟩ := btwDef_of (c.ck 210 rfl)
  rw [eDk] at FXbt
  have s_bt_nm : PySem.W.subIn K (.ref (He.ga K "Between")) (.ref (He.ga K "Named")) = some false := of_decide_eq_true (c.ck 211 rfl)
  have s_bt_nt : PySem.W.subIn K (.ref (He.ga K "Between")) (.ref (He.ga K "Not")) = some false := of_decide_eq_true (c.ck 212 rfl)
  have s_bt_bo : PySem.W.subIn K (.ref (He.ga K "Between")) (.ref (He.ga K "Both")) = some false := of_decide_eq_true (c.ck 213 rfl)
  have s_bt_ei : PySem.W.subIn K (.ref (He.ga K "Between")) (.ref (He.ga K "Either")) = some false := of_decide_eq_true (c.ck 214 rfl)
  have s_nm_bt : PySem.W.subIn K (.ref (He.ga K "Named")) (.ref (He.ga K "Between")) = some false := of_decide_eq_true (c.ck 215 rfl)
  have s_nm_nt : PySem.W.subIn K (.ref (He.ga K "Named")) (.ref (He.ga K "Not")) = some false := of_decide_eq_true (c.ck 216 rfl)
  have s_nm_bo : PySem.W.subIn K (.ref (He.ga K "Named")) (.ref (He.ga K "Both")) = some false := of_decide_eq_true (c.ck 217 rfl)
  have s_nm_ei : PySem.W.subIn K (.ref (He.ga K "Named")) (.ref (He.ga K "Either")) = some false := of_decide_eq_true (c.ck 218 rfl)
  have s_nt_bt : PySem.W.subIn K (.ref (He.ga K "Not")) (.ref (He.ga K "Between")) = some false := of_decide_eq_true (c.ck 219 rfl)
  have s_nt_nm : PySem.W.subIn K (.ref (He.ga K "Not")) (.ref (He.ga K "Named")) = some false := of_decide_eq_true (c.ck 220 rfl)
  have s_nt_bo : PySem.W.subIn K (.ref (He.ga K "Not")) (.ref (He.ga K "Both")) = some false := of_decide_eq_true (c.ck 221 rfl)
  have s_nt_ei : PySem.W.subIn K (.ref (He.ga K "Not")) (.ref (He.ga K "Either")) = some false := of_decide_eq_true (c.ck 222 rfl)
  have s_bo_bt : PySem.W.subIn K (.ref (He.ga K "Both")) (.ref (He.ga K "Between")) = some false := of_decide_eq_true (c.ck 223 rfl)
  have s_bo_nm : PySem.W.subIn K (.ref (He.ga K "Both")) (.ref (He.ga K "Named")) = some false := of_decide_eq_true (c.ck 224 rfl)
  have s_bo_nt : PySem.W.subIn K (.ref (He.ga K "Both")) (.ref (He.ga K "Not")) = some false := of_decide_eq_true (c.ck 225 rfl)
  have s_bo_ei : PySem.W.subIn K (.ref (He.ga K "Both")) (.ref (He.ga K "Either")) = some false := of_decide_eq_true (c.ck 226 rfl)
  have s_ei_bt : PySem.W.subIn K (.ref (He.ga K "Either")) (.ref (He.ga K "Between")) = some false := of_decide_eq_true (c.ck 227 rfl)
  have s_ei_nm : PySem.W.subIn K (.ref (He.ga K "Either")) (.ref (He.ga K "Named")) = some false := of_decide_eq_true (c.ck 228 rfl)
  have s_ei_nt : PySem.W.subIn K (.ref (He.ga K "Either")) (.ref (He.ga K "Not")) = some false := of_decide_eq_true (c.ck 229 rfl)
  have s_ei_bo : PySem.W.subIn K (.ref (He.ga K "Either")) (.ref (He.ga K "Both")) = some false := of_decide_eq_true (c.ck 230 rfl)
  have ek : EqK K (⟨He.ga K "Between", He.ga K "Named", He.ga K "Not", He.ga K "Both", He.ga K "Either"⟩ : Cs) := eqk_ok (c.ck 231 rfl) (c.ck 232 rfl) (c.ck 233 rfl) (c.ck 234 rfl)
  have kk : KindK K (⟨He.ga K "Between", He.ga K "Named", He.ga K "Not", He.ga K "Both", He.ga K "Either"⟩ : Cs) (He.ga K "Leaf") (He.ga K "Pair") := kind_ok (c.ck 235 rfl)
  have e := hfa.symm.trans gL
  cases e
  obtain ⟨_, _, _, _, _, _, _, _, _, hfd, _, _⟩ := FL.ex
  refine ⟨fdL, fun s u => by rw [hfd]; exact .of_eq rfl, fun base _ _ => ?_⟩
  have O1 : FnOk PX w K mg base CX0 1 _ _ ["value", "low", "high"] spIsInt := ok_isint F1 m_isinstance m_int m_bool
  have O2 : FnOk PX w K mg base CX0 1 _ _ ["value"] spIsName := ok_isname F2 gcML gcLet m_isinstance m_str m_len m_all
  have O4 : FnOk PX w K mg base CX0 2 _ _ ["value", "low", "high"] spNeedInt := ok_needint F4 F1 b1 g1 O1
  have O5 : FnOk PX w K mg base CX0 2 _ _ ["value"] spNeedName := ok_needname F5 F2 b2 g2 O2
  have OC : CsOk K (He.ga K "Condition") (⟨He.ga K "Between", He.ga K "Named", He.ga K "Not", He.ga K "Both", He.ga K "Either"⟩ : Cs) := ⟨ccbt, ccnm, ccnt, ccbo, ccei⟩
  have Ocbt : FnOk PX w K mg base CX0 1 _ _ ["self", "leaf_count", "height", "name_count"] (spCond (He.ga K "Between")) := ok_condinit Fci cbt nbt_leaf_count nbt_height nbt_name_count gcL gcD gcN
  have Ocnm : FnOk PX w K mg base CX0 1 _ _ ["self", "leaf_count", "height", "name_count"] (spCond (He.ga K "Named")) := ok_condinit Fci cnm nnm_leaf_count nnm_height nnm_name_count gcL gcD gcN
  have Ocnt : FnOk PX w K mg base CX0 1 _ _ ["self", "leaf_count", "height", "name_count"] (spCond (He.ga K "Not")) := ok_condinit Fci cnt nnt_leaf_count nnt_height nnt_name_count gcL gcD gcN
  have Ocbo : FnOk PX w K mg base CX0 1 _ _ ["self", "leaf_count", "height", "name_count"] (spCond (He.ga K "Both")) := ok_condinit Fci cbo nbo_leaf_count nbo_height nbo_name_count gcL gcD gcN
  have Ocei : FnOk PX w K mg base CX0 1 _ _ ["self", "leaf_count", "height", "name_count"] (spCond (He.ga K "Either")) := ok_condinit Fci cei nei_leaf_count nei_height nei_name_count gcL gcD gcN
  have Onc : FnOk PX w K mg base CX0 1 _ _ ["value"] (spNeedCond (⟨He.ga K "Between", He.ga K "Named", He.ga K "Not", He.ga K "Both", He.ga K "Either"⟩ : Cs)) := ok_needcond Fnc OC gcond m_isinstance
  have Osz : FnOk PX w K mg base CX0 2 _ _ ["one", "other"] (spSizes (⟨He.ga K "Between", He.ga K "Named", He.ga K "Not", He.ga K "Both", He.ga K "Either"⟩ : Cs)) := ok_sizes Fsz OC Onc gnc knc bnc m_max
  have Obi : FnOk PX w K mg base CX0 3 _ _ psBtw (spBtw (He.ga K "Between")) := ok_btwinit FXbt Sbt cbt nbt_field_name nbt_lowest nbt_highest O5 g5 k5 b5 O4 g4 k4 b4 Ocbt bci m_super
  have Oni : FnR PX w K mg base CX0 3 _ (spNamR (He.ga K "Named")) := ok_naminit FXnm Snm cnm nnm_accepted_names O5 g5 k5 b5 Ocnm bci m_super m_len
  have Obo : FnOk PX w K mg base CX0 3 _ _ ["self", "one", "other"] (spPair (⟨He.ga K "Between", He.ga K "Named", He.ga K "Not", He.ga K "Both", He.ga K "Either"⟩ : Cs) (⟨He.ga K "Between", He.ga K "Named", He.ga K "Not", He.ga K "Both", He.ga K "Either"⟩ : Cs).bo) := ok_boinit FXbo Sbo cbo nbo_first nbo_second Osz gsz ksz bsz Ocbo bci m_super
  have Oei : FnOk PX w K mg base CX0 3 _ _ ["self", "one", "other"] (spPair (⟨He.ga K "Between", He.ga K "Named", He.ga K "Not", He.ga K "Both", He.ga K "Either"⟩ : Cs) (⟨He.ga K "Between", He.ga K "Named", He.ga K "Not", He.ga K "Both", He.ga K "Either"⟩ : Cs).ei) := ok_eiinit FXei Sei cei nei_first nei_second Osz gsz ksz bsz Ocei bci m_super
  have Ont : FnOk PX w K mg base CX0 2 _ _ ["self", "one"] (spNeg (⟨He.ga K "Between", He.ga K "Named", He.ga K "Not", He.ga K "Both", He.ga K "Either"⟩ : Cs) (⟨He.ga K "Between", He.ga K "Named", He.ga K "Not", He.ga K "Both", He.ga K "Either"⟩ : Cs).nt) := ok_ntinit FXnt Snt OC nnt_inner Onc gnc knc bnc Ocnt bci m_super
  have bibo : Binds K fdbo ["self", "one", "other"] [] := fx_binds FXbo fun _ _ _ _ _ _ _ us hl => match us, hl with | [_, _, _], _ => rfl
  have biei : Binds K fdei ["self", "one", "other"] [] := fx_binds FXei fun _ _ _ _ _ _ _ us hl => match us, hl with | [_, _, _], _ => rfl
  have bint : Binds K fdnt ["self", "one"] [] := fx_binds FXnt fun _ _ _ _ _ _ _ us hl => match us, hl with | [_, _], _ => rfl
  have Aan : ∀ m : Md, OpOf PX w K mg base (m.cls (⟨He.ga K "Between", He.ga K "Named", He.ga K "Not", He.ga K "Both", He.ga K "Either"⟩ : Cs)) .BitAnd (spAnd (⟨He.ga K "Between", He.ga K "Named", He.ga K "Not", He.ga K "Both", He.ga K "Either"⟩ : Cs)) := fun m => by
    cases m with
    | btw z lo hi => exact ⟨_, _, obtan, bbtan, ok_btand_ Fbtan Mbo Obo gbo bibo⟩
    | nam zs => exact ⟨_, _, onman, bnman, ok_nmand_ Fnman Mbo Obo gbo bibo⟩
    | neg m => exact ⟨_, _, ontan, bntan, ok_ntand_ Fntan Mbo Obo gbo bibo⟩
    | both m n => exact ⟨_, _, oboan, bboan, ok_boand_ Fboan Mbo Obo gbo bibo⟩
    | eith m n => exact ⟨_, _, oeian, beian, ok_eiand_ Feian Mbo Obo gbo bibo⟩
  have Aorr : ∀ m : Md, OpOf PX w K mg base (m.cls (⟨He.ga K "Between", He.ga K "Named", He.ga K "Not", He.ga K "Both", He.ga K "Either"⟩ : Cs)) .BitOr (spOr (⟨He.ga K "Between", He.ga K "Named", He.ga K "Not", He.ga K "Both", He.ga K "Either"⟩ : Cs)) := fun m => by
    cases m with
    | btw z lo hi => exact ⟨_, _, obtorr, bbtorr, ok_btor_ Fbtorr Mei Oei gei biei⟩
    | nam zs => exact ⟨_, _, onmorr, bnmorr, ok_nmor_ Fnmorr Mei Oei gei biei⟩
    | neg m => exact ⟨_, _, ontorr, bntorr, ok_ntor_ Fntorr Mei Oei gei biei⟩
    | both m n => exact ⟨_, _, oboorr, bboorr, ok_boor_ Fboorr Mei Oei gei biei⟩
    | eith m n => exact ⟨_, _, oeiorr, beiorr, ok_eior_ Feiorr Mei Oei gei biei⟩
  have sub : ∀ m n : Md, m.cls (⟨He.ga K "Between", He.ga K "Named", He.ga K "Not", He.ga K "Both", He.ga K "Either"⟩ : Cs) = n.cls (⟨He.ga K "Between", He.ga K "Named", He.ga K "Not", He.ga K "Both", He.ga K "Either"⟩ : Cs) ∨ PySem.W.subIn K (.ref (n.cls (⟨He.ga K "Between", He.ga K "Named", He.ga K "Not", He.ga K "Both", He.ga K "Either"⟩ : Cs))) (.ref (m.cls (⟨He.ga K "Between", He.ga K "Named", He.ga K "Not", He.ga K "Both", He.ga K "Either"⟩ : Cs))) = some false := fun m n => by
    cases m <;> cases n <;> first | exact .inl rfl | exact .inr (by assumption)
  have OO : Conds PX w K mg base (He.ga K "Condition") (⟨He.ga K "Between", He.ga K "Named", He.ga K "Not", He.ga K "Both", He.ga K "Either"⟩ : Cs) := ⟨OC, ⟨_, _, _, _, _, Mbt, FXbt, dB, Obi⟩, gbt, ⟨_, _, Mbo, bibo, Obo⟩, gbo, ⟨_, _, Mei, biei, Oei⟩, gei, ⟨_, _, Mnt, bint, Ont⟩, gnt, fun m n => polyO (Aan m) (Aan n) (sub m n), fun m n => polyO (Aorr m) (Aorr n) (sub m n), fun m => by
    cases m with
    | btw z lo hi => exact ⟨_, _, _, He.eqO_ok vibt, vfbt, bbtiv, ok_btinv Fbtiv Mnt Ont gnt bint⟩
    | nam zs => exact ⟨_, _, _, He.eqO_ok vinm, vfnm, bnmiv, ok_nminv Fnmiv Mnt Ont gnt bint⟩
    | neg m => exact ⟨_, _, _, He.eqO_ok vint, vfnt, bntiv, ok_ntinv Fntiv Mnt Ont gnt bint⟩
    | both m n => exact ⟨_, _, _, He.eqO_ok vibo, vfbo, bboiv, ok_boinv Fboiv Mnt Ont gnt bint⟩
    | eith m n => exact ⟨_, _, _, He.eqO_ok viei, vfei, beiiv, ok_eiinv Feiiv Mnt Ont gnt bint⟩⟩
  have O2 : CondL PX w K mg base (⟨He.ga K "Between", He.ga K "Named", He.ga K "Not", He.ga K "Both", He.ga K "Either"⟩ : Cs) := by
    refine ⟨fun m => ?_⟩
    cases m
    · exact ⟨cbt, _, _, _, Mbtle, bbtle, ok_btleaves Fbtle OC⟩
    · exact ⟨cnm, _, _, _, Mnmle, bnmle, ok_nmleaves Fnmle OC⟩
    · exact ⟨cnt, _, _, _, Mntle, bntle, ok_ntleaves Fntle OC⟩
    · exact ⟨cbo, _, _, _, Mbole, bbole, ok_boleaves Fbole OC⟩
    · exact ⟨cei, _, _, _, Meile, beile, ok_eileaves Feile OC⟩
  have AE : EqAll PX w K mg base (⟨He.ga K "Between", He.ga K "Named", He.ga K "Not", He.ga K "Both", He.ga K "Either"⟩ : Cs) 6 5 := eq_all ek ⟨_, _, qbt, bbteq, fun d => ok_bteq Fbteq OC ek gbt m_isinstance nbt_field_name nbt_lowest nbt_highest⟩ ⟨_, _, qnm, bnmeq, fun d => ok_nmeq Fnmeq OC ek gnm m_isinstance nnm_accepted_names⟩
    ⟨_, _, qnt, bnteq, fun k d A => ok_nteq A Fnteq OC gnt m_isinstance nnt_inner⟩ ⟨_, _, qbo, bboeq, fun k d A => ok_boeq A Fboeq OC gbo m_isinstance nbo_first nbo_second⟩ ⟨_, _, qei, beieq, fun k d A => ok_eieq A Feieq OC gei m_isinstance nei_first nei_second⟩ 5
  have AS : StrAll PX w K mg base (⟨He.ga K "Between", He.ga K "Named", He.ga K "Not", He.ga K "Both", He.ga K "Either"⟩ : Cs) 16 5 := str_all ⟨_, _, zbt, bbtst, fun d => ok_btstr Fbtst OC nbt_field_name nbt_lowest nbt_highest⟩ ⟨_, _, znm, bnmst, fun d => ok_nmstr Fnmst OC nnm_accepted_names⟩
    ⟨_, _, znt, bntst, fun k d A => ok_ntstr A Fntst OC nnt_inner⟩ ⟨_, _, zbo, bbost, fun k d A => ok_bostr A Fbost OC nbo_first nbo_second⟩ ⟨_, _, zei, beist, fun k d A => ok_eistr A Feist OC nei_first nei_second⟩ 5
  have PO : PropsOk PX w K mg base (⟨He.ga K "Between", He.ga K "Named", He.ga K "Not", He.ga K "Both", He.ga K "Either"⟩ : Cs) := ⟨⟨cbt, _, _, _, Pbtpfield, bbtpfield, ok_btfield Fbtpfield OC nbt_field_name⟩, ⟨cbt, _, _, _, Pbtplow, bbtplow, ok_btlow Fbtplow OC nbt_lowest⟩, ⟨cbt, _, _, _, Pbtphigh, bbtphigh, ok_bthigh Fbtphigh OC nbt_highest⟩, ⟨cnm, _, _, _, Pnmpaccepted, bnmpaccepted, ok_nmacc Fnmpaccepted OC nnm_accepted_names⟩, ⟨cnt, _, _, _, Pntpone, bntpone, ok_ntone Fntpone OC nnt_inner⟩, ⟨cbo, _, _, _, Pbopone, bbopone, ok_boone Fbopone OC nbo_first⟩, ⟨cei, _, _, _, Peipone, beipone, ok_eione Feipone OC nei_first⟩, ⟨cbo, _, _, _, Pbopother, bbopother, ok_bootr Fbopother OC nbo_second⟩, ⟨cei, _, _, _, Peipother, beipother, ok_eiotr Feipother OC nei_second⟩⟩
  have Nn : FnOk PX w K mg base CX0 3 _ _ ["_law_box_here", "_law_many"] spNames := ok_names FC FA bA gA FB bB gB m_len m_list m_range
  have Nd : FnOk PX w K mg base CX0 5 _ _ ["_law_some"] (spMkNam K (He.ga K "Named")) := ok_named FF Mnm Oni gnm m_len m_list
  have Li : FnOk PX w K mg base CX0 2 _ _ ["_law_box_here", "_law_names_here"] spListed := ok_listed Fli FA bA gA m_len m_tuple
  have Lf : FnOk PX w K mg base CX0 3 _ _ ["_law_box_here", "_law_fields", "_law_names_here"] spLeaf := ok_leaf Flf FA bA gA FD bD gD Li gli kli bli m_len m_min m_max
  have Mo : FnOk PX w K mg base CX0 9 _ _ ["_law_box_here", "_law_fields", "_law_names_here", "_law_deep", "_law_most"] (spModel 5) := ok_model Fmd bmd gmd FA bA gA Lf glf klf blf 5
  have Bu : FnOk PX w K mg base CX0 11 _ _ ["_law_box_here", "_law_model_here"] (spBuilt (⟨He.ga K "Between", He.ga K "Named", He.ga K "Not", He.ga K "Both", He.ga K "Either"⟩ : Cs) 5) := ok_built Fbu bbu gbu FA bA gA Nd gF kF bF OO 5
  have Le : FnOk PX w K mg base CX0 6 _ _ ["_law_model_here"] (spLLeaves 5) := ok_lleaves Fle ble gle 5
  have De : FnOk PX w K mg base CX0 6 _ _ ["_law_model_here"] (spLDepth 5) := ok_ldepth Fde bde gde m_max 5
  have On : FnOk PX w K mg base CX0 6 _ _ ["_law_model_here"] (spOne 5) := ok_onename Fon bon gon m_tuple 5
  have Ca : FnOk PX w K mg base CX0 7 _ _ ["_law_model_here"] spCapped := ok_capped Fca Le gle kle ble On gon kon bon m_sum m_len
  have Ot : FnOk PX w K mg base CX0 8 _ _ ["_law_box_here", "_law_model_here", "_law_fields", "_law_names_here"] (spOther 4) := ok_other Fot bot got FA bA gA Lf glf klf blf 4
  have Ki : FnOk PX w K mg base CX0 1 _ _ ["_law_model_here", "_law_condition"] (spKinds (⟨He.ga K "Between", He.ga K "Named", He.ga K "Not", He.ga K "Both", He.ga K "Either"⟩ : Cs)) := ok_kinds Fki OC ek kk m_isinstance gbt gnm gnt gbo gei gLeaf gPair gcond
  have Pa : FnOk PX w K mg base CX0 17 _ _ ["_law_box_here", "_law_model_here", "_law_condition"] (spParts (⟨He.ga K "Between", He.ga K "Named", He.ga K "Not", He.ga K "Both", He.ga K "Either"⟩ : Cs) 5) := ok_parts Fpa bpa gpa Bu gbu kbu bbu Ki gki kki bki AE PO 5
  have Ri : FnG PX w K mg base CX0 19 _ _ ["_law_box_here", "_law_fields", "_law_names_here"] spRight := ok_right Fri FA bA gA Mo gmd kmd bmd Ca gca kca bca Bu gbu kbu bbu Ot got kot bot Pa gpa kpa bpa Le gle kle ble De gde kde bde OO O2 PO AE AS m_str m_sum m_len m_repr
  exact ok_law FL F8 b8 g8 F9 b9 g9 FA bA gA kC bC gC Nn kri bri gri Ri m_range m_max m_min m_len
end G
set_option Elab.async false
set_option linter.all false
set_option maxRecDepth 100000
set_option maxHeartbeats 8000000
/-! EB: the top's run. -/
namespace G
open PySem PySem.Spec PyProof.Rows L2 NdefX StX
abbrev hk : PySem.W.Hook := hookP 5 cks fns
def ob (s : PySem.W.SharedT) : AlP := obsPG 5 cks fns (HandSHeadRun.getT s)
theorem ob_eq (s : PySem.W.SharedT) : ob s = hk.obs s.abs := obsPG_eq (HandSHeadRun.getT_eq s)
def loose0 : List Str := ["_wall", "BoardError", "InvalidInteger", "InvalidName", "InvalidValue", "InvalidCondition", "InvalidText", "TooMany", "LETTERS", "DIGITS", "MOST_LETTERS", "MOST_FIELDS", "MOST_DIGITS", "GREATEST", "is_integer", "is_name", "is_value", "parse_integer", "is_decimal", "need_integer", "need_name", "need_value", "need_record", "ConditionWords", "words_of", "tree_of", "MOST_LEAVES", "MOST_DEPTH", "MOST_NAMES", "Condition"]
def loose1 : List Str := ["Leaf", "Pair", "Between", "Named", "Both", "Either", "Not", "need_condition", "sizes_of_pair", "built", "_law_cell", "_law_box", "_law_take", "_law_mixed", "_law_names", "_law_number", "_law_leaf", "_law_model", "_law_built", "_law_leaves", "_law_depth", "_law_named", "_law_listed", "_law_capped", "_law_one_name", "_law_other", "_law_classes_right", "_law_parts_right", "_law_right"]
abbrev looseX : List Str := loose0 ++ loose1
theorem run (w : World) : HandSHeadRun.RunEq (PySem.W.OpenLaw.row PySem.Challenge.rw_listviews_k09_operators_and_equal_condit) (PySem.W.view PX [65]) hk ob 20000 looseX w := by
  intro os
  kernel_rfl
end G
set_option Elab.async false
set_option linter.all false
set_option maxRecDepth 100000
set_option maxHeartbeats 8000000
/-! EC: the end. -/
open PySem PySem.W PySem.Calls PyProof.Rows
set_option maxRecDepth 100000 in
set_option maxHeartbeats 0 in
theorem PySem.Challenge.cw_listviews_k09_operators_and_equal_condit_holds : PySem.Challenge.rw_listviews_k09_operators_and_equal_condit.Holds := by
  w_on; o_law
  refine HandSHeadRun.head_any (r := OpenLaw.row PySem.Challenge.rw_listviews_k09_operators_and_equal_condit) (q := view (OpenLaw.row PySem.Challenge.rw_listviews_k09_operators_and_equal_condit).prog [65]) (H := G.hk) (ob := G.ob) (M := 20000) (loose := G.looseX) (d := HandSHeadRun.topDef (OpenLaw.row PySem.Challenge.rw_listviews_k09_operators_and_equal_condit).prog 65) (kwd := []) G.ob_eq
    (by kernel_rfl) (fun s => by kernel_rfl) G.run (by kernel_rfl) (by kernel_rfl) (by kernel_rfl) (by rfl) (by first | assumption | decide +kernel) (by decide +kernel) ⟨rfl, rfl, rfl, rfl, rfl, by decide +kernel⟩ ?hw ?hc
  case hw => w_witness2
  case hc =>
    refine G.walk_goE (l := PySem.Challenge.rw_listviews_k09_operators_and_equal_condit) (n := 63) (k := 20) (x := "_law_script") rfl (by decide) (by kernel_rfl) ⟨rfl, by decide, by decide⟩ ?F
    intro w mg fa h Y GX hmg0
    obtain ⟨K, KX, c⟩ := Y
    have hmg : mg ("law" : PySem.Str) = some (.ref fa) := by
      have e : (HandSHeadRun.topDef (OpenLaw.row PySem.Challenge.rw_listviews_k09_operators_and_equal_condit).prog 65).name = ("law" : PySem.Str) := by kernel_rfl
      rw [← e]
      exact hmg0
    obtain ⟨fd, hb, hF⟩ := G.facts (w := w) KX GX hmg c
    exact ⟨K, fd, G.spLaw K, KX, hb, fun H a ns hl _ hS => ⟨a, ns, rfl, hS, hl, fun _ => rfl⟩, hF⟩
