import PyProof.Rows.All
import Wide.All
import OpenK.AllK
import Wide.FinOn
import HandS.ForMost
import HandS.ForExc
import HandS.ExcInit
import HandS.ExcField
import HandS.TryMany
import HandS.IsInst
import HandS.Wide
import HandS.Small
import HandS.RaiseMore
import PyProof.ReprRoads
import KE.KSuper
import HandS.ClsMeth
import HandS.Nested
import HandS.More
import PyProof.InstNe
import HandS.SlotsOwn
import HandS.Words
import HandS.NamedTupSort
import KE.KCallOwn
import HandS.Flow
import HandS.Walk
import HandS.Rev
import HandS.RevRange
import HandS.Zip
import HandS.Property
import HandS.TupAny
import HandS.Style
import HandS.Deep
import PyProof.P3In
import HandS.SortInts
import HandS.Text
import HandS.WordsDict
import KE.KOpsOwn
import HandS.Star
import HandS.StrMore
import HandS.Defaults
import HandS.MakeKwOnly
import HandS.FStr
import HandS.Head0
import HandS.Head1
import HandS.Head2
import HandS.HeadHook1
import HandS.HeadHook2
import PySem.Challenge.RW_listviews_k15_orders_joined_and_turned
set_option Elab.async false
set_option linter.all false
set_option maxRecDepth 100000
set_option maxHeartbeats 2000000
/-! G1: what a def keeps where no guard is under way; repr of data at any depth, dicts too. -/
namespace G
open PySem PySem.Spec PyProof.Rows L2

/-! ### how long a shown text is -/
mutual
def mass : PyData → Nat
  | .none => 4
  | .bool _ => 5
  | .int _ => 1921
  | .str x => (reprText x).length
  | .list xs => 3 + massAll xs
  | .tuple xs => 4 + massAll xs
  | .dict kvs => 3 + massKv kvs
def massAll : List PyData → Nat
  | [] => 0
  | x :: xs => mass x + 2 + massAll xs
def massKv : List (PyData × PyData) → Nat
  | [] => 0
  | (k, v) :: r => mass k + mass v + 4 + massKv r
end
theorem text_from_le : ∀ (ts : List Str) (k : Nat) (acc : Str), (textFrom k acc ts).length ≤ acc.length + piled ts
  | [], k, acc => by
    show acc.length ≤ acc.length + 0
    omega
  | t :: r, k, acc => by
    have h1 := text_from_le r (k + 1) (acc ++ (if k > 0 then ", " else "" : String) ++ t)
    rw [strLen_append, strLen_append] at h1
    have h2 : (((if k > 0 then ", " else "" : String) : Str)).length ≤ 2 := by
      split <;> decide
    show (textFrom (k + 1) _ r).length ≤ _
    rw [piled_cons]
    omega
theorem list_text_le (ts : List Str) : (listText ts).length ≤ 3 + piled ts := by
  unfold listText
  rw [strLen_append]
  have h1 := text_from_le ts 0 "["
  have e1 : ((("[" : String) : Str)).length = 1 := rfl
  have e2 : ((("]" : String) : Str)).length = 1 := rfl
  rw [e1] at h1
  rw [e2]
  omega
theorem join_le (ts : List Str) : (Str.join ", " ts).length ≤ piled ts := by
  by_cases h : ts = []
  · subst h
    exact Nat.le_refl 0
  · have := join_length_add ts h
    omega
theorem tuple_text_le (ts : List Str) : (tupleText ts).length ≤ 4 + piled ts := by
  unfold tupleText
  rw [strLen_append, strLen_append]
  have h1 := join_le ts
  have e1 : ((("(" : String) : Str)).length = 1 := rfl
  have e3 : (((if ts.length == 1 then ",)" else ")" : String) : Str)).length ≤ 2 := by split <;> decide
  rw [e1]
  omega
theorem dict_text_le (ts : List Str) : (dictText ts).length ≤ 3 + piled ts := by
  unfold dictText
  rw [strLen_append, strLen_append]
  have h1 := join_le ts
  have e1 : ((("{" : String) : Str)).length = 1 := rfl
  have e3 : ((("}" : String) : Str)).length = 1 := rfl
  rw [e1, e3]
  omega
mutual
theorem shown_le : ∀ d : PyData, d.showable = true → d.shown.length ≤ mass d
  | .none, _ => by decide
  | .bool b, _ => by cases b <;> decide
  | .int i, h => by
    have h' : i.natAbs.log2 < 1920 := by simpa [PyData.showable] using h
    have h2 := int_text_length_le (by decide) h'
    show (Str.ofString (toString i)).length ≤ 1921
    rw [PySem.ofString_length]
    exact h2
  | .str x, _ => by
    simp only [PyData.shown, mass]
    exact Nat.le_refl _
  | .list xs, h => by
    have h' : PyData.showableAll xs = true := by simpa [PyData.showable] using h
    have h1 := list_text_le (PyData.shownAll xs)
    have h2 := shown_all_le xs h'
    simp only [PyData.shown, mass]
    omega
  | .tuple xs, h => by
    have h' : PyData.showableAll xs = true := by simpa [PyData.showable] using h
    have h1 := tuple_text_le (PyData.shownAll xs)
    have h2 := shown_all_le xs h'
    simp only [PyData.shown, mass]
    omega
  | .dict kvs, h => by
    have h' : PyData.showableKv kvs = true := by simpa [PyData.showable] using h
    have h1 := dict_text_le (PyData.shownKv kvs)
    have h2 := shown_kv_le kvs h'
    simp only [PyData.shown, mass]
    omega
theorem shown_all_le : ∀ xs : List PyData, PyData.showableAll xs = true → piled (PyData.shownAll xs) ≤ massAll xs
  | [], _ => by
    simp only [PyData.shownAll, massAll, piled_nil]
    exact Nat.le_refl _
  | x :: xs, h => by
    simp only [PyData.showableAll, Bool.and_eq_true] at h
    have h1 := shown_le x h.1
    have h2 := shown_all_le xs h.2
    simp only [PyData.shownAll, massAll, piled_cons]
    omega
theorem shown_kv_le : ∀ xs : List (PyData × PyData), PyData.showableKv xs = true → piled (PyData.shownKv xs) ≤ massKv xs
  | [], _ => by
    simp only [PyData.shownKv, massKv, piled_nil]
    exact Nat.le_refl _
  | (k, v) :: xs, h => by
    simp only [PyData.showableKv, Bool.and_eq_true] at h
    have h1 := shown_le k h.1.1
    have h2 := shown_le v h.1.2
    have h3 := shown_kv_le xs h.2
    have e : (((": " : String) : Str)).length = 2 := rfl
    simp only [PyData.shownKv, massKv, piled_cons, strLen_append, e]
    omega
end

/-! ### data that stands in the heap: lists, tuples, dicts by int and text keys -/
mutual
inductive Rp (K : PySem.W.Frag) (H : Hp) : V → PyData → Prop
  | non : Rp K H .non .none
  | bl (b : Bool) : Rp K H (.bl b) (.bool b)
  | int (i : Int) : Rp K H (.int i) (.int i)
  | str (x : Str) : Rp K H (.str x) (.str x)
  | lst {a : Addr} {xs : List V} {ds : List PyData} : H a = some (.lst xs) → RpAll K H xs ds → Rp K H (.ref a) (.list ds)
  | tup {a : Addr} {xs : List V} {ds : List PyData} : H a = some (.tup xs) → RpAll K H xs ds → Rp K H (.ref a) (.tuple ds)
  | dic {a : Addr} {kvs : List (Key × V)} {ds : List (PyData × PyData)} : H a = some (.dK kvs) → RpAll K H (kvs.map fun p => kV p.1) (ds.map (·.1)) → RpAll K H (kvs.map (·.2)) (ds.map (·.2)) → Rp K H (.ref a) (.dict ds)
inductive RpAll (K : PySem.W.Frag) (H : Hp) : List V → List PyData → Prop
  | nil : RpAll K H [] []
  | cons {v : V} {vs : List V} {d : PyData} {ds : List PyData} : Rp K H v d → RpAll K H vs ds → RpAll K H (v :: vs) (d :: ds)
end

/-! ### .. and how it is read -/
mutual
/-- no list in it: each address that a reading of it counts is a dict's -/
def okS : PyData → Bool
  | .none | .bool _ | .int _ | .str _ => true
  | .list _ => false
  | .tuple xs => okSAll xs
  | .dict kvs => okSKv kvs
def okSAll : List PyData → Bool
  | [] => true
  | x :: xs => okS x && okSAll xs
def okSKv : List (PyData × PyData) → Bool
  | [] => true
  | (k, v) :: r => okS k && okS v && okSKv r
end
theorem okSKv_split : ∀ {kvs : List (PyData × PyData)}, okSKv kvs = true → okSAll (kvs.map (·.1)) = true ∧ okSAll (kvs.map (·.2)) = true
  | [], _ => ⟨rfl, rfl⟩
  | (k, v) :: r, h => by
    simp only [okSKv, Bool.and_eq_true] at h
    obtain ⟨h1, h2⟩ := okSKv_split h.2
    simp only [List.map_cons, okSAll, Bool.and_eq_true]
    exact ⟨⟨h.1.1, h1⟩, h.1.2, h2⟩
theorem pairs_vals {P : Program} {w : World} : ∀ {kvs : List (Key × V)} {vs : List (Key × Value)} {es : List DictEntry}, KV kvs vs → Pairs (mixKind P w) es vs →
    Vals (kvs.map fun p => kV p.1) (es.map (·.key)) ∧ Vals (kvs.map (·.2)) (es.map (·.val))
  | _, _, _, .nil, .nil => ⟨.nil, .nil⟩
  | _, _, _, .cons r t, .cons hk hv p => by
    obtain ⟨h1, h2⟩ := pairs_vals t p
    refine ⟨.cons ?_ h1, .cons ?_ h2⟩
    · dsimp only
      rw [r.1]
      rcases keyIs_shape hk with ⟨i, tk, e1, e2⟩ | ⟨x, tk, e1, e2⟩
      · rw [e1, e2]
        exact ⟨tk, rfl⟩
      · rw [e1, e2]
        exact ⟨tk, rfl⟩
    · dsimp only
      rw [hv]
      exact r.2
section
variable {X : Cx} {pins : List (Addr × Obj)} {σ : L2.St} {H : Hp} {s : Shared}
mutual
theorem rp_reads (I : Inv X pins σ H s) : ∀ (d : PyData) (v : V) (u : Value), Rp X.K H v d → RelV v u → ∃ as, Reads s.heap u d as ∧ (okS d = true → sysModules ∉ as)
  | .none, _, _, h, r => by
    cases h
    cases r
    exact ⟨_, Reads.none, fun _ => by simp⟩
  | .bool b, _, _, h, r => by
    cases h
    cases r
    exact ⟨_, Reads.bool b, fun _ => by simp⟩
  | .int i, _, _, h, r => by
    cases h
    obtain ⟨t, rfl⟩ := r
    exact ⟨_, Reads.int i t, fun _ => by simp⟩
  | .str x, _, _, h, r => by
    cases h
    obtain ⟨t, rfl⟩ := r
    exact ⟨_, Reads.str x t, fun _ => by simp⟩
  | .list ds, _, _, h, r => by
    cases h with
    | lst hs ha =>
      cases r
      obtain ⟨its, rv, ⟨o, n, ho, hc, _, hd⟩, _⟩ := I.list (.of hs)
      obtain ⟨as, hr, _⟩ := rp_readsAll I ds _ its ha rv
      exact ⟨_, Reads.list ho hc hd hr, fun z => by simp [okS] at z⟩
  | .tuple ds, _, _, h, r => by
    cases h with
    | tup hs ha =>
      cases r
      obtain ⟨its, rv, ⟨o, ho, hc, n, hd⟩, _⟩ := I.tuple (.of hs)
      obtain ⟨as, hr, q⟩ := rp_readsAll I ds _ its ha rv
      exact ⟨_, Reads.tuple ho hc hd hr, fun z => q (by simpa [okS] using z)⟩
  | .dict ds, _, _, h, r => by
    cases h with
    | dic hs hk hv =>
      cases r
      obtain ⟨_, hm, vs, rel, o, es, ep, e1, e2, e3, e4, e5, e6⟩ := I.hok _ _ hs
      obtain ⟨r1, r2⟩ := pairs_vals rel e5
      obtain ⟨as, q1, z1⟩ := rp_readsKeys I ds _ _ hk r1
      obtain ⟨bs, q2, z2⟩ := rp_readsVals I ds _ _ hv r2
      refine ⟨_, Reads.dict e1 e2.1 e3 q1 q2, fun z => ?_⟩
      have hz : okSKv ds = true := by simpa [okS] using z
      obtain ⟨k1, k2⟩ := okSKv_split hz
      have hm' := beq_eq_false_iff_ne.mp hm
      intro hin
      rcases List.mem_cons.mp hin with hx | hx
      · exact hm' hx.symm
      · rcases List.mem_append.mp hx with hx | hx
        · exact z1 k1 hx
        · exact z2 k2 hx
theorem rp_readsAll (I : Inv X pins σ H s) : ∀ (ds : List PyData) (vs : List V) (us : List Value), RpAll X.K H vs ds → Vals vs us → ∃ as, ReadsAll s.heap us ds as ∧ (okSAll ds = true → sysModules ∉ as)
  | [], _, _, h, r => by
    cases h
    cases r
    exact ⟨_, ReadsAll.nil, fun _ => by simp⟩
  | d :: ds, _, _, h, r => by
    cases h with
    | cons h1 h2 =>
      cases r with
      | cons r1 r2 =>
        obtain ⟨as, q1, z1⟩ := rp_reads I d _ _ h1 r1
        obtain ⟨bs, q2, z2⟩ := rp_readsAll I ds _ _ h2 r2
        refine ⟨_, ReadsAll.cons q1 q2, fun z => ?_⟩
        simp only [okSAll, Bool.and_eq_true] at z
        intro hin
        rcases List.mem_append.mp hin with hx | hx
        · exact z1 z.1 hx
        · exact z2 z.2 hx
theorem rp_readsKeys (I : Inv X pins σ H s) : ∀ (ds : List (PyData × PyData)) (vs : List V) (us : List Value), RpAll X.K H vs (ds.map (·.1)) → Vals vs us → ∃ as, ReadsAll s.heap us (ds.map (·.1)) as ∧ (okSAll (ds.map (·.1)) = true → sysModules ∉ as)
  | [], _, _, h, r => by
    cases h
    cases r
    exact ⟨_, ReadsAll.nil, fun _ => by simp⟩
  | (d, _) :: ds, _, _, h, r => by
    cases h with
    | cons h1 h2 =>
      cases r with
      | cons r1 r2 =>
        obtain ⟨as, q1, z1⟩ := rp_reads I d _ _ h1 r1
        obtain ⟨bs, q2, z2⟩ := rp_readsKeys I ds _ _ h2 r2
        refine ⟨_, ReadsAll.cons q1 q2, fun z => ?_⟩
        simp only [List.map_cons, okSAll, Bool.and_eq_true] at z
        intro hin
        rcases List.mem_append.mp hin with hx | hx
        · exact z1 z.1 hx
        · exact z2 z.2 hx
theorem rp_readsVals (I : Inv X pins σ H s) : ∀ (ds : List (PyData × PyData)) (vs : List V) (us : List Value), RpAll X.K H vs (ds.map (·.2)) → Vals vs us → ∃ as, ReadsAll s.heap us (ds.map (·.2)) as ∧ (okSAll (ds.map (·.2)) = true → sysModules ∉ as)
  | [], _, _, h, r => by
    cases h
    cases r
    exact ⟨_, ReadsAll.nil, fun _ => by simp⟩
  | (_, d) :: ds, _, _, h, r => by
    cases h with
    | cons h1 h2 =>
      cases r with
      | cons r1 r2 =>
        obtain ⟨as, q1, z1⟩ := rp_reads I d _ _ h1 r1
        obtain ⟨bs, q2, z2⟩ := rp_readsVals I ds _ _ h2 r2
        refine ⟨_, ReadsAll.cons q1 q2, fun z => ?_⟩
        simp only [List.map_cons, okSAll, Bool.and_eq_true] at z
        intro hin
        rcases List.mem_append.mp hin with hx | hx
        · exact z1 z.1 hx
        · exact z2 z.2 hx
end
end

/-! ### repr of a list of such data -/
/-- a list at the top: its own address is not counted -/
theorem repr_top {prog : Program} {w : World} {A : Around} {E : Value → Shared → Prop} {s : Shared} {Q : Value → Shared → Prop} {a : Addr} {o : Obj} {vs : Array Value} {n : Nat} {xs : List PyData} {as : List Addr}
    (h1 : s.heap.get? a = some o) (h2 : o.cls = .type "list") (h3 : o.data = .seq vs n) (h4 : ReadsAll s.heap vs.toList xs as) (hs : PyData.showableAll xs = true) (hsm : PyData.hasDictAll xs = true → sysModules ∉ as)
    (hg : A.guards = some []) (hu : A.units + ((PyData.list xs).depth + 1) < cLine) (hsz : (listText (PyData.shownAll xs)).length ≤ sizeLine)
    (hQ : ∀ h' u tk, (∀ b o, s.heap.get? b = some o → h'.get? b = some o) → Q (.str (listText (PyData.shownAll xs)) u) { s with heap := h', toks := tk }) :
    wpAny (model prog w) A (call (.builtin "repr") [.ref a]) Q E s := by
  obtain ⟨bs, hb, hk⟩ := ReprAllK.of_readsAll (prog := prog) (w := w) h4 hs hsm (fun t ht => Nat.le_trans (listText_mem_le ht) hsz)
  have hna : a ∉ bs :=
    not_mem_of_deeper (.list h1 h2 h3 h4) (by simp only [PyData.depth]; omega) hb
  simp only [PyData.depth] at hu
  refine call_repr_slot (A := A) (by omega) (idr := "list.__repr__") (T := "list") (show s.TypeIs (.ref a) "list" from ⟨o, h1, h2⟩) F.slot_list_repr.toG ?_
  have hu1 : A.in1.units = A.units + 1 := rfl
  obtain ⟨l⟩ := vs
  cases l with
  | nil =>
    have h4' : ReadsAll s.heap [] xs as := h4
    cases h4'
    have ht := hQ s.heap
    rw [show listText (PyData.shownAll []) = ("[]" : Str) by simp only [PyData.shownAll]; exact listText_nil] at ht
    exact call_list_repr_empty ⟨o, h1, h2⟩ h1 h3 ⟨_, _, rfl, ht _ _ fun _ _ e => e⟩
  | cons x l =>
    refine call_list_reprK h1 h2 h3 hna (by simpa using hk.length_eq) (fun i y e => hk.item i y (by simpa using e)) (by exact hg) (fun b _ => Clear.nil b) (by rw [hu1]; omega) (fun _ _ e => e) (fun h' u tk k => ⟨_, _, rfl, hQ h' u tk k⟩) hsz
/-- repr(xs), xs a list of data -/
def rRepr (K : PySem.W.Frag) : List V → Hp → VK → Prop := fun vs H Q => ∃ (a : Addr) (xs : List V) (ds : List PyData), vs = [.ref a] ∧ H a = some (.lst xs) ∧ RpAll K H xs ds ∧ PyData.showableAll ds = true ∧ (PyData.hasDictAll ds = true → okSAll ds = true) ∧
  (PyData.list ds).depth ≤ 20 ∧ 3 + massAll ds ≤ sizeLine ∧ Q (.str (listText (PyData.shownAll ds))) H
theorem call_repr {X : Cx} (hg : X.A.guards = some []) (hu : X.A.units + 64 < cLine) : CallR X (.builtin "repr") (rRepr X.K) := by
  intro pins s σ H xs us Q I r h
  obtain ⟨a, ys, ds, rfl, ha, hr, hs, hd, hp, hm, q⟩ := h
  obtain rfl := Vals.ref1 r
  obtain ⟨its, rv, ⟨o, n, ho, hc, _, hdt⟩, _⟩ := I.list (.of ha)
  obtain ⟨as, q1, z1⟩ := rp_readsAll I ds _ its hr rv
  have hz := Nat.le_trans (list_text_le _) (Nat.le_trans (Nat.add_le_add_left (shown_all_le ds hs) 3) hm)
  exact repr_top ho hc hdt q1 hs (fun z => z1 (hd z)) hg (by omega) hz fun h' u tk k => ⟨.str _, H, I.kept k, ⟨u, rfl⟩, q⟩
end G
set_option Elab.async false
set_option linter.all false
set_option maxRecDepth 100000
set_option maxHeartbeats 2000000
/-! G2: a def that runs where no guard is under way, and the law's own call. -/
namespace G
open PySem PySem.Spec PyProof.Rows L2
/-- as FnOk, of arounds without guards -/
structure FnG (P : Program) (w : World) (K : PySem.W.Frag) (mg : Str → Option Value) (base : Heap) (CX : CXT) (k : Nat) (f : Addr) (fd : FuncData) (ps : List Str) (sp : Sp) : Prop where
  size : ∀ vs H Q E, sp vs H Q E → vs.length = ps.length
  go : ∀ (A : Around) (outer : List Env) (s : Shared) (H : Hp) (args : Args) (us : List Value) (vs : List V) (Q : VK) (E : XK),
    A.guards = some [] → Room k A → Env0 P w K mg base A outer s H → BindsTo s fd args (ps.zip us) → Vals vs us → sp vs H Q E → codeAny (model P w) A (.call (.ref f) args) (CR CX outer P w H s Q E) s
section
variable {P : Program} {w : World} {K : PySem.W.Frag} {mg : Str → Option Value} {base : Heap} {CX : CXT}
theorem FnG.of_body {x qual : Str} {st : Stmt} {f : Addr} {fd : FuncData} {N ps : List Str} {k : Nat} {sp : Sp} (F : Fun K x qual st f fd) (S : FnScope N ps (defScope st))
    (size : ∀ vs H Q E, sp vs H Q E → vs.length = ps.length)
    (body : ∀ (cdv : Value) (A : Around) (outer : List Env) (s : Shared) (H : Hp) (vs : List V) (Q : VK) (E : XK), A.guards = some [] →
      Room k (A.deeper (envOfC qual (defScope st) s.heap.objs.size f cdv)) → sp vs H Q E →
      ∃ t, PSs (cxOf CX P w K mg base N qual (defScope st) f cdv A outer s H E).nox (defBody st) t ∧ t { nx := fun _ H' => Q .non H', rt := Q } (start N vs) H) :
    FnG P w K mg base CX (k + 1) f fd ps sp := by
  obtain ⟨_, _, _, _, _, _, cdv, _, _, rfl, lk, hcd⟩ := F.ex
  refine ⟨size, fun A outer s H args us vs Q E hg hr e0 hb r h => ?_⟩
  have inS : K.In s.heap := e0.mod.kin.keeps fun b o e => (e0.bs b o e).1
  have noL : s.heap.NoLimit := e0.mod.nolimit.keeps fun b o e => (e0.bs b o e).1
  refine codeAny_call_function hr.depth (inS _ _ lk) rfl S.co S.gen rfl
    (PySem.W.codeRec_of inS hcd) (hb _ _ _ _ ?_)
  refine wpAny_newFunctionEnv_cells S.kind
    (fun ⟨n, v⟩ hy => ?_) fun env he s1 x => ?_
  · rcases S.par n (List.of_mem_zip hy).1 with q | q
    · exact Or.inl q
    · exact Or.inr ⟨q, PySem.W.cellsFrom_some _ _ _ (Or.inl q)⟩
  · subst he
    refine ⟨noL.keeps x.toInCall.keep, codeAny_func ?_⟩
    obtain ⟨t, ht, hq⟩ := body cdv A outer s H vs Q E hg (hr.deeper _) h
    have J := inv_start (CX := CX) (P := P) (w := w) (K := K) (mg := mg) (base := base) (E := E) S hr.hd e0 (size _ _ _ _ h) r x
    refine wpAny_mono (ht.nox.run [] s1 (start N vs) H _ J hq) (fun fl s' z => ?_) fun e s' z => z
    cases fl with
    | ret u =>
      obtain ⟨v, σ', H', J', rv, q⟩ := z
      exact ⟨v, H', J'.os, J'.bare, J'.base, J'.hok, rv, q⟩
    | next =>
      obtain ⟨σ', H', J', q⟩ := z
      exact ⟨.non, H', J'.os, J'.bare, J'.base, J'.hok, rfl, q⟩
    | brk =>
      obtain ⟨_, _, _, q⟩ := z
      exact q.elim
    | cont =>
      obtain ⟨_, _, _, q⟩ := z
      exact q.elim
end
section
variable {X : Cx} {CX : CXT} {k : Nat} {f : Addr} {fd : FuncData} {ps : List Str} {sp : Sp} {dvs : List V} {ds : List Value} {E : XK} {x : Str} {p pos : Pos} {e : Expr} {es : List Expr} {t : TA}
theorem FnG.run {pins : List (Addr × Obj)} {σ : L2.St} {H : Hp} {s : Shared} {Q : VK} {us : List Value} {vs : List V} (F : FnG X.prog X.w X.K X.mg X.base CX k f fd ps sp) (hg : X.A.guards = some []) (hr : Room k X.A) (hb : Binds X.K fd ps ds) (hd : Vals dvs ds)
    (hx : Passes CX X E) (I : Inv X pins σ H s) (r : Vals vs us) (h : sp (vs ++ dvs) H Q E) : wpAny (model X.prog X.w) X.A (call (.ref f) us) (EP X pins σ Q) X.xe s := by
  have both := r.append hd
  have size : (us ++ ds).length = ps.length := both.length.symm.trans (F.size _ _ _ _ h)
  refine wpAny_call (codeAny_mono (F.go X.A X.stack s H ⟨us, []⟩ (us ++ ds) (vs ++ dvs) Q E hg hr I.env0 (hb s us I.kIn size) both h) fun q s' z => ?_)
  match q, z with
  | .error er, z => exact hx pins σ H s er s' I z
  | .ok (.ret u), z => exact I.after z
/-- f(e, ..) -/
theorem pe_callG (F : FnG X.prog X.w X.K X.mg X.base CX k f fd ps sp) (hg : X.A.guards = some []) (hr : Room k X.A) (gl : Gl X x) (hm : X.mg x = some (.ref f)) (hk : PySem.W.keepIn X.K (.ref f) = true) (hb : Binds X.K fd ps ds) (hd : Vals dvs ds)
    (hx : Passes CX X E) (ha : PA X (e :: es) t) (hdb : (x == ("__debug__" : Str)) = false := by decide)
    (he : starEach (e :: es) X.env = (false, eval e X.env) :: starEach es X.env := by rfl) (hpl : (backTo pos (starEach es X.env)).any (·.1) = false := by rfl) : PE X (.Call (.Name x p) (e :: es) [] pos) (tCall sp dvs E t) := by
  constructor
  intro pins s σ H Q I h
  refine wpAny_Call_Name_kw (ld_glob I gl hm ?_ hdb)
  exact PySem.W.callWith_K (h₀ := X.base) I.ok.mod.kin hk
    (thn (ha.run pos pins s σ H _ I h) fun us s1 ⟨vs, H1, I1, r, q⟩ => ⟨I1.kIn, F.run hg hr hb hd hx I1 r q⟩) he hpl
end
/-- True comes out, what stood stands, nothing went in or out -/
def Fine (s : Shared) (r : Result) (s' : Shared) : Prop :=
  r = .ok (.ret (.bool true)) ∧ OldK s.heap s'.heap ∧ s'.os = s.os ∧ AllBare s'.gens
/-- the law's call, from the state that the top leaves -/
theorem law_go {P : Program} {w : World} {K : PySem.W.Frag} {mg mb : Str → Option Value} {k : Nat} {fa a : Addr} {fd : FuncData} {x : Str} {sp : Sp} {s₁ : Shared} {vs : List Value} {ns : List Int}
    (inK : K.In s₁.heap) (gl : s₁.heap.Ns mainGlobals mg)
    (bl : s₁.heap.Ns builtinsNs mb) (boot : ∀ y : Str, y ≠ "__name__" → mb y = bootBuiltins y)
    (lim : s₁.heap.NoLimit) (noG : s₁.gens = #[])
    (script : s₁.heap.get? a = some { cls := .type "list", data := .seq vs.toArray })
    (allInt : IntsAre vs ns) (few : ns.length ≤ sizeLine) (hr : Room k callerA)
    (F : ∀ base : Heap, K.In base → base.Ns mainGlobals mg → FnG P w K mg base CX0 k fa fd [x] sp) (hbind : ∀ (s : Shared) (u : Value), BindsTo s fd ⟨[u], []⟩ [(x, u)])
    (hsp : ∀ H : Hp, Only H → SqL K H a (ns.map V.int) → sp [.ref a] H (fun v _ => v = .bl true) fun _ _ _ => False) :
    codeAny (model P w) callerA (.call (.ref fa) ⟨[.ref a], []⟩)
      (Fine s₁) s₁ := by
  -- nothing but the script is tracked; if the written part holds the script, nothing at all
  have main : ∀ H : Hp, Only H → SqL K H a (ns.map V.int) → HOk P w H s₁.heap → (∀ b, H b ≠ none → b = a ∧ K.lookup a = none) →
      codeAny (model P w) callerA (.call (.ref fa) ⟨[.ref a], []⟩)
      (Fine s₁) s₁ := by
    intro H hO hS hok hA
    have nsK : ∀ {b : Addr} {m : Str → Option Value}, s₁.heap.Ns b m → (hidT s₁.heap H).Ns b m := by
      rintro b m ⟨o, es, ep, e, d, r⟩
      refine ⟨o, es, ep, hidT_get e ?_, d, r⟩
      cases q : H b with
      | none => rfl
      | some u =>
        exfalso
        have eb := (hA b (by rw [q]; simp)).1
        rw [eb, script] at e
        rw [← Option.some.inj e] at d
        cases d
    have inB : K.In (hidT s₁.heap H) := fun b o e => hidT_get (inK b o e) (by
      cases q : H b with
      | none => rfl
      | some u =>
        exfalso
        obtain ⟨e1, e2⟩ := hA b (by rw [q]; simp)
        rw [e1, e2] at e
        cases e)
    obtain ⟨mc, l1, l2⟩ := lim
    have hM : Mod K mg (hidT s₁.heap H) := ⟨inB, nsK gl, ⟨mb, nsK bl, boot⟩, ⟨mc, nsK l1, l2⟩⟩
    have e0 : Env0 P w K mg (hidT s₁.heap H) callerA [] s₁ H := ⟨rfl, hM, fun b o e => of_hidT e, Nat.le_of_eq (hidT_size _ _), trivial, fun b z => absurd (show b ∈ ([] : List Addr) from z) (by simp), hok, .of_eq noG⟩
    have run := (F _ inB (nsK gl)).go callerA [] s₁ H ⟨[.ref a], []⟩ [.ref a] [.ref a] _ _ rfl hr e0 (hbind s₁ (.ref a)) (.cons rfl .nil) (hsp H hO hS)
    refine codeAny_mono run fun r s' h => ?_
    match r, h with
    | .ok (.ret u), h =>
      obtain ⟨v, H', os, bare, un, hok', r', q⟩ := h
      obtain rfl : v = .bl true := q
      obtain rfl : u = Value.bool true := r'
      refine ⟨rfl, OldK.of_keep fun b o e => ?_, os, bare⟩
      rcases hO b with z | ⟨ob, xs, z⟩
      · exact un.keep b o e z (fun z => absurd (show b ∈ ([] : List Addr) from z) (by simp)) (by simp)
      · obtain ⟨e1, _⟩ := hok b _ z
        obtain ⟨e2, _⟩ := hok' b _ (un.frzs b ob _ z)
        rw [e] at e1
        cases e1
        exact e2
  cases hk : K.lookup a with
  | some o =>
    have e := inK a o hk
    rw [script] at e
    cases e
    refine main (fun _ => none) (fun _ => .inl rfl) (.inr ⟨_, vs.toArray, _, hk, rfl, rfl, rfl, ?_, ?_⟩) (fun b u z => nomatch z) fun b z => absurd rfl z
    · rw [List.size_toArray, allInt.length]
      exact few
    · simpa using vals_ints allInt
  | none =>
    let o : Obj := { cls := .type "list", data := .seq vs.toArray }
    let T : HO := .frz o (.lst (ns.map V.int))
    have at_a : upd (fun _ => none) a T a = some T := upd_same
    refine main (upd (fun _ => none) a T) (fun b => ?_) (.inl (.inr ⟨o, at_a⟩)) (fun b u z => ?_) fun b z => ?_
    · by_cases h : b = a
      · exact .inr ⟨o, _, by rw [h]; exact at_a⟩
      · exact .inl (upd_ne h)
    · by_cases h : b = a
      · subst h
        rw [at_a] at z
        cases z
        exact ⟨script, by rw [List.length_map]; exact few, vs, _, vals_ints allInt, script⟩
      · rw [upd_ne h] at z
        cases z
    · by_cases h : b = a
      · exact ⟨h, hk⟩
      · exact absurd (upd_ne h) z
/-- what k_head leaves, by the law's promise -/
theorem walk_go {l : PySem.W.OpenLaw} {n k : Nat} {q : Program} {loose : List Str} {XP : (Str → Option Value) → Heap → Prop} {YP : World → Heap → Prop} {d : DefRec} {K : Params → PySem.W.Frag} {sp : PySem.W.Frag → Sp} {x : Str}
    (most : l.most = some n) (few : n ≤ sizeLine)
    (nodf : d.params.defaults = []) (hr : Room k callerA)
    (hY : ∀ (w : World) (h : Heap), YP w h → (K w.params).In h)
    (F : ∀ (w : World) (mg : Str → Option Value) (fa : Addr) (h : Heap),
      (K w.params).In h → h.Ns mainGlobals mg → mg d.name = some (.ref fa) →
      ∃ fd : FuncData, (∀ (s : Shared) (u : Value), BindsTo s fd ⟨[u], []⟩ [(x, u)]) ∧ ∀ base : Heap, (K w.params).In base → base.Ns mainGlobals mg → FnG l.prog w (K w.params) mg base CX0 k fa fd [x] (sp (K w.params)))
    (hsp : ∀ (K : PySem.W.Frag) (H : Hp) (a : Addr) (ns : List Int), ns.length ≤ n → Only H → SqL K H a (ns.map V.int) → sp K [.ref a] H (fun v _ => v = .bl true) fun _ _ _ => False) :
    PySem.W.WalkO q loose XP YP l.row.toRowW d []
      (fun f vs => PySem.call f vs) := by
  refine Att.attach_call most nodf
    fun w _ s₁ mg mb fa _ _ _ _ a vs ns top Y _ _ _ atF obj allInt len noG => ?_
  have inK := hY w _ Y
  obtain ⟨fd, binds, keeps⟩ := F w mg fa _ inK top.T.g atF
  exact law_go inK top.T.g top.T.b top.T.builtins top.T.nolimit noG obj allInt (Nat.le_trans len few) hr keeps binds
    fun H hO hS => hsp _ H a ns len hO hS
end G
set_option Elab.async false
set_option linter.all false
set_option maxRecDepth 100000
set_option maxHeartbeats 2000000
/-! U1: a method that says super().__init__(..): its own activation is known while it runs. -/
namespace G
open PySem PySem.Spec PyProof.Rows L2 NdefX

/-- one statement, of a body whose activation is on top -/
structure PSa (X : Cx) (body : List Stmt) (st : Stmt) (t : TS) : Prop where
  run : ∀ (pins : List (Addr × Obj)) (s : Shared) (σ : L2.St) (H : Hp) (D : Ends), Inv X pins σ H s → t D σ H → _root_.PySem.wpAt (model X.prog X.w) X.A (.func body X.env) (exec st X.env) (SP X pins D) X.xe s
/-- .. several -/
structure PSsa (X : Cx) (body : List Stmt) (st : List Stmt) (t : TS) : Prop where
  run : ∀ (pins : List (Addr × Obj)) (s : Shared) (σ : L2.St) (H : Hp) (D : Ends), Inv X pins σ H s → t D σ H → _root_.PySem.wpAt (model X.prog X.w) X.A (.func body X.env) (execs st X.env) (SP X pins D) X.xe s
section
variable {X : Cx} {body rest : List Stmt} {st : Stmt} {t u : TS}
theorem psa (h : PS X st t) : PSa X body st t := ⟨fun pins s σ H D I q => wpAt_of_wpAny (h.run pins s σ H D I q)⟩
theorem pssa {sts : List Stmt} (h : PSs X sts t) : PSsa X body sts t := ⟨fun pins s σ H D I q => wpAt_of_wpAny (h.run pins s σ H D I q)⟩
theorem pssa_cons (h1 : PSa X body st t) (h2 : PSsa X body rest u) : PSsa X body (st :: rest) (tSeq t u) := by
  refine ⟨fun pins s σ H D I h => ks_wpAt_execs_cons (ks_wpAt_mono (h1.run pins s σ H { D with nx := u D } I h) (fun f s1 q => ?_) fun _ _ z => z)⟩
  cases f with
  | next =>
    obtain ⟨σ', H', I', q⟩ := q
    exact h2.run pins s1 σ' H' D I' q
  | ret v => exact q
  | brk => exact q
  | cont => exact q
end

/-- what of the text the words super().__init__ rest on, said in the def at f, of the class at D, to an instance of the class at C; f2: the __init__ found -/
structure SupOf (P : Program) (K : PySem.W.Frag) (f cda cc D C f2 : Addr) (x : Str) : Prop where
  fn : ∃ oc od fd sl ar, K.lookup f = some ⟨oc, od, .func fd, sl⟩ ∧ (fd.params.posonlyargs ++ fd.params.args).head? = some ar ∧ ar.arg = x
  code : ∃ oc od vs sl file tf, K.lookup cda = some ⟨oc, od, .fields vs, sl⟩ ∧ vs[2]? = some (.str file tf) ∧ ((P.main.file : Str) == file) = true
  cell : ∃ oc od sl, K.lookup cc = some ⟨oc, od, .cell (some (.ref D)), sl⟩
  isc : ∃ cd, PySem.W.clsIn K D = some cd
  isC : ∃ cd, PySem.W.clsIn K C = some cd
  sub : PySem.W.mroIn K C (.ref D) = some true
  thd : PySem.W.nsIn K cStatics "thirdparty.any" = some none
  sup : PySem.W.ks_superIn K C D "__init__" = some (some (.ref f2))
  ty : PySem.W.typeIn K (.ref f2) = some (.type "function")
  fi : PySem.W.fnIn K f2 = true
  top : (P.main.scope.names.lookup ("super" : Str)).isSome = false

/-- super().__init__(..), the instance in the slot i -/
def tSup (i : Nat) (C : Addr) (sp : Sp) (E : XK) (t : TA) : TS := fun D σ H => ∃ a dx fs, σ[i]? = some (some (.ref a)) ∧ H a = some (.ins C dx fs) ∧
  t σ H fun vs H1 => sp (.ref a :: vs) H1 (fun _ H2 => D.nx σ H2) E

section
variable {X : Cx} {CX : CXT} {k i : Nat} {f cda cc D C f2 : Addr} {x : Str} {sp : Sp} {E : XK} {body : List Stmt} {e : Expr} {es : List Expr} {t : TA} {p0 p1 apos pos spos : Pos} {pl : Sem Bool}
theorem cls_at {h : Heap} {K : PySem.W.Frag} {D : Addr} {cd : ClassData} (I : K.In h) (hD : PySem.W.clsIn K D = some cd) : ∃ o, h.get? D = some o ∧ o.data = .cls cd := by
  unfold PySem.W.clsIn at hD
  split at hD
  · rename_i c d cd' sl ho
    cases hD
    exact ⟨_, I _ _ ho, rfl⟩
  · cases hD
/-- the object super() -/
theorem super_base {pins : List (Addr × Obj)} {s : Shared} {σ : L2.St} {H : Hp} {whole : Sem Value} {a dx : Addr} {fs : List (Str × V)} {Q : Value → Shared → Prop}
    (I : Inv X pins σ H s) (S : SupOf X.prog X.K f cda cc D C f2 x) (hfu : X.env.func = some f) (hco : X.env.code = .ref cda) (hcl : X.env.cells.lookup ("__class__" : Str) = some cc)
    (hks : X.env.kindOf "super" = some .globalImplicit) (hkc : X.env.kindOf "__class__" = some .free) (hkx : X.env.kindOf x = some .local) (hm : X.mg "super" = none) (hN : X.N[i]? = some x)
    (hs : σ[i]? = some (some (.ref a))) (ha : H a = some (.ins C dx fs))
    (h : ∀ s', Inv X pins σ H s' → s'.heap.get? s.heap.objs.size = some { cls := .type "super", dict := none, data := .fields #[.ref D, .ref a, .ref C], slots := #[] } → Q (.ref s.heap.objs.size) s') :
    _root_.PySem.wpAt (model X.prog X.w) X.A (.func body X.env) (attributeBase (.Call (.Name "super" p0) [] [] p1) "__init__" X.env whole) Q X.xe s := by
  obtain ⟨oc, od, fd, sl, ar, lk, hp, hx⟩ := S.fn
  obtain ⟨oc2, od2, vs, sl2, file, tf, lk2, hv, hfile⟩ := S.code
  obtain ⟨oc3, od3, sl3, lk3⟩ := S.cell
  obtain ⟨cdD, hD⟩ := S.isc
  have inK := I.kIn
  obtain ⟨oD, hD1, hD2⟩ := cls_at inK hD
  obtain ⟨mb, b1, b2⟩ := I.mod.blt
  obtain ⟨m, hn, hl⟩ := I.loc
  obtain ⟨u, ru, hlook⟩ := hl i x _ hN hs (.inl hkx)
  obtain rfl : u = Value.ref a := ru
  have hmx : m x = some (.ref a) := by
    rcases hlook with ⟨_, z⟩ | ⟨z, _⟩
    · exact z
    · rw [hkx] at z
      rcases z with z | z <;> cases z
  have hob : s.heap.get? a = some (PySem.W.instObj C dx) := (show ObjOk X.prog X.w H s.heap a (.ins C dx fs) from I.hok a _ ha).2.2.2.1
  refine ks_wpAt_super_base hks hkc (by decide) hfu (inK _ _ lk) rfl hp hco (inK _ _ lk2) rfl hv hfile S.top ?_
  refine PySem.W.ks_loadName_global I.ok.kind hks (Calls.loadGlobal_builtin (by rw [I.ok.glob]; exact I.mod.glob.keeps I.bk) hm (by rw [I.ok.blt]; exact b1.keeps I.bk) ((b2 "super" (by decide)).trans (by first | rfl | decide +kernel)) ⟨rfl, ?_⟩)
  refine wpAny_loadName_free I.ok.kind hkc hcl ⟨_, inK _ _ lk3, rfl⟩ ?_
  rw [hx]
  refine wpAny_loadName_local I.ok.kind hkx hn hmx ?_
  obtain ⟨hh, g, d, tk, os⟩ := s
  refine ks_wpAny_isType_cls hD1 hD2 ⟨rfl, ?_⟩
  refine ks_wpAny_call_super hD1 hD2 hob rfl (fun c z => nomatch z) (PySem.W.looks_mroIn inK S.sub) fun h' e1 kp => ?_
  exact h _ (I.kept (t' := tk) kp) e1
/-- super().__init__(e, ..) -/
theorem psa_super (S : SupOf X.prog X.K f cda cc D C f2 x) (F : FnR X.prog X.w X.K X.mg X.base CX k f2 sp) (hr : Room k X.A) (hx : Passes CX X E) (hfu : X.env.func = some f) (hco : X.env.code = .ref cda) (hcl : X.env.cells.lookup ("__class__" : Str) = some cc)
    (hks : X.env.kindOf "super" = some .globalImplicit) (hkc : X.env.kindOf "__class__" = some .free) (hkx : X.env.kindOf x = some .local) (hm : X.mg "super" = none) (hN : X.N[i]? = some x) (ha : PA X (e :: es) t)
    (hst : starEach (e :: es) X.env = (false, eval e X.env) :: starEach es X.env := by rfl) (hpl : (backTo pos (starEach es X.env)).any (·.1) = false := by rfl)
    (ht : eval (.Call (.Attribute (.Call (.Name "super" p0) [] [] p1) "__init__" apos) (e :: es) [] pos) X.env = (do
      let ov ← attributeBase (.Call (.Name "super" p0) [] [] p1) "__init__" X.env (eval (.Call (.Name "super" p0) [] [] p1) X.env)
      standAt apos.atName
      let (f, first) ← holding [ov] (getMethod ov "__init__" pl)
      callWith pos f first (backTo pos (starEach (e :: es) X.env)) []) := by rfl)
    (hw : swapsWith (.Call (.Attribute (.Call (.Name "super" p0) [] [] p1) "__init__" apos) (e :: es) [] pos) none spos.line X.env = pure false := by rfl) :
    PSa X body (.Expr (.Call (.Attribute (.Call (.Name "super" p0) [] [] p1) "__init__" apos) (e :: es) [] pos) spos) (tSup i C sp E t) := by
  refine ⟨fun pins s σ H Dn I h => ?_⟩
  obtain ⟨a, dx, fs, h1, h2, q⟩ := h
  refine ks_wpAt_Expr_any (ks_wpAt_MethodCall (pl := pl) (super_base I S hfu hco hcl hks hkc hkx hm hN h1 h2 fun s1 I1 hso => ?_) ht) I.quiet hw
  obtain ⟨cdC, hC⟩ := S.isC
  have inK := I1.kIn
  have hob : s1.heap.get? a = some (PySem.W.instObj C dx) := (show ObjOk X.prog X.w H s1.heap a (.ins C dx fs) from I1.hok a _ h2).2.2.2.1
  obtain ⟨oC, hC1, hC2⟩ := cls_at inK hC
  have hne : a ≠ C := fun z => by
    rw [z, hC1] at hob
    rw [Option.some.inj hob] at hC2
    cases hC2
  obtain ⟨of, hof, hofc⟩ : ∃ of, s1.heap.get? f2 = some of ∧ of.cls = .type "function" := by
    have ht' : (X.K.lookup f2).map (·.cls) = some (.type "function") := S.ty
    cases z : X.K.lookup f2 with
    | none =>
      rw [z] at ht'
      cases ht'
    | some of =>
      rw [z] at ht'
      exact ⟨of, inK _ _ z, Option.some.inj ht'⟩
  have hsup := S.sup
  unfold PySem.W.ks_superIn at hsup
  rw [hC] at hsup
  obtain ⟨hh, g, d, tk, os⟩ := s1
  refine ks_wpAny_getMethod_super hso (PySem.W.looks_opaque inK S.thd) (l₀ := cdC.mro) ((PySem.W.looks_clsIn inK hC).andThen .now) rfl inK hsup hof hofc hne (by decide) ?_
  have I2 := ClX.met_new (g := f2) (C := a) I1
  refine ClX.callwith_cm I2 (ClX.base_none I1 (Nat.le_refl _)) S.fi (thn (ha.run pos _ _ σ H _ I2 q) fun us s3 ⟨vs, H3, I3, r3, q3⟩ => ⟨⟨ClX.pin_at I3, I3.kIn⟩, ?_⟩) hst hpl
  refine thn (ClX.run_cm F hr hx I3 r3 q3) fun _ _ y => ?_
  obtain ⟨v, H4, I4, _, q4⟩ := y
  exact ⟨σ, H4, I4, q4⟩
end

/-! ### the method -/
/-- THE RULE: a method that captures __class__ (it says super()), by its body -/
theorem fnx_of {CX : CXT} {P : Program} {w : World} {K : PySem.W.Frag} {mg : Str → Option Value} {base : Heap} {k : Nat} {f cda cc : Addr} {name qual : Str} {params : Arguments} {body : List Stmt} {scope : Scope} {dV kV doc pm ct oc : Value} {an od : Option Addr}
    {osl : Array (Option Value)} {N ps : List Str} {sp : Sp} (lk : K.lookup f = some ⟨oc, od, .func (PySem.W.ksFn name qual params body scope dV kV doc pm an (.ref cda) ct cc), osl⟩) (hcd : PySem.W.codeIn K (.ref cda) qual = true)
    (hcell : ∃ oc od sl v, K.lookup cc = some ⟨oc, od, .cell v, sl⟩) (S : NScope N ps ["__class__"] scope) (len : ∀ vs H Q E, sp vs H Q E → vs.length = ps.length)
    (hbody : ∀ (A : Around) (outer : List Env) (s : Shared) (H : Hp) (vs : List V) (Q : VK) (E : XK), Room k (A.deeper (envF ⟨name, qual, params, body, scope, [("__class__", cc)], cda⟩ f s.heap.objs.size)) → sp vs H Q E →
      ∃ t, PSsa (ncx CX P w K mg base N ⟨name, qual, params, body, scope, [("__class__", cc)], cda⟩ f A outer s H E) body body t ∧ t { nx := fun _ H' => Q .non H', rt := Q } (startF N vs [none]) H) :
    FnOk P w K mg base CX (k + 1) f (PySem.W.ksFn name qual params body scope dV kV doc pm an (.ref cda) ct cc) ps sp := by
  refine ⟨len, fun A outer s H args us vs Q E hr e0 hb r hsp => ?_⟩
  have hl := len _ _ _ _ hsp
  have inK : K.In s.heap := e0.mod.kin.keeps fun b o e => (e0.bs b o e).1
  have lim : s.heap.NoLimit := e0.mod.nolimit.keeps fun b o e => (e0.bs b o e).1
  obtain ⟨oc3, od3, sl3, v3, lk3⟩ := hcell
  have C : CellsAt [(("__class__" : Str), cc)] ["__class__"] [none] s.heap H := by
    have one : ∀ {y : Str} {c : Addr}, List.lookup y [(("__class__" : Str), cc)] = some c → y = "__class__" ∧ c = cc := fun {y c} z => by
      have z2 := PySem.mem_of_lookup z
      rw [List.mem_singleton] at z2
      exact ⟨congrArg Prod.fst z2, congrArg Prod.snd z2⟩
    refine ⟨rfl, fun y c z => ?_, fun y y' c z z' => (one z).1.trans (one z').1.symm, fun i y z => ?_⟩
    · obtain ⟨_, rfl⟩ := one z
      exact ⟨(e0.bs _ _ (e0.mod.kin _ _ lk3)).2, v3, _, inK _ _ lk3, rfl⟩
    · have hy : y = "__class__" := by
        have z2 := List.mem_of_getElem? z
        rw [List.mem_singleton] at z2
        exact z2
      subst hy
      refine ⟨cc, by simp [List.lookup], fun v z => ?_⟩
      cases i with
      | zero => cases z
      | succ j => cases z
  refine codeAny_call_function hr.depth (inK _ _ lk) rfl S.co S.gen rfl (PySem.W.codeRec_of inK hcd) (hb _ _ _ _ ?_)
  refine wpAny_newFunctionEnv S.nocell (fun ⟨n, _⟩ hy => S.par n (List.of_mem_zip hy).1) (fun h₁ hns hsb => ⟨lim.fresh _ hsb, ?_⟩) S.kind
  show codeAny _ _ (.func body (envF ⟨name, qual, params, body, scope, [("__class__", cc)], cda⟩ f s.heap.objs.size)) _ _
  refine ks_codeAny_funcAt ?_
  have kp : ∀ b o, s.heap.get? b = some o → h₁.get? b = some o := fun b o e => hsb.extBut b o (Nat.ne_of_lt (Heap.lt_size e)) (Heap.get?_push_of_some _ e)
  obtain ⟨t, ht, hq⟩ := hbody A outer s H vs Q E (hr.deeper _) hsp
  have I : Inv (ncx CX P w K mg base N ⟨name, qual, params, body, scope, [("__class__", cc)], cda⟩ f A outer s H E) [] (startF N vs [none]) H { s with heap := h₁, toks := s.toks + (ps.zip us).length } := inv_startN S hr.hd e0 hl r C hns kp
  refine ks_wpAt_mono (ht.run [] _ (startF N vs [none]) H _ I hq) (fun fl s' hs => ?_) fun e s' hs => hs
  have fin : ∀ {σ' : L2.St} {H' : Hp} {v : V} {u : Value}, Inv (ncx CX P w K mg base N ⟨name, qual, params, body, scope, [("__class__", cc)], cda⟩ f A outer s H E) [] σ' H' s' → L2.RelV v u → Q v H' → CE outer P w H s Q u s' :=
    fun {σ' H' v u} J rv q => ⟨v, H', J.os, J.bare, J.base, J.hok, rv, q⟩
  cases fl with
  | ret u =>
    obtain ⟨v, σ', H', J, rv, q⟩ := hs
    exact fin J rv q
  | next =>
    obtain ⟨σ', H', J, q⟩ := hs
    exact fin (v := V.non) (u := Value.none) J rfl q
  | brk =>
    obtain ⟨_, _, _, q⟩ := hs
    exact False.elim q
  | cont =>
    obtain ⟨_, _, _, q⟩ := hs
    exact False.elim q
end G
set_option Elab.async false
set_option linter.all false
set_option maxRecDepth 100000
set_option maxHeartbeats 2000000
/-! Q1: == and != by an own __eq__ with both answers, the right side of any kind. -/
namespace G
open PySem PySem.Spec PyProof.Rows L2
open Builtin in
theorem entry_ne {prog : Program} {w : World} {A : Around} {E : Value → Shared → Prop} {s : Shared} {K : PySem.W.Frag} {x C f : Addr} {ox : Obj} {od : Option Obj} {b : Value} {Q : Fin → Shared → Prop}
    (X : K.In s.heap) (I : PySem.W.InstAt s.heap x ox C od) (hu : A.units < cLine) (hs : PySem.W.findIn K (.ref C) "__eq__" = some (some (.ref f))) (hf : PySem.W.isFn K (.ref f) = true)
    (hcall : wpAny (model prog w) A (call (.ref f) [.ref x, b]) (fun v s' => ∃ k, v = .bool k ∧ Q (.done (.ret (.bool (!k)))) s') E s) :
    wpAny (model prog w) A (Builtin.«object.__ne__» ⟨[.ref x, b], []⟩) Q E s := by
  unfold Builtin.«object.__ne__»
  repeat (first
    | with_reducible refine wpAny_cRoomFor hu ?_
    | (refine wpAny_bind (m := callSpecialIfBound? (.ref x) (Str.ofString "__eq__") [b])
        (PySem.W.ifBound_K X I hs hf (wpAny_mono hcall (fun r s' hr => by
          obtain ⟨k, rfl, hq⟩ := hr
          repeat (first | exact hq | exact wpAny_pure hq | exact wpAny_truthy_bool hq | (refine wpAny_bind (m := truthy (.bool _)) (wpAny_truthy_bool ?_)) | wp_step)) fun _ _ e => e)))
    | wp_step)
/-- what == and != ask of the class at C -/
structure EqO (K : PySem.W.Frag) (C f : Addr) : Prop where
  eq : PySem.W.findIn K (.ref C) "__eq__" = some (some (.ref f))
  fn : PySem.W.isFn K (.ref f) = true
  ne : PySem.W.findIn K (.ref C) "__ne__" = some (some (.builtin "object.__ne__"))
  ob : PySem.W.mroIn K C (.type "object") = some true
theorem ne_K {prog : Program} {w : World} {A : Around} {E : Value → Shared → Prop} {s : Shared} {K : PySem.W.Frag} {x C L f : Addr} {h₀ : Heap} {m : Str → Option Value} {ox : Obj} {od : Option Obj} {b tb : Value} {Q : Value → Shared → Prop} (hu : A.units + 1 < cLine) (hFr : Fr h₀ L s.heap m) (X₀ : K.In h₀)
    (I : PySem.W.InstAt s.heap x ox C od) (hb : PySem.W.Looks (model prog w) s.heap (typeOf b) tb) (hn : PySem.W.notFirst K C tb = true) (e : EqO K C f)
    (h : wpAny (model prog w) A.in1 (call (.ref f) [.ref x, b]) (fun v s' => ∃ k, v = .bool k ∧ Q (.bool (!k)) s') E s) : wpAny (model prog w) A (richCompare .NotEq (.ref x) b) Q E s := by
  have X := X₀.keeps hFr.keep
  have sp : PySem.W.Looks (model prog w) s.heap (specialOf (.ref x) "__ne__") (some (.builtin "object.__ne__")) := I.type.andThen (PySem.W.looks_findIn X e.ne)
  have iv : PySem.W.Looks (model prog w) s.heap (isInstance (.ref x) (.type "object")) true := I.type.andThen (PySem.W.looks_mroIn X e.ob)
  have one : wpAny (model prog w) A (tryCompare (.ref x) "__ne__" b) (fun r s' => ∃ v, r = some v ∧ Q v s') E s := by
    unfold tryCompare
    refine wpAny_bind (NtL.csib sp (F.cmp_object.ne.bind _) (wpAny_call (codeAny_call_builtin F.cmp_object.ne.plain F.cmpEntry_ne
      (PySem.W.check_slot F.cmpKind_ne F.cmpSplit_ne iv (F.cmpArgs_ne _ _) (entry_ne (A := A.in1) X I hu e.eq e.fn (wpAny_mono h (fun v s' hv => ?_) fun _ _ z => z))))))
    obtain ⟨k, rfl, hq⟩ := hv
    first | exact ⟨k, rfl, wpAny_pure ⟨_, rfl, hq⟩⟩ | exact ⟨k, rfl, _, rfl, hq⟩
  unfold richCompare
  simp only [oneThing_ref]
  refine wpAny_holding (wpAny_bind (wpAny_cRoomFor (Nat.lt_of_succ_lt hu) ?_))
  rw [cmpInfo_NotEq]
  dsimp only
  refine wpAny_bind (I.type.here (wpAny_bind (hb.here ?_)))
  split
  · rename_i q
    have e : PySem.W.subIn K tb (.ref C) = some false := by
      rcases Bool.or_eq_true_iff.mp hn with e | e
      · rw [beq_iff_eq.mp e] at q; simp at q
      · exact beq_iff_eq.mp e
    refine wpAny_bind ((PySem.W.looks_subIn X e).here ?_)
    simp only [Bool.false_eq_true, if_false]
    refine wpAny_bind (wpAny_mono one (fun r s' z => ?_) fun _ _ e => e)
    obtain ⟨v, rfl, hq⟩ := z
    exact wpAny_pure hq
  · refine wpAny_bind (wpAny_pure ?_)
    simp only [Bool.false_eq_true, if_false]
    refine wpAny_bind (wpAny_mono one (fun r s' z => ?_) fun _ _ e => e)
    obtain ⟨v, rfl, hq⟩ := z
    exact wpAny_pure hq
/-- the kinds of things on the right -/
inductive Oth (H : Hp) : V → Value → Prop where
  | non : Oth H .non (.type "NoneType")
  | int (i : Int) : Oth H (.int i) (.type "int")
  | str (z : Str) : Oth H (.str z) (.type "str")
  | lst {a : Addr} {xs : List V} (e : H a = some (.lst xs)) : Oth H (.ref a) (.type "list")
  | tup {a : Addr} {xs : List V} (e : H a = some (.tup xs)) : Oth H (.ref a) (.type "tuple")
  | ins {a C dx : Addr} {fs : List (Str × V)} (e : H a = some (.ins C dx fs)) : Oth H (.ref a) (.ref C)
theorem insX_at {X : Cx} {pins : List (Addr × Obj)} {σ : L2.St} {H : Hp} {s : Shared} {a C dx : Addr} {fs : List (Str × V)} (I : Inv X pins σ H s) (h : H a = some (.ins C dx fs)) : ∃ ox od, PySem.W.InstAt s.heap a ox C od := by
  obtain ⟨mA, O, _⟩ := ins_get I.hok h
  obtain ⟨od, J, _⟩ := O.look
  exact ⟨_, _, J⟩
theorem oth_looks {X : Cx} {pins : List (Addr × Obj)} {σ : L2.St} {H : Hp} {s : Shared} {x : V} {u t : Value} (I : Inv X pins σ H s) (rx : RelV x u) (o : Oth H x t) (M : Model) : PySem.W.Looks M s.heap (typeOf u) t := by
  cases o with
  | non => cases (show u = Value.none from rx); exact .of_pure rfl
  | int i => obtain ⟨t, q⟩ := (show ∃ t, u = Value.int i t from rx); cases q; exact .of_pure rfl
  | str y => obtain ⟨t, q⟩ := (show ∃ t, u = Value.str y t from rx); cases q; exact .of_pure rfl
  | @lst a xs ea =>
    cases (show u = Value.ref a from rx)
    obtain ⟨_, _, n, _, h1⟩ := (show ObjOk X.prog X.w H s.heap a (.lst xs) from I.hok a _ ea)
    exact (PySem.W.Looks.ld h1).andThen .now
  | @tup a xs ea =>
    cases (show u = Value.ref a from rx)
    obtain ⟨_, _, _, o, h1, h2, _⟩ := (show ObjOk X.prog X.w H s.heap a (.tup xs) from I.hok a _ ea)
    rw [← h2]
    exact (PySem.W.Looks.ld h1).andThen .now
  | @ins a C dx fs ea =>
    cases (show u = Value.ref a from rx)
    obtain ⟨ox, od, J⟩ := insX_at I ea
    exact J.type
section
variable {X : Cx} {C g : Addr} {fd : FuncData} {ps : List Str} {n : Nat} {sp : Sp} {E : XK}
def rEqB (K : PySem.W.Frag) (C : Addr) (sp : Sp) (E : XK) (pos : Bool) : R2 := fun x y H Q => ∃ a dx fs t, x = .ref a ∧ H a = some (.ins C dx fs) ∧ Oth H y t ∧ PySem.W.notFirst K C t = true ∧ sp [x, y] H (fun v H' => ∃ k : Bool, v = .bl k ∧ Q (.bl (cond pos k (!k))) H') E
theorem op_eqB (e : EqO X.K C g) (hb : Binds X.K fd ps []) (F : FnOk X.prog X.w X.K X.mg X.base CX0 n g fd ps sp) (hr : Room n X.A) (hx : Passes CX0 X E) : OpR X (compareOp .Eq) (rEqB X.K C sp E true) := by
  intro pins s σ H x y v u Q I rx ry h
  obtain ⟨a, dx, fs, t, rfl, ha, ho, hn, q⟩ := h
  cases (show v = Value.ref a from rx)
  obtain ⟨ox, od, J⟩ := insX_at I ha
  obtain ⟨m, hF⟩ := I.fr
  refine PySem.W.cmp_K (op := .Eq) hr.units0 hF I.ok.mod.kin J (oth_looks I ry ho _) hn e.eq e.fn ?_
  refine wpAny_mono (run_fn (us := [.ref a, u]) (vs := [.ref a, y]) F hr hb .nil hx I (.cons rfl (.cons ry .nil)) q) (fun w s' z => ?_) fun _ _ x => x
  obtain ⟨z', H', I', rz, k, rfl, qz⟩ := z
  exact SlX.cmpback rz ⟨.bl k, H', I', rz, qz⟩
theorem op_neB (e : EqO X.K C g) (hb : Binds X.K fd ps []) (F : FnOk X.prog X.w X.K X.mg X.base CX0 n g fd ps sp) (hr : Room (n + 1) X.A) : OpR X (compareOp .NotEq) (rEqB X.K C sp E false) := by
  intro pins s σ H x y v u Q I rx ry h
  obtain ⟨a, dx, fs, t, rfl, ha, ho, hn, q⟩ := h
  cases (show v = Value.ref a from rx)
  obtain ⟨ox, od, J⟩ := insX_at I ha
  obtain ⟨m, hF⟩ := I.fr
  refine ne_K (by have := hr.units; omega) hF I.ok.mod.kin J (oth_looks I ry ho _) hn e ?_
  have hl : ([Value.ref a, u] ++ []).length = ps.length := by
    have := F.len _ _ _ _ q
    exact this
  refine wpAny_call (codeAny_mono (F.run X.A.in1 X.stack s H ⟨[.ref a, u], []⟩ ([.ref a, u] ++ []) [.ref a, y] _ E hr.in1 I.env0.in1 (hb s [.ref a, u] I.kIn hl) (.cons rfl (.cons ry .nil)) q) fun r s' hq => ?_)
  cases r with
  | error e => exact False.elim hq
  | ok fl =>
    cases fl with
    | ret u =>
      obtain ⟨v, H', I2, rv, k, rfl, q⟩ := I.after hq
      obtain rfl : u = Value.bool k := rv
      exact ⟨k, rfl, .bl (!k), H', I2, rfl, q⟩
    | next => exact False.elim hq
    | brk => exact False.elim hq
    | cont => exact False.elim hq
end
end G
set_option Elab.async false
set_option linter.all false
set_option maxRecDepth 100000
set_option maxHeartbeats 2000000
/-! Q2: str(x) by an own __str__; keys that differ stay so. -/
namespace G
open PySem PySem.Spec PyProof.Rows L2
section
variable {X : Cx} {C g : Addr} {fd : FuncData} {ps : List Str} {n : Nat} {sp : Sp} {E : XK}
def rStrB (C : Addr) (sp : Sp) (E : XK) : List V → Hp → VK → Prop := fun xs H Q => ∃ a dx fs, xs = [V.ref a] ∧ H a = some (.ins C dx fs) ∧ sp [.ref a] H (fun z H' => ∃ y, z = .str y ∧ Q z H') E
theorem call_strB (hs : PySem.W.findIn X.K (.ref C) "__str__" = some (some (.ref g))) (hf : PySem.W.isFn X.K (.ref g) = true) (hb : Binds X.K fd ps []) (F : FnOk X.prog X.w X.K X.mg X.base CX0 n g fd ps sp) (hr : Room (n + 2) X.A) : CallR X (.type "str") (rStrB C sp E) := by
  intro pins s σ H xs us Q I r h
  obtain ⟨a, dx, fs, rfl, ha, q⟩ := h
  obtain ⟨u, rfl, ru⟩ := r.one
  cases (show u = Value.ref a from ru)
  obtain ⟨ox, od, J⟩ := insX_at I ha
  have hr2 : Room n X.A.in1.in1 := (show Room (n + 1) X.A.in1 from Room.in1 hr).in1
  refine PySem.W.kso_call (by have := hr2.units; omega) I.kIn J hs hf ?_
  have hl : ([Value.ref a] ++ []).length = ps.length := by
    have := F.len _ _ _ _ q
    exact this
  refine wpAny_call (codeAny_mono (F.run X.A.in1.in1 X.stack s H ⟨[Value.ref a], []⟩ ([Value.ref a] ++ []) [V.ref a] _ E hr2 I.env0.in1.in1 (hb s [Value.ref a] I.kIn hl) (show Vals [V.ref a] [Value.ref a] from .cons rfl .nil) q) fun r s' hq => ?_)
  cases r with
  | error e => exact False.elim hq
  | ok fl =>
    cases fl with
    | ret u =>
      obtain ⟨v, H', I2, rv, y, rfl, q⟩ := I.after hq
      obtain ⟨t, rfl⟩ := (show ∃ t, u = Value.str y t from rv)
      exact ⟨.str y, H', I2, ⟨t, rfl⟩, q⟩
    | next => exact False.elim hq
    | brk => exact False.elim hq
    | cont => exact False.elim hq
end
theorem nodup_put {kvs : List (Key × V)} (h : (kvs.map (·.1)).Nodup) (k : Key) (v : V) : ((putK kvs k v).map (·.1)).Nodup := by
  unfold putK
  split
  · rw [List.map_map]
    have e : (kvs.map ((fun p : Key × V => p.1) ∘ fun kv => if kv.1 = k then (kv.1, v) else kv)) = kvs.map (·.1) := List.map_congr_left fun p _ => by
      show (if p.1 = k then (p.1, v) else p).1 = p.1
      split <;> rfl
    rw [e]
    exact h
  · rename_i hn
    rw [List.map_append, List.nodup_append]
    refine ⟨h, by simp, fun x hx y hy => ?_⟩
    rw [List.map_cons, List.map_nil, List.mem_singleton] at hy
    rintro rfl
    obtain ⟨p, hp, e⟩ := List.mem_map.mp hx
    apply hn
    exact List.any_eq_true.mpr ⟨p, hp, decide_eq_true (e.trans hy)⟩
theorem valV_nodup : ∀ {kvs : List (Key × V)}, (kvs.map (·.1)).Nodup → ∀ p ∈ kvs, valV kvs p.1 = some p.2
  | p :: kvs, h, q, hq => by
    rw [List.map_cons, List.nodup_cons] at h
    show Option.map (fun r : Key × V => r.2) (List.find? (fun kv => decide (kv.1 = q.1)) (p :: kvs)) = some q.2
    rcases List.mem_cons.mp hq with rfl | hq'
    · rw [List.find?_cons_of_pos (by simp)]
      rfl
    · have ne : ¬ p.1 = q.1 := fun e => h.1 (by rw [e]; exact List.mem_map.mpr ⟨q, hq', rfl⟩)
      rw [List.find?_cons_of_neg (by simpa using ne)]
      exact valV_nodup h.2 q hq'
end G
set_option Elab.async false
set_option linter.all false
set_option maxRecDepth 100000
set_option maxHeartbeats 2000000
/-! D0: data, cells, and how they lie in the heap. -/
namespace Dl
open PySem PySem.Spec PyProof.Rows L2

/-- data that never changes -/
inductive Dt where
  | non | bl (b : Bool) | int (i : Int) | str (z : Str)
  | lst (xs : List Dt) | tup (xs : List Dt) | dic (ks : List Key) (xs : List Dt) | obj (C : Addr) (ns : List Str) (xs : List Dt)
mutual
inductive RD (J : Hp) : V → Dt → Prop
  | non : RD J .non .non
  | bl (b : Bool) : RD J (.bl b) (.bl b)
  | int (i : Int) : RD J (.int i) (.int i)
  | str (z : Str) : RD J (.str z) (.str z)
  | lst {a : Addr} {vs : List V} {ds : List Dt} : J a = some (.lst vs) → RDs J vs ds → RD J (.ref a) (.lst ds)
  | tup {a : Addr} {vs : List V} {ds : List Dt} : J a = some (.tup vs) → RDs J vs ds → RD J (.ref a) (.tup ds)
  | dic {a : Addr} {kvs : List (Key × V)} {ks : List Key} {ds : List Dt} : J a = some (.dK kvs) → kvs.map (·.1) = ks → RDs J (kvs.map (·.2)) ds → RD J (.ref a) (.dic ks ds)
  | obj {a C dx : Addr} {fs : List (Str × V)} {ns : List Str} {ds : List Dt} : J a = some (.ins C dx fs) → fs.map (·.1) = ns → RDs J (fs.map (·.2)) ds → RD J (.ref a) (.obj C ns ds)
inductive RDs (J : Hp) : List V → List Dt → Prop
  | nil : RDs J [] []
  | cons {v : V} {vs : List V} {d : Dt} {ds : List Dt} : RD J v d → RDs J vs ds → RDs J (v :: vs) (d :: ds)
end
section
variable {J J' : Hp}
mutual
theorem RD.mono (s : Same J J') : ∀ (d : Dt) {v : V}, RD J v d → RD J' v d
  | .non, _, h => by
    cases h
    exact .non
  | .bl b, _, h => by
    cases h
    exact .bl b
  | .int i, _, h => by
    cases h
    exact .int i
  | .str z, _, h => by
    cases h
    exact .str z
  | .lst ds, _, h => by
    cases h with
    | lst e r => exact .lst (s _ _ e) (RDs.mono s ds r)
  | .tup ds, _, h => by
    cases h with
    | tup e r => exact .tup (s _ _ e) (RDs.mono s ds r)
  | .dic ks ds, _, h => by
    cases h with
    | dic e k r => exact .dic (s _ _ e) k (RDs.mono s ds r)
  | .obj C ns ds, _, h => by
    cases h with
    | obj e k r => exact .obj (s _ _ e) k (RDs.mono s ds r)
theorem RDs.mono (s : Same J J') : ∀ (ds : List Dt) {vs : List V}, RDs J vs ds → RDs J' vs ds
  | [], _, h => by
    cases h
    exact .nil
  | d :: ds, _, h => by
    cases h with
    | cons a b => exact .cons (RD.mono s d a) (RDs.mono s ds b)
end
theorem RDs.len : ∀ {ds : List Dt} {vs : List V}, RDs J vs ds → vs.length = ds.length
  | [], _, h => by
    cases h
    rfl
  | d :: ds, _, h => by
    cases h with
    | cons a b => rw [List.length_cons, List.length_cons, RDs.len b]
theorem RDs.get : ∀ {ds : List Dt} {vs : List V} {i : Nat} {d : Dt}, RDs J vs ds → ds[i]? = some d → ∃ v, vs[i]? = some v ∧ RD J v d
  | [], _, i, d, h, e => by simp at e
  | x :: ds, _, i, d, h, e => by
    cases h with
    | @cons v vs _ _ a b =>
      cases i with
      | zero =>
        have e' := Option.some.inj e
        subst e'
        exact ⟨v, rfl, a⟩
      | succ j => exact RDs.get (ds := ds) (i := j) b (by simpa using e)
theorem RDs.at : ∀ {ds : List Dt} {vs : List V} {i : Nat} {v : V}, RDs J vs ds → vs[i]? = some v → ∃ d, ds[i]? = some d ∧ RD J v d
  | [], _, i, v, h, e => by
    cases h
    simp at e
  | x :: ds, _, i, v, h, e => by
    cases h with
    | cons a b =>
      cases i with
      | zero =>
        have e' := Option.some.inj e
        subst e'
        exact ⟨x, rfl, a⟩
      | succ j => exact RDs.at (ds := ds) (i := j) b (by simpa using e)
theorem RDs.app : ∀ {ds es : List Dt} {vs us : List V}, RDs J vs ds → RDs J us es → RDs J (vs ++ us) (ds ++ es)
  | [], _, _, _, h, r => by
    cases h
    exact r
  | _ :: ds, _, _, _, h, r => by
    cases h with
    | cons a b => exact .cons a (RDs.app b r)
theorem RDs.take : ∀ {ds : List Dt} {vs : List V} (n : Nat), RDs J vs ds → RDs J (vs.take n) (ds.take n)
  | _, _, 0, _ => by
    rw [List.take_zero, List.take_zero]
    exact .nil
  | [], _, n + 1, h => by
    cases h
    exact .nil
  | d :: ds, _, n + 1, h => by
    cases h with
    | cons a b => exact .cons a (RDs.take n b)
theorem RDs.drop : ∀ {ds : List Dt} {vs : List V} (n : Nat), RDs J vs ds → RDs J (vs.drop n) (ds.drop n)
  | _, _, 0, h => h
  | [], _, n + 1, h => by
    cases h
    exact .nil
  | d :: ds, _, n + 1, h => by
    cases h with
    | cons a b => exact RDs.drop n b
theorem RDs.rev {ds : List Dt} {vs : List V} (h : RDs J vs ds) : RDs J vs.reverse ds.reverse := by
  induction ds generalizing vs with
  | nil =>
    cases h
    exact .nil
  | cons d ds ih =>
    cases h with
    | cons a b =>
      rw [List.reverse_cons, List.reverse_cons]
      exact (ih b).app (.cons a .nil)
theorem RDs.set : ∀ {ds : List Dt} {vs : List V} {v : V} {d : Dt} (i : Nat), RDs J vs ds → RD J v d → RDs J (vs.set i v) (ds.set i d)
  | [], _, _, _, _, h, r => by
    cases h
    exact .nil
  | _ :: ds, _, _, _, i, h, r => by
    cases h with
    | cons a b =>
      cases i with
      | zero => exact .cons r b
      | succ j => exact .cons a (RDs.set j b r)
theorem RDs.erase : ∀ {ds : List Dt} {vs : List V} (i : Nat), RDs J vs ds → RDs J (vs.eraseIdx i) (ds.eraseIdx i)
  | [], _, _, h => by
    cases h
    exact .nil
  | _ :: ds, _, i, h => by
    cases h with
    | cons a b =>
      cases i with
      | zero => exact b
      | succ j => exact .cons a (RDs.erase j b)
theorem RDs.ints : ∀ (is : List Int), RDs J (is.map V.int) (is.map Dt.int)
  | [] => .nil
  | i :: is => .cons (.int i) (RDs.ints is)
theorem RDs.ints_inv : ∀ {is : List Int} {vs : List V}, RDs J vs (is.map Dt.int) → vs = is.map V.int
  | [], _, h => by
    cases h
    rfl
  | i :: is, _, h => by
    cases h with
    | cons a b =>
      cases a
      rw [List.map_cons, RDs.ints_inv b]
theorem RDs.strs_inv : ∀ {is : List Str} {vs : List V}, RDs J vs (is.map Dt.str) → vs = is.map V.str
  | [], _, h => by
    cases h
    rfl
  | i :: is, _, h => by
    cases h with
    | cons a b =>
      cases a
      rw [List.map_cons, RDs.strs_inv b]
theorem RDs.bls_inv : ∀ {is : List Bool} {vs : List V}, RDs J vs (is.map Dt.bl) → vs = is.map V.bl
  | [], _, h => by
    cases h
    rfl
  | i :: is, _, h => by
    cases h with
    | cons a b =>
      cases a
      rw [List.map_cons, RDs.bls_inv b]
end

/-! ### what a program's names hold: data, or a thing that may still change -/
inductive D where
  | dat (d : Dt) | ptr (l : Nat) | raw (v : V)
inductive Cell where
  /-- a list, a dict of data -/
  | lst (ds : List Dt) | dic (ks : List Key) (ds : List Dt)
  /-- an instance that is being made -/
  | ins (C : Addr) (ns : List Str) (ds : List Dt)
  /-- a box from which at most n draws were made -/
  | box (n : Nat)
  /-- data by now -/
  | fz (d : Dt)
def Cell.own : Cell → Bool
  | .fz _ => false
  | _ => true
/-- a box from which at most n draws were made -/
def BoxAt (H : Hp) (b : Addr) (n : Nat) : Prop := ∃ x y z : Int, H b = some (.lst [.int x, .int y, .int z]) ∧ 0 ≤ x ∧ 0 ≤ y ∧ y < 2147483629 ∧ 0 ≤ z ∧ z ≤ n
/-- a world: the heap of the data, where the cells stand, how many there were -/
structure Wd where
  J : Hp
  loc : Nat → Addr
  n : Nat
abbrev Om := List (Option Cell)
def CellAt (J H : Hp) (a : Addr) : Cell → Prop
  | .lst ds => ∃ vs, H a = some (.lst vs) ∧ RDs J vs ds
  | .dic ks ds => ∃ kvs, H a = some (.dK kvs) ∧ kvs.map (·.1) = ks ∧ RDs J (kvs.map (·.2)) ds
  | .ins C ns ds => ∃ dx fs, H a = some (.ins C dx fs) ∧ fs.map (·.1) = ns ∧ RDs J (fs.map (·.2)) ds
  | .box n => BoxAt H a n
  | .fz d => RD J (.ref a) d
def RV (W : Wd) (v : V) : D → Prop
  | .dat d => RD W.J v d
  | .ptr l => l < W.n ∧ v = .ref (W.loc l)
  | .raw u => v = u
structure Rep (W : Wd) (F : Hp) (ω : Om) (H : Hp) : Prop where
  n : W.n = ω.length
  sj : Same W.J H
  sf : Same F H
  dj : ∀ a o, F a = some o → W.J a = none
  cell : ∀ (l : Nat) c, ω[l]? = some (some c) → CellAt W.J H (W.loc l) c
  own : ∀ (l : Nat) c, ω[l]? = some (some c) → c.own = true → W.J (W.loc l) = none ∧ F (W.loc l) = none
  inj : ∀ (l l' : Nat) c c', ω[l]? = some (some c) → ω[l']? = some (some c') → c.own = true → c'.own = true → W.loc l = W.loc l' → l = l'
structure Ext (W W' : Wd) : Prop where
  j : Same W.J W'.J
  n : W.n ≤ W'.n
  loc : ∀ l, l < W.n → W'.loc l = W.loc l
theorem Ext.refl (W : Wd) : Ext W W := ⟨Same.refl _, Nat.le_refl _, fun _ _ => rfl⟩
theorem Ext.trans {W W1 W2 : Wd} (a : Ext W W1) (b : Ext W1 W2) : Ext W W2 :=
  ⟨a.j.trans b.j, Nat.le_trans a.n b.n, fun l h => (b.loc l (Nat.lt_of_lt_of_le h a.n)).trans (a.loc l h)⟩
theorem RV.ext {W W' : Wd} (e : Ext W W') {v : V} : ∀ {d : D}, RV W v d → RV W' v d
  | .dat d, h => RD.mono e.j d h
  | .ptr l, h => ⟨Nat.lt_of_lt_of_le h.1 e.n, by rw [e.loc l h.1]; exact h.2⟩
  | .raw _, h => h
abbrev RVs (W : Wd) : List V → List D → Prop := Paired (RV W)
theorem RVs.ext {W W' : Wd} (e : Ext W W') : ∀ {vs : List V} {ds : List D}, RVs W vs ds → RVs W' vs ds
  | _, _, .nil => .nil
  | _, _, .cons r t => .cons (r.ext e) (RVs.ext e t)
theorem CellAt.mono {J J' H : Hp} {a : Addr} (s : Same J J') : ∀ {c : Cell}, CellAt J H a c → CellAt J' H a c
  | .lst ds, ⟨vs, h, r⟩ => ⟨vs, h, RDs.mono s ds r⟩
  | .dic ks ds, ⟨kvs, h, k, r⟩ => ⟨kvs, h, k, RDs.mono s ds r⟩
  | .ins C ns ds, ⟨dx, fs, h, k, r⟩ => ⟨dx, fs, h, k, RDs.mono s ds r⟩
  | .box n, h => h
  | .fz d, h => RD.mono s d h
/-- .. where what stands at a does so -/
theorem CellAt.heap {J H H' : Hp} {a : Addr} (s : ∀ o, H a = some o → H' a = some o) : ∀ {c : Cell}, CellAt J H a c → CellAt J H' a c
  | .lst ds, ⟨vs, h, r⟩ => ⟨vs, s _ h, r⟩
  | .dic ks ds, ⟨kvs, h, k, r⟩ => ⟨kvs, s _ h, k, r⟩
  | .ins C ns ds, ⟨dx, fs, h, k, r⟩ => ⟨dx, fs, s _ h, k, r⟩
  | .box n, ⟨x, y, z, h, r⟩ => ⟨x, y, z, s _ h, r⟩
  | .fz d, h => h
theorem CellAt.there {J H : Hp} {a : Addr} : ∀ {c : Cell}, c.own = true → CellAt J H a c → ∃ o, H a = some o
  | .lst ds, _, ⟨vs, h, r⟩ => ⟨_, h⟩
  | .dic ks ds, _, ⟨kvs, h, k, r⟩ => ⟨_, h⟩
  | .ins C ns ds, _, ⟨dx, fs, h, k, r⟩ => ⟨_, h⟩
  | .box n, _, ⟨x, y, z, h, r⟩ => ⟨_, h⟩
theorem RD.there {J : Hp} {a : Addr} {d : Dt} (h : RD J (.ref a) d) : ∃ o, J a = some o := by
  cases h with
  | lst e r => exact ⟨_, e⟩
  | tup e r => exact ⟨_, e⟩
  | dic e k r => exact ⟨_, e⟩
  | obj e k r => exact ⟨_, e⟩

section
variable {W : Wd} {F : Hp} {ω : Om} {H : Hp}
/-- something new that never changes -/
theorem Rep.laid {p : Addr} {o : HO} (R : Rep W F ω H) (hp : H p = none) : Ext W ⟨upd W.J p o, W.loc, W.n⟩ ∧ Rep ⟨upd W.J p o, W.loc, W.n⟩ F ω (upd H p o) := by
  have jp : W.J p = none := R.sj.free hp
  have s1 : Same W.J (upd W.J p o) := fun c u e => by
    rw [upd_ne (ne_of_none e jp)]
    exact e
  have nl : ∀ (l : Nat) c, ω[l]? = some (some c) → c.own = true → W.loc l ≠ p := fun l c e ho z => by
    obtain ⟨u, hu⟩ := (R.cell l c e).there ho
    rw [z, hp] at hu
    cases hu
  refine ⟨⟨s1, Nat.le_refl _, fun _ _ => rfl⟩, R.n, fun c u e => ?_, fun c u e => ?_, fun a u e => ?_, fun l c e => ?_, fun l c e ho => ?_, R.inj⟩
  · have e' : upd W.J p o c = some u := e
    by_cases h : c = p
    · subst h
      rw [upd_same] at e' ⊢
      exact e'
    · rw [upd_ne h] at e' ⊢
      exact R.sj _ _ e'
  · rw [upd_ne (ne_of_none (R.sf _ _ e) hp)]
    exact R.sf _ _ e
  · show upd W.J p o a = none
    rw [upd_ne (ne_of_none (R.sf _ _ e) hp)]
    exact R.dj _ _ e
  · exact ((R.cell l c e).mono s1).heap fun u q => by rw [upd_ne (ne_of_none q hp)]; exact q
  · obtain ⟨h1, h2⟩ := R.own l c e ho
    refine ⟨?_, h2⟩
    show upd W.J p o (W.loc l) = none
    rw [upd_ne (nl l c e ho)]
    exact h1
/-- a new cell -/
theorem Rep.cell1 {p : Addr} {o : HO} {c : Cell} (R : Rep W F ω H) (hp : H p = none) (ho : c.own = true) (hc : CellAt W.J (upd H p o) p c) :
    Ext W ⟨W.J, fun l => if l = ω.length then p else W.loc l, W.n + 1⟩ ∧ Rep ⟨W.J, fun l => if l = ω.length then p else W.loc l, W.n + 1⟩ F (ω ++ [some c]) (upd H p o) := by
  have jp : W.J p = none := R.sj.free hp
  have fp : F p = none := R.sf.free hp
  have nl : ∀ (l : Nat) c, ω[l]? = some (some c) → c.own = true → W.loc l ≠ p := fun l c e ho z => by
    obtain ⟨u, hu⟩ := (R.cell l c e).there ho
    rw [z, hp] at hu
    cases hu
  have cas : ∀ {l : Nat} {c' : Cell}, (ω ++ [some c])[l]? = some (some c') → (l < ω.length ∧ ω[l]? = some (some c')) ∨ (l = ω.length ∧ c' = c) := fun {l c'} e => by
    by_cases h : l < ω.length
    · rw [List.getElem?_append_left h] at e
      exact .inl ⟨h, e⟩
    · rw [List.getElem?_append_right (by omega)] at e
      have hl := (List.getElem?_eq_some_iff.mp e).1
      have h1 : ([some c] : Om).length = 1 := rfl
      have h0 : l = ω.length := by omega
      subst h0
      rw [Nat.sub_self] at e
      exact .inr ⟨rfl, (Option.some.inj (Option.some.inj e)).symm⟩
  refine ⟨⟨Same.refl _, Nat.le_succ _, fun l hl => if_neg (by have := R.n; omega)⟩, ?_, fun c u e => ?_, fun c u e => ?_, R.dj, fun l c' e => ?_, fun l c' e hw => ?_, fun l l' c1 c2 e1 e2 h1 h2 z => ?_⟩
  · rw [List.length_append]
    show W.n + 1 = ω.length + 1
    rw [R.n]
  · have q := R.sj _ _ e
    rw [upd_ne (ne_of_none q hp)]
    exact q
  · have q := R.sf _ _ e
    rw [upd_ne (ne_of_none q hp)]
    exact q
  · rcases cas e with ⟨hl, e'⟩ | ⟨rfl, rfl⟩
    · show CellAt W.J (upd H p o) (if l = ω.length then p else W.loc l) c'
      rw [if_neg (by omega)]
      exact (R.cell l c' e').heap fun u q => by rw [upd_ne (ne_of_none q hp)]; exact q
    · show CellAt W.J (upd H p o) (if ω.length = ω.length then p else W.loc ω.length) c'
      rw [if_pos rfl]
      exact hc
  · show W.J (if l = ω.length then p else W.loc l) = none ∧ F (if l = ω.length then p else W.loc l) = none
    rcases cas e with ⟨hl, e'⟩ | ⟨rfl, rfl⟩
    · rw [if_neg (by omega)]
      exact R.own l c' e' hw
    · rw [if_pos rfl]
      exact ⟨jp, fp⟩
  · have z' : (if l = ω.length then p else W.loc l) = (if l' = ω.length then p else W.loc l') := z
    rcases cas e1 with ⟨hl, e1'⟩ | ⟨rfl, rfl⟩ <;> rcases cas e2 with ⟨hl', e2'⟩ | ⟨rfl, rfl⟩
    · rw [if_neg (by omega), if_neg (by omega)] at z'
      exact R.inj l l' c1 c2 e1' e2' h1 h2 z'
    · rw [if_neg (by omega), if_pos rfl] at z'
      exact (nl l c1 e1' h1 z').elim
    · rw [if_neg (show ¬ l' = ω.length by omega), if_pos rfl] at z'
      exact (nl l' c2 e2' h2 z'.symm).elim
    · rfl
/-- a cell is written -/
theorem Rep.write {l : Nat} {c c' : Cell} {o : HO} (R : Rep W F ω H) (e : ω[l]? = some (some c)) (ho : c.own = true) (ho' : c'.own = true) (hc : CellAt W.J (upd H (W.loc l) o) (W.loc l) c') : Rep W F (ω.set l (some c')) (upd H (W.loc l) o) := by
  obtain ⟨hj, hf⟩ := R.own l c e ho
  have hl : l < ω.length := (List.getElem?_eq_some_iff.mp e).1
  have cas : ∀ {k : Nat} {c2 : Cell}, (ω.set l (some c'))[k]? = some (some c2) → (k ≠ l ∧ ω[k]? = some (some c2)) ∨ (k = l ∧ c2 = c') := fun {k c2} e2 => by
    by_cases h : k = l
    · subst h
      rw [List.getElem?_set_self hl] at e2
      exact .inr ⟨rfl, (Option.some.inj (Option.some.inj e2)).symm⟩
    · rw [List.getElem?_set_ne (Ne.symm h)] at e2
      exact .inl ⟨h, e2⟩
  refine ⟨by rw [List.length_set]; exact R.n, fun a u q => ?_, fun a u q => ?_, R.dj, fun k c2 e2 => ?_, fun k c2 e2 hw => ?_, fun k k' c1 c2 e1 e2 h1 h2 z => ?_⟩
  · rw [upd_ne (ne_of_none q hj)]
    exact R.sj _ _ q
  · rw [upd_ne (ne_of_none q hf)]
    exact R.sf _ _ q
  · rcases cas e2 with ⟨hk, e2'⟩ | ⟨rfl, rfl⟩
    · cases how : c2.own with
      | true =>
        refine (R.cell k c2 e2').heap fun u q => ?_
        rw [upd_ne fun z => hk (R.inj k l c2 c e2' e how ho z)]
        exact q
      | false =>
        cases c2 with
        | fz d => exact R.cell k _ e2'
        | lst _ => cases how
        | dic _ _ => cases how
        | ins _ _ _ => cases how
        | box _ => cases how
    · exact hc
  · rcases cas e2 with ⟨hk, e2'⟩ | ⟨rfl, rfl⟩
    · exact R.own k c2 e2' hw
    · exact ⟨hj, hf⟩
  · rcases cas e1 with ⟨hk, e1'⟩ | ⟨rfl, rfl⟩ <;> rcases cas e2 with ⟨hk', e2'⟩ | ⟨rfl, rfl⟩
    · exact R.inj k k' c1 c2 e1' e2' h1 h2 z
    · exact R.inj k k' c1 c e1' e h1 ho z
    · exact R.inj k k' c c2 e e2' ho h2 z
    · rfl
/-- what a cell holds, as data -/
def Cell.data : Cell → Option Dt
  | .lst ds => some (.lst ds)
  | .dic ks ds => some (.dic ks ds)
  | .ins C ns ds => some (.obj C ns ds)
  | .fz d => some d
  | .box _ => none
def view (ω : Om) : D → Option Dt
  | .dat d => some d
  | .ptr l => match ω[l]? with
    | some (some c) => c.data
    | _ => none
  | .raw _ => none
/-- a cell becomes data -/
def freeze (ω : Om) : D → Option (Dt × Om)
  | .dat d => some (d, ω)
  | .ptr l => match ω[l]? with
    | some (some c) => match c.data with
      | some d => some (d, ω.set l (some (.fz d)))
      | none => none
    | _ => none
  | .raw _ => none
theorem Rep.freeze (R : Rep W F ω H) {x : D} {v : V} {d : Dt} {ω' : Om} (r : RV W v x) (e : Dl.freeze ω x = some (d, ω')) : ∃ W', Ext W W' ∧ Rep W' F ω' H ∧ RD W'.J v d := by
  cases x with
  | raw _ => cases e
  | dat d0 =>
    obtain ⟨rfl, rfl⟩ := Prod.mk.inj (Option.some.inj e)
    exact ⟨W, Ext.refl W, R, r⟩
  | ptr l =>
    obtain ⟨hl, rfl⟩ := r
    have e0 : (match ω[l]? with
      | some (some c) => (match c.data with
        | some d => some (d, ω.set l (some (.fz d)))
        | none => none)
      | _ => none) = some (d, ω') := e
    obtain ⟨c, hc, d0, hd, rfl, rfl⟩ : ∃ c, ω[l]? = some (some c) ∧ ∃ d0, c.data = some d0 ∧ d0 = d ∧ ω.set l (some (.fz d0)) = ω' := by
      cases hc : ω[l]? with
      | none =>
        rw [hc] at e0
        cases e0
      | some oc =>
        cases oc with
        | none =>
          rw [hc] at e0
          cases e0
        | some c =>
          rw [hc] at e0
          have e1 : (match c.data with
            | some d => some (d, ω.set l (some (.fz d)))
            | none => none) = some (d, ω') := e0
          cases hd : c.data with
          | none =>
            rw [hd] at e1
            cases e1
          | some d0 =>
            rw [hd] at e1
            obtain ⟨h1, h2⟩ := Prod.mk.inj (Option.some.inj e1)
            exact ⟨c, rfl, d0, hd, h1, h2⟩
    have C := R.cell l c hc
    have hlen : l < ω.length := (List.getElem?_eq_some_iff.mp hc).1
    have cas : ∀ {k : Nat} {c2 : Cell}, (ω.set l (some (.fz d0)))[k]? = some (some c2) → (k ≠ l ∧ ω[k]? = some (some c2)) ∨ (k = l ∧ c2 = .fz d0) := fun {k c2} e2 => by
      by_cases h : k = l
      · subst h
        rw [List.getElem?_set_self hlen] at e2
        exact .inr ⟨rfl, (Option.some.inj (Option.some.inj e2)).symm⟩
      · rw [List.getElem?_set_ne (Ne.symm h)] at e2
        exact .inl ⟨h, e2⟩
    cases how : c.own with
    | false =>
      cases c with
      | fz d1 =>
        obtain rfl : d1 = d0 := Option.some.inj hd
        refine ⟨W, Ext.refl W, ?_, C⟩
        have e0 : ω.set l (some (.fz d1)) = ω := by
          apply List.ext_getElem?
          intro k
          by_cases h : k = l
          · rw [h, List.getElem?_set_self hlen, hc]
          · rw [List.getElem?_set_ne (Ne.symm h)]
        rw [e0]
        exact R
      | lst _ => cases how
      | dic _ _ => cases how
      | ins _ _ _ => cases how
      | box _ => cases how
    | true =>
      obtain ⟨hj, hf⟩ := R.own l c hc how
      obtain ⟨o, ho, hrd⟩ : ∃ o, H (W.loc l) = some o ∧ RD (upd W.J (W.loc l) o) (.ref (W.loc l)) d0 := by
        have sm : ∀ {o : HO}, Same W.J (upd W.J (W.loc l) o) := fun {o} a u q => by
          rw [upd_ne (ne_of_none q hj)]
          exact q
        cases c with
        | lst ds =>
          obtain ⟨vs, h1, h2⟩ := C
          cases hd
          exact ⟨_, h1, .lst upd_same (RDs.mono sm ds h2)⟩
        | dic ks ds =>
          obtain ⟨kvs, h1, h2, h3⟩ := C
          cases hd
          exact ⟨_, h1, .dic upd_same h2 (RDs.mono sm ds h3)⟩
        | ins C0 ns ds =>
          obtain ⟨dx, fs, h1, h2, h3⟩ := C
          cases hd
          exact ⟨_, h1, .obj upd_same h2 (RDs.mono sm ds h3)⟩
        | box n => cases hd
        | fz d => cases how
      have sm : Same W.J (upd W.J (W.loc l) o) := fun a u q => by
        rw [upd_ne (ne_of_none q hj)]
        exact q
      refine ⟨⟨upd W.J (W.loc l) o, W.loc, W.n⟩, ⟨sm, Nat.le_refl _, fun _ _ => rfl⟩, ⟨by rw [List.length_set]; exact R.n, fun a u q => ?_, R.sf, fun a u q => ?_, fun k c2 e2 => ?_, fun k c2 e2 hw => ?_, fun k k' c1 c2 e1 e2 h1 h2 z => ?_⟩, hrd⟩
      · have q' : upd W.J (W.loc l) o a = some u := q
        by_cases h : a = W.loc l
        · rw [h, upd_same] at q'
          rw [h, ← q']
          exact ho
        · rw [upd_ne h] at q'
          exact R.sj _ _ q'
      · show upd W.J (W.loc l) o a = none
        rw [upd_ne fun z => by rw [z, hf] at q; cases q]
        exact R.dj _ _ q
      · rcases cas e2 with ⟨hk, e2'⟩ | ⟨rfl, rfl⟩
        · exact (R.cell k c2 e2').mono sm
        · exact hrd
      · rcases cas e2 with ⟨hk, e2'⟩ | ⟨rfl, rfl⟩
        · obtain ⟨q1, q2⟩ := R.own k c2 e2' hw
          refine ⟨?_, q2⟩
          show upd W.J (W.loc l) o (W.loc k) = none
          rw [upd_ne fun z => hk (R.inj k l c2 c e2' hc hw how z)]
          exact q1
        · cases hw
      · rcases cas e1 with ⟨hk, e1'⟩ | ⟨rfl, rfl⟩
        · rcases cas e2 with ⟨hk', e2'⟩ | ⟨rfl, rfl⟩
          · exact R.inj k k' c1 c2 e1' e2' h1 h2 z
          · cases h2
        · cases h1
end
end Dl
set_option Elab.async false
set_option linter.all false
set_option maxRecDepth 100000
set_option maxHeartbeats 2000000
/-! D1: readings over data; names, constants, operators, tests, small statements. -/
namespace Dl
open PySem PySem.Spec PyProof.Rows L2
abbrev Rho := List (Option D)
abbrev DK := D → Om → Prop
abbrev WE := Rho → Om → DK → Prop
abbrev WA := Rho → Om → (List D → Om → Prop) → Prop
abbrev WT := Rho → Om → (Bool → Om → Prop) → Prop
structure SL (W : Wd) (σ : L2.St) (ρ : Rho) : Prop where
  len : σ.length = ρ.length
  at_ : ∀ (i : Nat) d, ρ[i]? = some (some d) → ∃ v, σ[i]? = some (some v) ∧ RV W v d
theorem SL.ext {W W' : Wd} {σ : L2.St} {ρ : Rho} (s : SL W σ ρ) (e : Ext W W') : SL W' σ ρ := ⟨s.len, fun i d h => let ⟨v, h1, h2⟩ := s.at_ i d h; ⟨v, h1, h2.ext e⟩⟩
theorem SL.set {W : Wd} {σ : L2.St} {ρ : Rho} (s : SL W σ ρ) {v : V} {d : D} (r : RV W v d) (i : Nat) : SL W (σ.set i (some v)) (ρ.set i (some d)) := by
  refine ⟨by rw [List.length_set, List.length_set]; exact s.len, fun j d' h => ?_⟩
  by_cases hj : j = i
  · subst hj
    have hl : j < ρ.length := by
      have := (List.getElem?_eq_some_iff.mp h).1
      rwa [List.length_set] at this
    rw [List.getElem?_set_self hl] at h
    cases Option.some.inj (Option.some.inj h)
    exact ⟨v, by rw [List.getElem?_set_self (by rw [s.len]; exact hl)], r⟩
  · rw [List.getElem?_set_ne (Ne.symm hj)] at h
    obtain ⟨u, h1, h2⟩ := s.at_ j d' h
    exact ⟨u, by rw [List.getElem?_set_ne (Ne.symm hj)]; exact h1, h2⟩
theorem SL.forget {W : Wd} {σ : L2.St} {ρ : Rho} (s : SL W σ ρ) {σ' : L2.St} (hl : σ'.length = σ.length) {ρ' : Rho} (hl' : ρ'.length = ρ.length) (h : ∀ (i : Nat) d, ρ'[i]? = some (some d) → ρ[i]? = some (some d) ∧ σ'[i]? = σ[i]?) : SL W σ' ρ' :=
  ⟨by rw [hl, hl', s.len], fun i d e => by
    obtain ⟨h1, h2⟩ := h i d e
    rw [h2]
    exact s.at_ i d h1⟩
def Cont (W : Wd) (F : Hp) (Q : DK) (R : VK) : Prop := ∀ W' ω' d v H', Ext W W' → Rep W' F ω' H' → RV W' v d → Q d ω' → R v H'
def ContA (W : Wd) (F : Hp) (Q : List D → Om → Prop) (R : List V → Hp → Prop) : Prop := ∀ W' ω' ds vs H', Ext W W' → Rep W' F ω' H' → RVs W' vs ds → Q ds ω' → R vs H'
def ContT (W : Wd) (F : Hp) (Q : Bool → Om → Prop) (R : Bool → Hp → Prop) : Prop := ∀ W' ω' b H', Ext W W' → Rep W' F ω' H' → Q b ω' → R b H'
theorem Cont.ext {W W' : Wd} {F : Hp} {Q : DK} {R : VK} (c : Cont W F Q R) (e : Ext W W') : Cont W' F Q R := fun W2 ω d v H e2 => c W2 ω d v H (e.trans e2)
theorem ContA.ext {W W' : Wd} {F : Hp} {Q : List D → Om → Prop} {R : List V → Hp → Prop} (c : ContA W F Q R) (e : Ext W W') : ContA W' F Q R := fun W2 ω d v H e2 => c W2 ω d v H (e.trans e2)
theorem ContT.ext {W W' : Wd} {F : Hp} {Q : Bool → Om → Prop} {R : Bool → Hp → Prop} (c : ContT W F Q R) (e : Ext W W') : ContT W' F Q R := fun W2 ω d H e2 => c W2 ω d H (e.trans e2)
section
variable {ι : Type}
structure DE (X : ι → Cx) (e : Expr) (w : WE) : Prop where
  ex : ∃ t : TE, (∀ i, PE (X i) e t) ∧ ∀ W F ρ ω σ H Q R, SL W σ ρ → Rep W F ω H → w ρ ω Q → Cont W F Q R → t σ H R
structure DA (X : ι → Cx) (es : List Expr) (w : WA) : Prop where
  ex : ∃ t : TA, (∀ i, PA (X i) es t) ∧ ∀ W F ρ ω σ H Q R, SL W σ ρ → Rep W F ω H → w ρ ω Q → ContA W F Q R → t σ H R
structure DT (X : ι → Cx) (e : Expr) (w : WT) : Prop where
  ex : ∃ t : TT, (∀ i, PT (X i) e t) ∧ ∀ W F ρ ω σ H Q R, SL W σ ρ → Rep W F ω H → w ρ ω Q → ContT W F Q R → t σ H R
structure DW (X : ι → Cx) (e : Expr) (w : WT) : Prop where
  ex : ∃ t : TT, (∀ i, PW (X i) e t) ∧ ∀ W F ρ ω σ H Q R, SL W σ ρ → Rep W F ω H → w ρ ω Q → ContT W F Q R → t σ H R
structure DTs (X : ι → Cx) (es : List Expr) (w : WT) : Prop where
  ex : ∃ t : TT, (∀ i, PTs (X i) es t) ∧ ∀ W F ρ ω σ H Q R, SL W σ ρ → Rep W F ω H → w ρ ω Q → ContT W F Q R → t σ H R
variable {X : ι → Cx} {a b c e : Expr} {es : List Expr} {wa wb we : WE} {ws : WA} {wt wu : WT} {pos : Pos}
def wVar (k : Nat) : WE := fun ρ ω Q => match ρ[k]? with
  | some (some d) => Q d ω
  | _ => False
theorem de_var {k : Nat} {x : Str} (hN : ∀ i, (X i).N[k]? = some x := by intro _; rfl) (hv : ∀ i, Vis (X i).env.scope x := by intro _; first | exact Or.inl rfl | exact Or.inr (Or.inl rfl) | exact Or.inr (Or.inr rfl)) (hd : (x == ("__debug__" : Str)) = false := by decide)
    (hcd : (x == ("__classdict__" : Str)) = false := by decide) : DE X (.Name x pos) (wVar k) := by
  refine ⟨tVar k, fun i => pe_var (hN i) (hv i) hd hcd, fun W F ρ ω σ H Q R s r h q => ?_⟩
  have h' : (match ρ[k]? with
    | some (some d) => Q d ω
    | _ => False) := h
  cases e : ρ[k]? with
  | none =>
    rw [e] at h'
    exact h'.elim
  | some o =>
    cases o with
    | none =>
      rw [e] at h'
      exact h'.elim
    | some d =>
      rw [e] at h'
      obtain ⟨v, h1, h2⟩ := s.at_ k d e
      exact ⟨v, h1, q W ω d v H (Ext.refl W) r h2 h'⟩
def wC (d : Dt) : WE := fun _ ω Q => Q (.dat d) ω
theorem de_c {v : V} {d : Dt} (h : ∀ i, PE (X i) e (tC v)) (r : ∀ J, RD J v d) : DE X e (wC d) := ⟨tC v, h, fun W _ _ ω _ H _ _ _ rp h q => q W ω (.dat d) v H (Ext.refl W) rp (r W.J) h⟩
theorem de_int {n : Int} {j} : DE X (.Constant (.int n) j pos) (wC (.int n)) := de_c (fun _ => pe_int) fun _ => .int n
theorem de_bl {n : Bool} {j} : DE X (.Constant (.bool n) j pos) (wC (.bl n)) := de_c (fun _ => pe_bl) fun _ => .bl n
theorem de_non {j} : DE X (.Constant .none j pos) (wC .non) := de_c (fun _ => pe_non) fun _ => .non
theorem de_str {z : Str} {j} : DE X (.Constant (.str z) j pos) (wC (.str z)) := de_c (fun _ => pe_str) fun _ => .str z
theorem de_gint {x : Str} {n : Int} {t : Tok} (hm : ∀ i, (X i).mg x = some (.int n t)) (hg : ∀ i, Gl (X i) x := by intro _; rfl) (hd : (x == ("__debug__" : Str)) = false := by decide) : DE X (.Name x pos) (wC (.int n)) :=
  de_c (fun i => pe_glob (v := .int n) (hg i) (hm i) ⟨t, rfl⟩ hd) fun _ => .int n
theorem de_gstr {x z : Str} {t : Tok} (hm : ∀ i, (X i).mg x = some (.str z t)) (hg : ∀ i, Gl (X i) x := by intro _; rfl) (hd : (x == ("__debug__" : Str)) = false := by decide) : DE X (.Name x pos) (wC (.str z)) :=
  de_c (fun i => pe_glob (v := .str z) (hg i) (hm i) ⟨t, rfl⟩ hd) fun _ => .str z

/-! ### operators by value -/
abbrev W2 := D → D → Om → DK → Prop
abbrev W1 := D → Om → DK → Prop
def Lift2 (r : R2) (rd : W2) : Prop := ∀ W F ω H x y dx dy Q R, Rep W F ω H → RV W x dx → RV W y dy → rd dx dy ω Q → Cont W F Q R → r x y H R
def Lift1 (r : V → Hp → VK → Prop) (rd : W1) : Prop := ∀ W F ω H x dx Q R, Rep W F ω H → RV W x dx → rd dx ω Q → Cont W F Q R → r x H R
abbrev wOp (rd : W2) (wa wb : WE) : WE := fun ρ ω Q => wa ρ ω fun x ω1 => wb ρ ω1 fun y ω2 => rd x y ω2 Q
theorem op_lift {r : R2} {rd : W2} {ta tb : TE} (l : Lift2 r rd) (ha : ∀ W F ρ ω σ H Q R, SL W σ ρ → Rep W F ω H → wa ρ ω Q → Cont W F Q R → ta σ H R) (hb : ∀ W F ρ ω σ H Q R, SL W σ ρ → Rep W F ω H → wb ρ ω Q → Cont W F Q R → tb σ H R)
    (W F ρ ω σ H) (Q : DK) (R : VK) (s : SL W σ ρ) (rp : Rep W F ω H) (h : wOp rd wa wb ρ ω Q) (q : Cont W F Q R) : tOp r ta tb σ H R := by
  refine ha W F ρ ω σ H _ _ s rp h fun W1 ω1 dx x H1 e1 rp1 rx h1 => ?_
  refine hb W1 F ρ ω1 σ H1 _ _ (s.ext e1) rp1 h1 fun W2 ω2 dy y H2 e2 rp2 ry h2 => ?_
  exact l W2 F ω2 H2 x y dx dy Q R rp2 (rx.ext e2) ry h2 (q.ext (e1.trans e2))
theorem de_op {op : Operator} {r : R2} {rd : W2} (ho : ∀ i, OpR (X i) (binaryOp op) r) (l : Lift2 r rd) (ha : DE X a wa) (hb : DE X b wb) : DE X (.BinOp a op b pos) (wOp rd wa wb) := by
  obtain ⟨ta, pa, qa⟩ := ha.ex
  obtain ⟨tb, pb, qb⟩ := hb.ex
  exact ⟨tOp r ta tb, fun i => pe_op (ho i) (pa i) (pb i), op_lift l qa qb⟩
theorem de_cmp {op : CmpOp} {r : R2} {rd : W2} (ho : ∀ i, OpR (X i) (compareOp op) r) (l : Lift2 r rd) (ha : DE X a wa) (hb : DE X b wb) (hm : behindInMarks op b = false := by rfl) : DE X (.Compare a [op] [b] pos) (wOp rd wa wb) := by
  obtain ⟨ta, pa, qa⟩ := ha.ex
  obtain ⟨tb, pb, qb⟩ := hb.ex
  exact ⟨tOp r ta tb, fun i => pe_cmpR (ho i) (pa i) (pb i) hm, op_lift l qa qb⟩
theorem de_ix {r : R2} {rd : W2} (ho : ∀ i, IxR (X i) r) (l : Lift2 r rd) (ha : DE X a wa) (hb : DE X b wb) (hs : PlainIx b := by exact fun _ _ => rfl) : DE X (.Subscript a b pos) (wOp rd wa wb) := by
  obtain ⟨ta, pa, qa⟩ := ha.ex
  obtain ⟨tb, pb, qb⟩ := hb.ex
  exact ⟨tOp r ta tb, fun i => pe_ix (ho i) (pa i) (pb i) hs, op_lift l qa qb⟩
abbrev wUn (rd : W1) (wa : WE) : WE := fun ρ ω Q => wa ρ ω fun x ω1 => rd x ω1 Q
theorem de_un {op : UnaryOp} {r : V → Hp → VK → Prop} {rd : W1} (ho : ∀ i, UnR (X i) (unaryOp op) r) (l : Lift1 r rd) (ha : DE X a wa) : DE X (.UnaryOp op a pos) (wUn rd wa) := by
  obtain ⟨ta, pa, qa⟩ := ha.ex
  refine ⟨tUn r ta, fun i => pe_un (ho i) (pa i), fun W F ρ ω σ H Q R s rp h q => ?_⟩
  refine qa W F ρ ω σ H _ _ s rp h fun W1 ω1 dx x H1 e1 rp1 rx h1 => ?_
  exact l W1 F ω1 H1 x dx Q R rp1 rx h1 (q.ext e1)

/-! ### tests -/
/-- a value that is a bool, as a test -/
abbrev wB (w : WE) : WT := fun ρ ω Q => w ρ ω fun d ω1 => match d with
  | .dat (.bl b) => Q b ω1
  | _ => False
theorem wB_inv {d : D} {Q : Bool → Prop} (h : match d with
  | .dat (.bl b) => Q b
  | _ => False) : ∃ b, d = .dat (.bl b) ∧ Q b := by
  cases d with
  | ptr l => exact h.elim
  | raw _ => exact h.elim
  | dat x =>
    cases x with
    | bl b => exact ⟨b, rfl, h⟩
    | _ => exact h.elim
theorem dt_val (h : DE X e we) (he : ∀ i whole, isTrue e (X i).env whole = (do let v ← whole; standAt e.pos; holding [v] (truthy v)) := by intro _ _; rfl) : DT X e (wB we) := by
  obtain ⟨t, p, q⟩ := h.ex
  refine ⟨tB t, fun i => pt_val (p i) (he i), fun W F ρ ω σ H Q R s rp h c => ?_⟩
  refine q W F ρ ω σ H _ _ s rp h fun W1 ω1 d v H1 e1 rp1 r1 h1 => ?_
  obtain ⟨b, rfl, h2⟩ := wB_inv h1
  cases r1
  exact ⟨b, rfl, c W1 ω1 b H1 e1 rp1 h2⟩
theorem dt_cmp {op : CmpOp} {r : R2} {rd : W2} (ho : ∀ i, OpR (X i) (compareOp op) r) (l : Lift2 r rd) (ha : DE X a wa) (hb : DE X b wb) (hm : behindInMarks op b = false := by rfl) : DT X (.Compare a [op] [b] pos) (wB (wOp rd wa wb)) := by
  obtain ⟨ta, pa, qa⟩ := ha.ex
  obtain ⟨tb, pb, qb⟩ := hb.ex
  refine ⟨tTest (tOp r ta tb), fun i => pt_cmpR (ho i) (pa i) (pb i) hm, fun W F ρ ω σ H Q R s rp h c => ?_⟩
  refine op_lift l qa qb W F ρ ω σ H _ _ s rp h fun W1 ω1 d v H1 e1 rp1 r1 h1 => ?_
  obtain ⟨b, rfl, h2⟩ := wB_inv h1
  cases r1
  exact ⟨b, rfl, c W1 ω1 b H1 e1 rp1 h2⟩
abbrev wAnd (t u : WT) : WT := fun ρ ω Q => t ρ ω fun c ω1 => if c = true then u ρ ω1 Q else Q false ω1
abbrev wOr (t u : WT) : WT := fun ρ ω Q => t ρ ω fun c ω1 => if c = true then Q true ω1 else u ρ ω1 Q
abbrev wNot (t : WT) : WT := fun ρ ω Q => t ρ ω fun c ω1 => Q (!c) ω1
theorem dw_and1 (h : DT X a wt) : DW X (.BoolOp .And [a] pos) wt := let ⟨t, p, q⟩ := h.ex; ⟨t, fun i => pw_and1 (p i), q⟩
theorem dw_or1 (h : DT X a wt) : DW X (.BoolOp .Or [a] pos) wt := let ⟨t, p, q⟩ := h.ex; ⟨t, fun i => pw_or1 (p i), q⟩
theorem dw_and (ha : DT X a wt) (hb : DW X (.BoolOp .And (b :: es) pos) wu) : DW X (.BoolOp .And (a :: b :: es) pos) (wAnd wt wu) := by
  obtain ⟨t, p, q⟩ := ha.ex
  obtain ⟨u, p', q'⟩ := hb.ex
  refine ⟨tAnd t u, fun i => pw_and (p i) (p' i), fun W F ρ ω σ H Q R s rp h c => ?_⟩
  refine q W F ρ ω σ H _ _ s rp h fun W1 ω1 k H1 e1 rp1 h1 => ?_
  cases k with
  | true => exact (q' W1 F ρ ω1 σ H1 Q R (s.ext e1) rp1 h1 (c.ext e1) : _)
  | false => exact c W1 ω1 false H1 e1 rp1 h1
theorem dw_or (ha : DT X a wt) (hb : DW X (.BoolOp .Or (b :: es) pos) wu) : DW X (.BoolOp .Or (a :: b :: es) pos) (wOr wt wu) := by
  obtain ⟨t, p, q⟩ := ha.ex
  obtain ⟨u, p', q'⟩ := hb.ex
  refine ⟨tOr t u, fun i => pw_or (p i) (p' i), fun W F ρ ω σ H Q R s rp h c => ?_⟩
  refine q W F ρ ω σ H _ _ s rp h fun W1 ω1 k H1 e1 rp1 h1 => ?_
  cases k with
  | false => exact (q' W1 F ρ ω1 σ H1 Q R (s.ext e1) rp1 h1 (c.ext e1) : _)
  | true => exact c W1 ω1 true H1 e1 rp1 h1
theorem dt_w (h : DW X e wt) : DT X e wt := let ⟨t, p, q⟩ := h.ex; ⟨t, fun i => (p i).pt, q⟩
theorem dt_not (h : DT X a wt) : DT X (.UnaryOp .Not a pos) (wNot wt) := by
  obtain ⟨t, p, q⟩ := h.ex
  refine ⟨tNot t, fun i => pt_not (p i), fun W F ρ ω σ H Q R s rp h c => ?_⟩
  exact q W F ρ ω σ H _ _ s rp h fun W1 ω1 k H1 e1 rp1 h1 => c W1 ω1 (!k) H1 e1 rp1 h1
/-- and, or, not as values -/
def wAndV (wa wb : WE) : WE := fun ρ ω Q => wB wa ρ ω fun c ω1 => if c = true then wb ρ ω1 Q else Q (.dat (.bl false)) ω1
def wOrV (wa wb : WE) : WE := fun ρ ω Q => wB wa ρ ω fun c ω1 => if c = true then Q (.dat (.bl true)) ω1 else wb ρ ω1 Q
def wNotV (wa : WE) : WE := fun ρ ω Q => wB wa ρ ω fun c ω1 => Q (.dat (.bl (!c))) ω1
theorem de_one {op} (h : DE X a wa) : DE X (.BoolOp op [a] pos) wa := let ⟨t, p, q⟩ := h.ex; ⟨t, fun i => pe_one (p i), q⟩
theorem de_and (ha : DE X a wa) (hb : DE X (.BoolOp .And (b :: es) pos) wb) : DE X (.BoolOp .And (a :: b :: es) pos) (wAndV wa wb) := by
  obtain ⟨t, p, q⟩ := ha.ex
  obtain ⟨u, p', q'⟩ := hb.ex
  refine ⟨tAndV t u, fun i => pe_and (p i) (p' i), fun W F ρ ω σ H Q R s rp h c => ?_⟩
  refine q W F ρ ω σ H _ _ s rp h fun W1 ω1 d v H1 e1 rp1 r1 h1 => ?_
  obtain ⟨k, rfl, h2⟩ := wB_inv h1
  cases r1
  refine ⟨k, rfl, ?_⟩
  cases k with
  | true => exact (q' W1 F ρ ω1 σ H1 Q R (s.ext e1) rp1 h2 (c.ext e1) : _)
  | false => exact c W1 ω1 (.dat (.bl false)) _ H1 e1 rp1 (RD.bl false) h2
theorem de_or (ha : DE X a wa) (hb : DE X (.BoolOp .Or (b :: es) pos) wb) : DE X (.BoolOp .Or (a :: b :: es) pos) (wOrV wa wb) := by
  obtain ⟨t, p, q⟩ := ha.ex
  obtain ⟨u, p', q'⟩ := hb.ex
  refine ⟨tOrV t u, fun i => pe_or (p i) (p' i), fun W F ρ ω σ H Q R s rp h c => ?_⟩
  refine q W F ρ ω σ H _ _ s rp h fun W1 ω1 d v H1 e1 rp1 r1 h1 => ?_
  obtain ⟨k, rfl, h2⟩ := wB_inv h1
  cases r1
  refine ⟨k, rfl, ?_⟩
  cases k with
  | false => exact (q' W1 F ρ ω1 σ H1 Q R (s.ext e1) rp1 h2 (c.ext e1) : _)
  | true => exact c W1 ω1 (.dat (.bl true)) _ H1 e1 rp1 (RD.bl true) h2
theorem de_not (ha : DE X a wa) : DE X (.UnaryOp .Not a pos) (wNotV wa) := by
  obtain ⟨t, p, q⟩ := ha.ex
  refine ⟨tNotV t, fun i => pe_not (p i), fun W F ρ ω σ H Q R s rp h c => ?_⟩
  refine q W F ρ ω σ H _ _ s rp h fun W1 ω1 d v H1 e1 rp1 r1 h1 => ?_
  obtain ⟨k, rfl, h2⟩ := wB_inv h1
  cases r1
  exact ⟨k, rfl, c W1 ω1 (.dat (.bl (!k))) _ H1 e1 rp1 (RD.bl (!k)) h2⟩
def wIf (t : WT) (wa wb : WE) : WE := fun ρ ω Q => t ρ ω fun c ω1 => if c = true then wa ρ ω1 Q else wb ρ ω1 Q
theorem de_if (hc : DT X c wt) (ha : DE X a wa) (hb : DE X b wb) : DE X (.IfExp c a b pos) (wIf wt wa wb) := by
  obtain ⟨t, p, q⟩ := hc.ex
  obtain ⟨ta, pa, qa⟩ := ha.ex
  obtain ⟨tb, pb, qb⟩ := hb.ex
  refine ⟨tIf t ta tb, fun i => pe_ifExp (p i) (pa i) (pb i), fun W F ρ ω σ H Q R s rp h k => ?_⟩
  refine q W F ρ ω σ H _ _ s rp h fun W1 ω1 d H1 e1 rp1 h1 => ?_
  cases d with
  | true => exact (qa W1 F ρ ω1 σ H1 Q R (s.ext e1) rp1 h1 (k.ext e1) : _)
  | false => exact (qb W1 F ρ ω1 σ H1 Q R (s.ext e1) rp1 h1 (k.ext e1) : _)

/-! ### argument lists -/
abbrev waNil : WA := fun _ ω Q => Q [] ω
abbrev waCons (we : WE) (ws : WA) : WA := fun ρ ω Q => we ρ ω fun d ω1 => ws ρ ω1 fun ds ω2 => Q (d :: ds) ω2
theorem da_nil : DA X [] waNil := ⟨tNil, fun _ => pa_nil, fun W _ _ ω _ H _ _ _ rp h c => c W ω [] [] H (Ext.refl W) rp .nil h⟩
theorem da_cons (he : DE X e we) (hs : DA X es ws) (hst : ∀ i, starEach (e :: es) (X i).env = (false, eval e (X i).env) :: starEach es (X i).env := by intro _; rfl) : DA X (e :: es) (waCons we ws) := by
  obtain ⟨t, p, q⟩ := he.ex
  obtain ⟨u, p', q'⟩ := hs.ex
  refine ⟨tCons t u, fun i => pa_cons (p i) (p' i) (hst i), fun W F ρ ω σ H Q R s rp h c => ?_⟩
  refine q W F ρ ω σ H _ _ s rp h fun W1 ω1 d v H1 e1 rp1 r1 h1 => ?_
  refine q' W1 F ρ ω1 σ H1 _ _ (s.ext e1) rp1 h1 fun W2 ω2 ds vs H2 e2 rp2 r2 h2 => ?_
  exact c W2 ω2 _ _ H2 (e1.trans e2) rp2 (.cons (r1.ext e2) r2) h2
theorem dts_nil : DTs X [] (fun _ ω Q => Q true ω) := ⟨tYes, fun _ => pts_nil, fun W _ _ ω _ H _ _ _ rp h c => c W ω true H (Ext.refl W) rp h⟩
theorem dts_one (h : DT X c wt) : DTs X [c] wt := let ⟨t, p, q⟩ := h.ex; ⟨t, fun i => pts_one (p i), q⟩
end

/-! ### statements -/
structure DEnds where
  nx : Rho → Om → Prop
  rt : DK
  bk : Rho → Om → Prop := fun _ _ => False
  ct : Rho → Om → Prop := fun _ _ => False
abbrev WS := DEnds → Rho → Om → Prop
structure Lift (W : Wd) (F : Hp) (D : DEnds) (E : Ends) : Prop where
  nx : ∀ W' ρ ω σ H, Ext W W' → SL W' σ ρ → Rep W' F ω H → D.nx ρ ω → E.nx σ H
  rt : ∀ W' d ω v H, Ext W W' → Rep W' F ω H → RV W' v d → D.rt d ω → E.rt v H
  bk : ∀ W' ρ ω σ H, Ext W W' → SL W' σ ρ → Rep W' F ω H → D.bk ρ ω → E.bk σ H
  ct : ∀ W' ρ ω σ H, Ext W W' → SL W' σ ρ → Rep W' F ω H → D.ct ρ ω → E.ct σ H
theorem Lift.ext {W W' : Wd} {F : Hp} {D : DEnds} {E : Ends} (l : Lift W F D E) (e : Ext W W') : Lift W' F D E :=
  ⟨fun W2 ρ ω σ H e2 => l.nx W2 ρ ω σ H (e.trans e2), fun W2 d ω v H e2 => l.rt W2 d ω v H (e.trans e2), fun W2 ρ ω σ H e2 => l.bk W2 ρ ω σ H (e.trans e2), fun W2 ρ ω σ H e2 => l.ct W2 ρ ω σ H (e.trans e2)⟩
structure DS (X : Cx) (st : Stmt) (w : WS) : Prop where
  ex : ∃ t : TS, PS X st t ∧ ∀ W F ρ ω σ H D E, SL W σ ρ → Rep W F ω H → w D ρ ω → Lift W F D E → t E σ H
structure DSs (X : Cx) (st : List Stmt) (w : WS) : Prop where
  ex : ∃ t : TS, PSs X st t ∧ ∀ W F ρ ω σ H D E, SL W σ ρ → Rep W F ω H → w D ρ ω → Lift W F D E → t E σ H
abbrev One (X : Cx) : Unit → Cx := fun _ => X
section
variable {X : Cx} {a b c e : Expr} {es : List Expr} {wa wb we : WE} {ws : WA} {wt wu : WT} {pos : Pos} {st : Stmt} {sts : List Stmt} {t u : WS}
abbrev wNext : WS := fun D ρ ω => D.nx ρ ω
abbrev wSeq (t u : WS) : WS := fun D ρ ω => t { D with nx := u D } ρ ω
theorem dss_nil : DSs X [] wNext := ⟨tNext, pss_nil, fun W F ρ ω σ H D E s rp h l => l.nx W ρ ω σ H (Ext.refl W) s rp h⟩
theorem dss_cons (h1 : DS X st t) (h2 : DSs X sts u) : DSs X (st :: sts) (wSeq t u) := by
  obtain ⟨t', p, q⟩ := h1.ex
  obtain ⟨u', p', q'⟩ := h2.ex
  refine ⟨tSeq t' u', pss_cons p p', fun W F ρ ω σ H D E s rp h l => ?_⟩
  refine q W F ρ ω σ H { D with nx := u D } _ s rp h ⟨fun W1 ρ1 ω1 σ1 H1 e1 s1 rp1 h1 => ?_, l.rt, l.bk, l.ct⟩
  exact q' W1 F ρ1 ω1 σ1 H1 D E s1 rp1 h1 (l.ext e1)
theorem dss_one (h1 : DS X st t) : DSs X [st] t := let ⟨t', p, q⟩ := h1.ex; ⟨t', pss_one p, q⟩
def wNever : WS := fun _ _ _ => False
theorem ds_never : DS X st wNever := ⟨tNever, ps_never, fun _ _ _ _ _ _ _ _ _ _ h _ => h⟩
theorem dss_never : DSs X sts wNever := ⟨tNever, pss_never, fun _ _ _ _ _ _ _ _ _ _ h _ => h⟩
theorem ds_break : DS X (.Break pos) (fun D ρ ω => D.bk ρ ω) := ⟨tBreak, ps_break, fun W F ρ ω σ H D E s rp h l => l.bk W ρ ω σ H (Ext.refl W) s rp h⟩
theorem ds_doc {x j pos'} : DS X (.Expr (.Constant (.str x) j pos) pos') wNext := ⟨tNext, ps_doc, fun W F ρ ω σ H D E s rp h l => l.nx W ρ ω σ H (Ext.refl W) s rp h⟩
abbrev wDrop (we : WE) : WS := fun D ρ ω => we ρ ω fun _ ω1 => D.nx ρ ω1
theorem ds_expr (he : DE (One X) e we) (hs : swapsWith e none pos.line X.env = pure false := by rfl) : DS X (.Expr e pos) (wDrop we) := by
  obtain ⟨t, p, q⟩ := he.ex
  refine ⟨tDrop t, ps_expr (p ()) hs, fun W F ρ ω σ H D E s rp h l => ?_⟩
  exact q W F ρ ω σ H _ _ s rp h fun W1 ω1 d v H1 e1 rp1 r1 h1 => l.nx W1 ρ ω1 σ H1 e1 (s.ext e1) rp1 h1
abbrev wRet (we : WE) : WS := fun D ρ ω => we ρ ω D.rt
theorem ds_ret (he : DE (One X) e we) : DS X (.Return (some e) pos) (wRet we) := by
  obtain ⟨t, p, q⟩ := he.ex
  refine ⟨tRet t, ps_ret (p ()), fun W F ρ ω σ H D E s rp h l => ?_⟩
  exact q W F ρ ω σ H _ _ s rp h fun W1 ω1 d v H1 e1 rp1 r1 h1 => l.rt W1 d ω1 v H1 e1 rp1 r1 h1
abbrev wIfS (c : WT) (t u : WS) : WS := fun D ρ ω => c ρ ω fun b ω1 => if b = true then t D ρ ω1 else u D ρ ω1
theorem ds_if {x y : List Stmt} (hc : DT (One X) c wt) (ha : DSs X x t) (hb : DSs X y u) : DS X (.If c x y pos) (wIfS wt t u) := by
  obtain ⟨tc, p, q⟩ := hc.ex
  obtain ⟨t', pa, qa⟩ := ha.ex
  obtain ⟨u', pb, qb⟩ := hb.ex
  refine ⟨tIfS tc t' u', ps_if (p ()) pa pb, fun W F ρ ω σ H D E s rp h l => ?_⟩
  refine q W F ρ ω σ H _ _ s rp h fun W1 ω1 d H1 e1 rp1 h1 => ?_
  cases d with
  | true => exact (qa W1 F ρ ω1 σ H1 D E (s.ext e1) rp1 h1 (l.ext e1) : _)
  | false => exact (qb W1 F ρ ω1 σ H1 D E (s.ext e1) rp1 h1 (l.ext e1) : _)
abbrev wSet (i : Nat) (we : WE) : WS := fun D ρ ω => we ρ ω fun d ω1 => D.nx (ρ.set i (some d)) ω1
theorem ds_set {i : Nat} {x : Str} {pos' : Pos} (hN : X.N.Nodup) (he : DE (One X) e we) (hi : X.N[i]? = some x := by rfl) (hx : Loc X.env.scope x := by first | exact Or.inl rfl | exact Or.inr rfl) (hs : swapsWith e (some (.Name x pos')) pos.line X.env = pure false := by rfl)
    (hf : X.fn x = true ∨ X.env.scope.names.lookup x = some .local := by first | exact .inl rfl | exact .inr rfl) : DS X (.Assign [.Name x pos'] e pos) (wSet i we) := by
  obtain ⟨t, p, q⟩ := he.ex
  refine ⟨tAsg t (gName i), ps_set hN hi hx (p ()) hs hf, fun W F ρ ω σ H D E s rp h l => ?_⟩
  exact q W F ρ ω σ H _ _ s rp h fun W1 ω1 d v H1 e1 rp1 r1 h1 => l.nx W1 _ ω1 _ H1 e1 ((s.ext e1).set r1 i) rp1 h1
end
end Dl
set_option Elab.async false
set_option linter.all false
set_option maxRecDepth 100000
set_option maxHeartbeats 2000000
/-! D2: defs and their calls. -/
namespace Dl
open PySem PySem.Spec PyProof.Rows L2
section
variable {W : Wd} {F : Hp} {ω : Om} {H : Hp}
theorem take_at {α : Type} {l : List α} {k i : Nat} {x : α} (h : (l.take k)[i]? = some x) : i < k ∧ l[i]? = some x := by
  rw [List.getElem?_take] at h
  split at h
  · exact ⟨by assumption, h⟩
  · cases h
theorem Rep.cut (R : Rep W F ω H) {k : Nat} (hk : k ≤ ω.length) : Rep ⟨W.J, W.loc, k⟩ F (ω.take k) H :=
  ⟨by rw [List.length_take]; show k = _; omega, R.sj, R.sf, R.dj, fun l c e => R.cell l c (take_at e).2, fun l c e h => R.own l c (take_at e).2 h, fun l l' c c' e e' h h' z => R.inj l l' c c' (take_at e).2 (take_at e').2 h h' z⟩
/-- what is kept of the cells behind a def: the first k and one more -/
theorem Rep.cut1 (R : Rep W F ω H) {k m : Nat} {c : Cell} (hk : k ≤ m) (e : ω[m]? = some (some c)) (ho : c.own = true) : Rep ⟨W.J, fun l => if l < k then W.loc l else W.loc m, k + 1⟩ F (ω.take k ++ [some c]) H := by
  have hm := (List.getElem?_eq_some_iff.mp e).1
  have hl : (ω.take k).length = k := by
    rw [List.length_take]
    omega
  have cas : ∀ {i : Nat} {c' : Cell}, (ω.take k ++ [some c])[i]? = some (some c') → (i < k ∧ ω[i]? = some (some c')) ∨ (i = k ∧ c' = c) := fun {i c'} e1 => by
    by_cases h : i < k
    · rw [List.getElem?_append_left (by omega)] at e1
      exact .inl ⟨h, (take_at e1).2⟩
    · rw [List.getElem?_append_right (by omega)] at e1
      have q := (List.getElem?_eq_some_iff.mp e1).1
      have h1 : ([some c] : Om).length = 1 := rfl
      have h0 : i = k := by omega
      subst h0
      rw [hl, Nat.sub_self] at e1
      exact .inr ⟨rfl, (Option.some.inj (Option.some.inj e1)).symm⟩
  refine ⟨by rw [List.length_append, hl]; rfl, R.sj, R.sf, R.dj, fun i c' e1 => ?_, fun i c' e1 h1 => ?_, fun i j c1 c2 e1 e2 h1 h2 z => ?_⟩
  · show CellAt W.J H (if i < k then W.loc i else W.loc m) c'
    rcases cas e1 with ⟨h, e1'⟩ | ⟨rfl, rfl⟩
    · rw [if_pos h]
      exact R.cell i c' e1'
    · rw [if_neg (Nat.lt_irrefl _)]
      exact R.cell m c' e
  · show W.J (if i < k then W.loc i else W.loc m) = none ∧ F (if i < k then W.loc i else W.loc m) = none
    rcases cas e1 with ⟨h, e1'⟩ | ⟨rfl, rfl⟩
    · rw [if_pos h]
      exact R.own i c' e1' h1
    · rw [if_neg (Nat.lt_irrefl _)]
      exact R.own m c' e h1
  · have z' : (if i < k then W.loc i else W.loc m) = (if j < k then W.loc j else W.loc m) := z
    rcases cas e1 with ⟨h, e1'⟩ | ⟨rfl, rfl⟩ <;> rcases cas e2 with ⟨h', e2'⟩ | ⟨rfl, rfl⟩
    · rw [if_pos h, if_pos h'] at z'
      exact R.inj i j c1 c2 e1' e2' h1 h2 z'
    · rw [if_pos h, if_neg (Nat.lt_irrefl _)] at z'
      have := R.inj i m c1 c2 e1' e h1 h2 z'
      omega
    · rw [if_neg (Nat.lt_irrefl _), if_pos h'] at z'
      have := R.inj m j c1 c2 e e2' h1 h2 z'
      omega
    · rfl
/-! ### the frame of a call: the cells that it does not get -/
def Oth (W : Wd) (ω : Om) (keep : Nat → Prop) (a : Addr) : Prop := ∃ l c, ω[l]? = some (some c) ∧ c.own = true ∧ ¬ keep l ∧ W.loc l = a
open Classical in
noncomputable def fr (W : Wd) (ω : Om) (keep : Nat → Prop) (H F : Hp) : Hp := fun a => if Oth W ω keep a then H a else F a
theorem fr_sf (R : Rep W F ω H) (keep : Nat → Prop) : Same (fr W ω keep H F) H := fun a o e => by
  unfold fr at e
  split at e
  · exact e
  · exact R.sf _ _ e
theorem fr_dj (R : Rep W F ω H) (keep : Nat → Prop) : ∀ a o, fr W ω keep H F a = some o → W.J a = none := fun a o e => by
  unfold fr at e
  split at e
  · rename_i h
    obtain ⟨l, c, h1, h2, _, rfl⟩ := h
    exact (R.own l c h1 h2).1
  · exact R.dj _ _ e
theorem fr_oth (R : Rep W F ω H) {keep : Nat → Prop} {l : Nat} {c : Cell} (h1 : ω[l]? = some (some c)) (h2 : c.own = true) (h3 : ¬ keep l) : fr W ω keep H F (W.loc l) = H (W.loc l) := if_pos ⟨l, c, h1, h2, h3, rfl⟩
theorem fr_sub (R : Rep W F ω H) (keep : Nat → Prop) : Same F (fr W ω keep H F) := fun a o e => by
  unfold fr
  split
  · rename_i h
    obtain ⟨l, c, h1, h2, _, rfl⟩ := h
    rw [(R.own l c h1 h2).2] at e
    cases e
  · exact e
theorem fr_keep (R : Rep W F ω H) {keep : Nat → Prop} {l : Nat} {c : Cell} (h1 : ω[l]? = some (some c)) (h2 : c.own = true) (h3 : keep l) : fr W ω keep H F (W.loc l) = none := by
  unfold fr
  split
  · rename_i h
    obtain ⟨l', c', e1, e2, e3, e4⟩ := h
    exact (e3 (by rw [R.inj l' l c' c e1 h1 e2 h2 e4]; exact h3)).elim
  · exact (R.own l c h1 h2).2
/-- what stands of the other cells behind the call -/
theorem fr_cell (R : Rep W F ω H) {keep : Nat → Prop} {J' H' : Hp} (sj : Same W.J J') (sf : Same (fr W ω keep H F) H') {l : Nat} {c : Cell} (h1 : ω[l]? = some (some c)) (h3 : ¬ keep l) : CellAt J' H' (W.loc l) c := by
  cases how : c.own with
  | true => exact ((R.cell l c h1).mono sj).heap fun o e => sf _ _ (by rw [fr_oth R h1 how h3]; exact e)
  | false =>
    cases c with
    | fz d => exact (R.cell l _ h1).mono sj
    | lst _ => cases how
    | dic _ _ => cases how
    | ins _ _ _ => cases how
    | box _ => cases how
theorem fr_own (R : Rep W F ω H) {keep : Nat → Prop} {J' : Hp} (dj : ∀ a o, fr W ω keep H F a = some o → J' a = none) {l : Nat} {c : Cell} (h1 : ω[l]? = some (some c)) (h2 : c.own = true) (h3 : ¬ keep l) : J' (W.loc l) = none ∧ F (W.loc l) = none := by
  refine ⟨?_, (R.own l c h1 h2).2⟩
  obtain ⟨o, ho⟩ := (R.cell l c h1).there h2
  exact dj _ o (by rw [fr_oth R h1 h2 h3]; exact ho)
/-- a call that gets no cell: nothing new -/
theorem fr_none (R : Rep W F ω H) {J' H' : Hp} (sj : Same W.J J') (sH : Same J' H') (sf : Same (fr W ω (fun _ => False) H F) H') (dj : ∀ a o, fr W ω (fun _ => False) H F a = some o → J' a = none) : Rep ⟨J', W.loc, W.n⟩ F ω H' :=
  ⟨R.n, sH, (fr_sub R _).trans sf, fun a o e => dj a o (fr_sub R _ a o e), fun l c e => fr_cell R sj sf e id, fun l c e h => fr_own R dj e h id, R.inj⟩
theorem fr_none1 (R : Rep W F ω H) {J' H' : Hp} {p : Addr} {c : Cell} (sj : Same W.J J') (sH : Same J' H') (sf : Same (fr W ω (fun _ => False) H F) H') (dj : ∀ a o, fr W ω (fun _ => False) H F a = some o → J' a = none)
    (hc : CellAt J' H' p c) (h1 : J' p = none) (h2 : fr W ω (fun _ => False) H F p = none) : Rep ⟨J', fun l => if l < ω.length then W.loc l else p, W.n + 1⟩ F (ω ++ [some c]) H' := by
  have R' := fr_none R sj sH sf dj
  have cas : ∀ {l : Nat} {c' : Cell}, (ω ++ [some c])[l]? = some (some c') → (l < ω.length ∧ ω[l]? = some (some c')) ∨ (l = ω.length ∧ c' = c) := fun {l c'} e => by
    by_cases h : l < ω.length
    · rw [List.getElem?_append_left h] at e
      exact .inl ⟨h, e⟩
    · rw [List.getElem?_append_right (by omega)] at e
      have hl := (List.getElem?_eq_some_iff.mp e).1
      have h1 : ([some c] : Om).length = 1 := rfl
      have h0 : l = ω.length := by omega
      subst h0
      rw [Nat.sub_self] at e
      exact .inr ⟨rfl, (Option.some.inj (Option.some.inj e)).symm⟩
  have np : ∀ (l : Nat) c', ω[l]? = some (some c') → c'.own = true → W.loc l ≠ p := fun l c' e ho z => by
    obtain ⟨o, hu⟩ := (R.cell l c' e).there ho
    have := fr_oth (keep := fun _ => False) R e ho id
    rw [z, h2] at this
    rw [z, ← this] at hu
    cases hu
  refine ⟨by rw [List.length_append]; show W.n + 1 = _; rw [R.n]; rfl, R'.sj, R'.sf, R'.dj, fun l c' e => ?_, fun l c' e h => ?_, fun l l' c1 c2 e1 e2 q1 q2 z => ?_⟩
  · show CellAt J' H' (if l < ω.length then W.loc l else p) c'
    rcases cas e with ⟨h, e'⟩ | ⟨rfl, rfl⟩
    · rw [if_pos h]
      exact R'.cell l c' e'
    · rw [if_neg (Nat.lt_irrefl _)]
      exact hc
  · show J' (if l < ω.length then W.loc l else p) = none ∧ F (if l < ω.length then W.loc l else p) = none
    rcases cas e with ⟨hl, e'⟩ | ⟨rfl, rfl⟩
    · rw [if_pos hl]
      exact R'.own l c' e' h
    · rw [if_neg (Nat.lt_irrefl _)]
      refine ⟨h1, ?_⟩
      cases q : F p with
      | none => rfl
      | some o =>
        rw [fr_sub R _ _ _ q] at h2
        cases h2
  · have z' : (if l < ω.length then W.loc l else p) = (if l' < ω.length then W.loc l' else p) := z
    rcases cas e1 with ⟨h, e1'⟩ | ⟨rfl, rfl⟩ <;> rcases cas e2 with ⟨h', e2'⟩ | ⟨rfl, rfl⟩
    · rw [if_pos h, if_pos h'] at z'
      exact R.inj l l' c1 c2 e1' e2' q1 q2 z'
    · rw [if_pos h, if_neg (Nat.lt_irrefl _)] at z'
      exact (np l c1 e1' q1 z').elim
    · rw [if_neg (Nat.lt_irrefl _), if_pos h'] at z'
      exact (np l' c2 e2' q2 z'.symm).elim
    · rfl
/-- a call that gets the cell b alone -/
theorem fr_some (R : Rep W F ω H) {b : Nat} {c0 c1 : Cell} (hb : ω[b]? = some (some c0)) (ho : c0.own = true) (ho1 : c1.own = true) {J' H' : Hp} (sj : Same W.J J') (sH : Same J' H') (sf : Same (fr W ω (· = b) H F) H') (dj : ∀ a o, fr W ω (· = b) H F a = some o → J' a = none)
    (hc : CellAt J' H' (W.loc b) c1) (h1 : J' (W.loc b) = none) : Rep ⟨J', W.loc, W.n⟩ F (ω.set b (some c1)) H' := by
  have hl : b < ω.length := (List.getElem?_eq_some_iff.mp hb).1
  have cas : ∀ {k : Nat} {c2 : Cell}, (ω.set b (some c1))[k]? = some (some c2) → (k ≠ b ∧ ω[k]? = some (some c2)) ∨ (k = b ∧ c2 = c1) := fun {k c2} e2 => by
    by_cases h : k = b
    · subst h
      rw [List.getElem?_set_self hl] at e2
      exact .inr ⟨rfl, (Option.some.inj (Option.some.inj e2)).symm⟩
    · rw [List.getElem?_set_ne (Ne.symm h)] at e2
      exact .inl ⟨h, e2⟩
  refine ⟨by rw [List.length_set]; exact R.n, sH, (fr_sub R _).trans sf, fun a o e => dj a o (fr_sub R _ a o e), fun l c e => ?_, fun l c e h => ?_, fun l l' d1 d2 e1 e2 q1 q2 z => ?_⟩
  · rcases cas e with ⟨h, e'⟩ | ⟨rfl, rfl⟩
    · exact fr_cell R sj sf e' h
    · exact hc
  · rcases cas e with ⟨h', e'⟩ | ⟨rfl, rfl⟩
    · exact fr_own R dj e' h h'
    · exact ⟨h1, (R.own l c0 hb ho).2⟩
  · rcases cas e1 with ⟨h, e1'⟩ | ⟨rfl, rfl⟩ <;> rcases cas e2 with ⟨h', e2'⟩ | ⟨rfl, rfl⟩
    · exact R.inj l l' d1 d2 e1' e2' q1 q2 z
    · exact R.inj l l' d1 c0 e1' hb q1 ho z
    · exact R.inj l l' c0 d2 hb e2' ho q2 z
    · rfl
end

/-! ### arguments -/
def isBox (ω : Om) : D → Bool
  | .dat _ => false
  | .raw _ => false
  | .ptr l => match ω[l]? with
    | some (some (.box _)) => true
    | _ => false
/-- what is handed on is data from then on, but for a box -/
def passArgs : Om → List D → Option (List D × Om)
  | ω, [] => some ([], ω)
  | ω, x :: r => match isBox ω x with
    | true => match passArgs ω r with
      | some (ds, ω') => some (x :: ds, ω')
      | none => none
    | false => match freeze ω x with
      | none => none
      | some (d, ω1) => match passArgs ω1 r with
        | some (ds, ω') => some (.dat d :: ds, ω')
        | none => none
theorem pass_ok {F H : Hp} : ∀ {ds : List D} {W : Wd} {ω : Om} {vs : List V} {ds' : List D} {ω' : Om}, Rep W F ω H → RVs W vs ds → passArgs ω ds = some (ds', ω') → ∃ W', Ext W W' ∧ Rep W' F ω' H ∧ RVs W' vs ds'
  | [], W, ω, vs, ds', ω', R, r, e => by
    obtain ⟨rfl, rfl⟩ := Prod.mk.inj (Option.some.inj e)
    exact ⟨W, Ext.refl W, R, r⟩
  | x :: ds, W, ω, vs, ds', ω', R, r, e => by
    cases r with
    | @cons v _ vs _ rx rr =>
      unfold passArgs at e
      cases hb : isBox ω x with
      | true =>
        rw [hb] at e
        cases hp : passArgs ω ds with
        | none =>
          rw [hp] at e
          cases e
        | some p =>
          rw [hp] at e
          obtain ⟨rfl, rfl⟩ := Prod.mk.inj (Option.some.inj e)
          obtain ⟨W', e1, R', r'⟩ := pass_ok R rr hp
          exact ⟨W', e1, R', .cons (rx.ext e1) r'⟩
      | false =>
        rw [hb] at e
        cases hf : freeze ω x with
        | none =>
          rw [hf] at e
          cases e
        | some q =>
          rw [hf] at e
          obtain ⟨d, ω1⟩ := q
          have e' : (match passArgs ω1 ds with
            | some (ds, ω') => some (.dat d :: ds, ω')
            | none => none) = some (ds', ω') := e
          obtain ⟨W1, e1, R1, r1⟩ := R.freeze rx hf
          cases hp : passArgs ω1 ds with
          | none =>
            rw [hp] at e'
            cases e'
          | some p =>
            rw [hp] at e'
            obtain ⟨rfl, rfl⟩ := Prod.mk.inj (Option.some.inj e')
            obtain ⟨W', e2, R', r'⟩ := pass_ok R1 (RVs.ext e1 rr) hp
            exact ⟨W', e1.trans e2, R', .cons (RD.mono e2.j d r1) r'⟩
def boxOf : List D → Option Nat
  | [] => none
  | .ptr l :: _ => some l
  | .dat _ :: r => boxOf r
  | .raw _ :: _ => some 0
def unbox : D → D
  | .ptr _ => .ptr 0
  | .dat d => .dat d
  | .raw v => .raw v
def okB (b : Nat) : List D → Bool
  | [] => true
  | .ptr l :: r => decide (l = b) && okB b r
  | .dat _ :: r => okB b r
  | .raw _ :: _ => false
theorem dats_of {W : Wd} : ∀ {ds : List D} {vs : List V}, boxOf ds = none → RVs W vs ds → ∀ W' : Wd, W'.J = W.J → RVs W' vs ds
  | [], _, _, .nil, _, _ => .nil
  | .dat d :: ds, _, h, .cons r t, W', e => .cons (by show RD W'.J _ d; rw [e]; exact r) (dats_of (ds := ds) h t W' e)
theorem unbox_ok {W : Wd} {b : Nat} : ∀ {ds : List D} {vs : List V}, okB b ds = true → RVs W vs ds → RVs ⟨W.J, fun _ => W.loc b, 1⟩ vs (ds.map unbox)
  | [], _, _, .nil => .nil
  | .dat d :: ds, _, h, .cons r t => .cons r (unbox_ok (ds := ds) h t)
  | .ptr l :: ds, _, h, .cons r t => by
    have h' : (decide (l = b) && okB b ds) = true := h
    rw [Bool.and_eq_true, decide_eq_true_eq] at h'
    refine .cons ⟨Nat.zero_lt_one, ?_⟩ (unbox_ok (ds := ds) h'.2 t)
    rw [← h'.1]
    exact r.2

/-! ### promises over data -/
abbrev Dsp := List D → Om → DK → Prop
def spD (dsp : Dsp) : Sp := fun vs H R _ => ∃ W F ω ds Q, Rep W F ω H ∧ RVs W vs ds ∧ dsp ds ω Q ∧ Cont W F Q R
/-- what the caller sees of the def's end, where it gave no cell, where it gave the box b -/
def backN (ω : Om) (Q : DK) : DK := fun d ω' => match ω', d with
  | [], .dat x => Q (.dat x) ω
  | [some c], .ptr 0 => c.own = true ∧ Q (.ptr ω.length) (ω ++ [some c])
  | _, _ => False
def backB (b : Nat) (ω : Om) (Q : DK) : DK := fun d ω' => match ω', d with
  | [some (.box n)], .dat x => Q (.dat x) (ω.set b (some (.box n)))
  | [some (.box n), some c], .ptr 1 => c.own = true ∧ Q (.ptr ω.length) (ω.set b (some (.box n)) ++ [some c])
  | _, _ => False
def callK (dsp : Dsp) (ds : List D) (ω : Om) (Q : DK) : Prop := match boxOf ds with
  | none => dsp ds [] (backN ω Q)
  | some b => okB b ds = true ∧ ∃ n, ω[b]? = some (some (.box n)) ∧ dsp (ds.map unbox) [some (.box n)] (backB b ω Q)
theorem call_frame {dsp : Dsp} {W : Wd} {F : Hp} {ω : Om} {H : Hp} {vs : List V} {ds : List D} {Q : DK} {R : VK} {E : XK} (rp : Rep W F ω H) (rs : RVs W vs ds) (h : callK dsp ds ω Q) (q : Cont W F Q R) : spD dsp vs H R E := by
  unfold callK at h
  split at h
  · rename_i hb
    refine ⟨⟨W.J, W.loc, 0⟩, fr W ω (fun _ => False) H F, [], ds, _, ⟨rfl, rp.sj, fr_sf rp _, fr_dj rp _, fun l c e => by simp at e, fun l c e _ => by simp at e, fun l _ c _ e _ _ _ _ => by simp at e⟩, dats_of hb rs _ rfl, h, ?_⟩
    intro W' ω' d v H' e rp' r hk
    unfold backN at hk
    split at hk
    · rename_i x
      refine q ⟨W'.J, W.loc, W.n⟩ ω (.dat x) v H' ⟨e.j, Nat.le_refl _, fun _ _ => rfl⟩ (fr_none rp e.j rp'.sj rp'.sf rp'.dj) r hk
    · rename_i c
      obtain ⟨ho, hk⟩ := hk
      have hc := rp'.cell 0 c rfl
      obtain ⟨w1, w2⟩ := rp'.own 0 c rfl ho
      refine q ⟨W'.J, fun l => if l < ω.length then W.loc l else W'.loc 0, W.n + 1⟩ _ (.ptr ω.length) v H' ⟨e.j, Nat.le_succ _, fun l hl => if_pos (by rw [← rp.n]; exact hl)⟩ (fr_none1 rp e.j rp'.sj rp'.sf rp'.dj hc w1 w2) ⟨?_, ?_⟩ hk
      · show ω.length < W.n + 1
        rw [rp.n]
        exact Nat.lt_succ_self _
      · show v = .ref (if ω.length < ω.length then W.loc ω.length else W'.loc 0)
        rw [if_neg (Nat.lt_irrefl _)]
        exact r.2
    · exact hk.elim
  · rename_i b hb
    obtain ⟨ok, n, eb, h⟩ := h
    have hbl : b < ω.length := (List.getElem?_eq_some_iff.mp eb).1
    obtain ⟨o1, o2⟩ := rp.own b _ eb rfl
    refine ⟨⟨W.J, fun _ => W.loc b, 1⟩, fr W ω (· = b) H F, [some (.box n)], ds.map unbox, _, ⟨rfl, rp.sj, fr_sf rp _, fr_dj rp _, fun l c e => ?_, fun l c e _ => ⟨o1, fr_keep rp eb rfl rfl⟩, fun l l' c c' e e' _ _ _ => ?_⟩, unbox_ok ok rs, h, ?_⟩
    · have hl := (List.getElem?_eq_some_iff.mp e).1
      have h1 : ([some (Cell.box n)] : Om).length = 1 := rfl
      have h0 : l = 0 := by omega
      subst h0
      cases Option.some.inj (Option.some.inj e)
      exact rp.cell b _ eb
    · have hl := (List.getElem?_eq_some_iff.mp e).1
      have hl' := (List.getElem?_eq_some_iff.mp e').1
      have h1 : ([some (Cell.box n)] : Om).length = 1 := rfl
      omega
    intro W' ω' d v H' e rp' r hk
    have l0 : W'.loc 0 = W.loc b := e.loc 0 Nat.zero_lt_one
    unfold backB at hk
    split at hk
    · rename_i n' x
      have hc := rp'.cell 0 _ rfl
      obtain ⟨w1, w2⟩ := rp'.own 0 _ rfl rfl
      rw [l0] at hc w1
      exact q ⟨W'.J, W.loc, W.n⟩ _ (.dat x) v H' ⟨e.j, Nat.le_refl _, fun _ _ => rfl⟩ (fr_some rp eb rfl rfl e.j rp'.sj rp'.sf rp'.dj hc w1) r hk
    · rename_i n' c
      obtain ⟨ho, hk⟩ := hk
      have hc := rp'.cell 0 _ rfl
      obtain ⟨w1, w2⟩ := rp'.own 0 _ rfl rfl
      rw [l0] at hc w1
      have R1 := fr_some rp eb rfl rfl e.j rp'.sj rp'.sf rp'.dj hc w1
      have hc2 := rp'.cell 1 c rfl
      obtain ⟨y1, y2⟩ := rp'.own 1 c rfl ho
      have ne0 : W'.loc 1 ≠ W.loc b := fun z => by
        have := rp'.inj 1 0 c _ rfl rfl ho rfl (by rw [l0]; exact z)
        cases this
      have cas : ∀ {l : Nat} {c' : Cell}, (ω.set b (some (.box n')) ++ [some c])[l]? = some (some c') → (l < ω.length ∧ (ω.set b (some (.box n')))[l]? = some (some c')) ∨ (l = ω.length ∧ c' = c) := fun {l c'} e => by
        by_cases h : l < ω.length
        · rw [List.getElem?_append_left (by rw [List.length_set]; exact h)] at e
          exact .inl ⟨h, e⟩
        · rw [List.getElem?_append_right (by rw [List.length_set]; omega), List.length_set] at e
          have hl := (List.getElem?_eq_some_iff.mp e).1
          have h1 : ([some c] : Om).length = 1 := rfl
          have h0 : l = ω.length := by omega
          subst h0
          rw [Nat.sub_self] at e
          exact .inr ⟨rfl, (Option.some.inj (Option.some.inj e)).symm⟩
      have np : ∀ (l : Nat) c', (ω.set b (some (.box n')))[l]? = some (some c') → c'.own = true → W.loc l ≠ W'.loc 1 := fun l c' e1 hw z => by
        by_cases hlb : l = b
        · rw [hlb] at z
          exact ne0 z.symm
        · rw [List.getElem?_set_ne (Ne.symm hlb)] at e1
          obtain ⟨o, hu⟩ := (rp.cell l c' e1).there hw
          have := fr_oth (keep := (· = b)) rp e1 hw hlb
          rw [z, y2] at this
          rw [z, ← this] at hu
          cases hu
      refine q ⟨W'.J, fun l => if l < ω.length then W.loc l else W'.loc 1, W.n + 1⟩ _ (.ptr ω.length) v H' ⟨e.j, Nat.le_succ _, fun l hl => if_pos (by rw [← rp.n]; exact hl)⟩ ⟨?_, R1.sj, R1.sf, R1.dj, fun l c' e1 => ?_, fun l c' e1 h1 => ?_, fun l l' d1 d2 e1 e2 q1 q2 z => ?_⟩ ⟨?_, ?_⟩ hk
      · rw [List.length_append, List.length_set]
        show W.n + 1 = _
        rw [rp.n]
        rfl
      · show CellAt W'.J H' (if l < ω.length then W.loc l else W'.loc 1) c'
        rcases cas e1 with ⟨h, e1'⟩ | ⟨rfl, rfl⟩
        · rw [if_pos h]
          exact R1.cell l c' e1'
        · rw [if_neg (Nat.lt_irrefl _)]
          exact hc2
      · show W'.J (if l < ω.length then W.loc l else W'.loc 1) = none ∧ F (if l < ω.length then W.loc l else W'.loc 1) = none
        rcases cas e1 with ⟨h, e1'⟩ | ⟨rfl, rfl⟩
        · rw [if_pos h]
          exact R1.own l c' e1' h1
        · rw [if_neg (Nat.lt_irrefl _)]
          refine ⟨y1, ?_⟩
          cases z : F (W'.loc 1) with
          | none => rfl
          | some o =>
            rw [fr_sub rp _ _ _ z] at y2
            cases y2
      · have z' : (if l < ω.length then W.loc l else W'.loc 1) = (if l' < ω.length then W.loc l' else W'.loc 1) := z
        rcases cas e1 with ⟨h, e1'⟩ | ⟨rfl, rfl⟩ <;> rcases cas e2 with ⟨h', e2'⟩ | ⟨rfl, rfl⟩
        · rw [if_pos h, if_pos h'] at z'
          exact R1.inj l l' d1 d2 e1' e2' q1 q2 z'
        · rw [if_pos h, if_neg (Nat.lt_irrefl _)] at z'
          exact (np l d1 e1' q1 z').elim
        · rw [if_neg (Nat.lt_irrefl _), if_pos h'] at z'
          exact (np l' d2 e2' q2 z'.symm).elim
        · rfl
      · show ω.length < W.n + 1
        rw [rp.n]
        exact Nat.lt_succ_self _
      · show v = .ref (if ω.length < ω.length then W.loc ω.length else W'.loc 1)
        rw [if_neg (Nat.lt_irrefl _)]
        exact r.2
    · exact hk.elim
end Dl
set_option Elab.async false
set_option linter.all false
set_option maxRecDepth 100000
set_option maxHeartbeats 2000000
/-! D3: bodies of defs, calls, fields, loops, comprehensions. -/
namespace Dl
open PySem PySem.Spec PyProof.Rows L2 G

/-! ### a def's body -/
def startD (N : List Str) (ds : List D) : Rho := ds.map some ++ List.replicate (N.length - ds.length) none
def fnEnds (k : Nat) (Q : DK) : DEnds where
  nx := fun _ ω => Q (.dat .non) (ω.take k)
  rt := fun d ω => (∃ x ω', freeze ω d = some (x, ω') ∧ Q (.dat x) (ω'.take k)) ∨ ∃ m c, d = .ptr m ∧ k ≤ m ∧ ω[m]? = some (some c) ∧ c.own = true ∧ Q (.ptr k) (ω.take k ++ [some c])
theorem start_sl {W : Wd} {N : List Str} {vs : List V} {ds : List D} (r : RVs W vs ds) : SL W (L2.start N vs) (startD N ds) := by
  have hl := Paired.length r
  refine ⟨by simp [L2.start, startD, hl], fun i d e => ?_⟩
  unfold startD at e
  unfold L2.start
  by_cases h : i < ds.length
  · rw [List.getElem?_append_left (by rw [List.length_map]; exact h), List.getElem?_map] at e
    rw [List.getElem?_append_left (by rw [List.length_map, hl]; exact h), List.getElem?_map]
    cases q : ds[i]? with
    | none =>
      rw [q] at e
      cases e
    | some d0 =>
      rw [q] at e
      cases Option.some.inj (Option.some.inj e)
      have go : ∀ {vs : List V} {ds : List D} {i : Nat}, RVs W vs ds → ds[i]? = some d → ∃ v, vs[i]? = some v ∧ RV W v d := by
        intro vs ds i r
        induction r generalizing i with
        | nil =>
          intro e
          simp at e
        | cons a _ ih =>
          intro e
          cases i with
          | zero =>
            cases Option.some.inj e
            exact ⟨_, rfl, a⟩
          | succ j => exact ih (by simpa using e)
      obtain ⟨v, h1, h2⟩ := go r q
      exact ⟨v, by rw [h1]; rfl, h2⟩
  · rw [List.getElem?_append_right (by rw [List.length_map]; omega), List.getElem?_replicate] at e
    split at e
    · cases Option.some.inj e
    · cases e
theorem ends_ok {W : Wd} {F : Hp} {ω : Om} {H : Hp} {Q : DK} {R : VK} (rp : Rep W F ω H) (q : Cont W F Q R) : Lift W F (fnEnds ω.length Q) { nx := fun _ H' => R .non H', rt := R } := by
  refine ⟨fun W' ρ ω' σ H' e _ rp' h => ?_, fun W' d ω' v H' e rp' r h => ?_, fun _ _ _ _ _ _ _ _ h => h, fun _ _ _ _ _ _ _ _ h => h⟩
  · have hk : ω.length ≤ ω'.length := by
      rw [← rp.n, ← rp'.n]
      exact e.n
    exact q ⟨W'.J, W'.loc, ω.length⟩ _ (.dat .non) _ H' ⟨e.j, by rw [rp.n]; exact Nat.le_refl _, e.loc⟩ (rp'.cut hk) RD.non h
  · have hk : ω.length ≤ ω'.length := by
      rw [← rp.n, ← rp'.n]
      exact e.n
    rcases h with ⟨x, ω2, hf, h⟩ | ⟨m, c, rfl, hm, ec, ho, h⟩
    · obtain ⟨W2, e2, rp2, r2⟩ := rp'.freeze r hf
      have hk2 : ω.length ≤ ω2.length := by
        rw [← rp.n, ← rp2.n]
        exact (e.trans e2).n
      exact q ⟨W2.J, W2.loc, ω.length⟩ _ (.dat x) _ H' ⟨(e.trans e2).j, by rw [rp.n]; exact Nat.le_refl _, (e.trans e2).loc⟩ (rp2.cut hk2) r2 h
    · refine q ⟨W'.J, fun l => if l < ω.length then W'.loc l else W'.loc m, ω.length + 1⟩ _ (.ptr ω.length) _ H' ⟨e.j, by rw [rp.n]; exact Nat.le_succ _, fun l hl => ?_⟩ (rp'.cut1 hm ec ho) ⟨Nat.lt_succ_self _, ?_⟩ h
      · show (if l < ω.length then W'.loc l else W'.loc m) = _
        rw [if_pos (by rw [← rp.n]; exact hl)]
        exact e.loc l hl
      · show v = .ref (if ω.length < ω.length then W'.loc ω.length else W'.loc m)
        rw [if_neg (Nat.lt_irrefl _)]
        exact r.2
section
variable {P : Program} {w : World} {K : PySem.W.Frag} {mg : Str → Option Value} {base : Heap}
theorem fnd_ok {x qual : Str} {st : Stmt} {f : Addr} {fd : FuncData} {N ps : List Str} {k : Nat} {dsp : Dsp} (F : Fun K x qual st f fd) (S : FnScope N ps (defScope st)) (len : ∀ ds ω Q, dsp ds ω Q → ds.length = ps.length)
    (body : ∀ (cdv : Value) (A : Around) (outer : List Env) (s : Shared) (H : Hp) (E : XK), Room k (A.deeper (envOfC qual (defScope st) s.heap.objs.size f cdv)) →
      ∃ t, DSs (cxOf CX0 P w K mg base N qual (defScope st) f cdv A outer s H E).nox (defBody st) t ∧ ∀ ds ω Q, dsp ds ω Q → t (fnEnds ω.length Q) (startD N ds) ω) : FnOk P w K mg base CX0 (k + 1) f fd ps (spD dsp) := by
  refine F.ok S (fun vs H R E h => ?_) (fun cdv A outer s H vs R E hr h => ?_)
  · obtain ⟨W, F', ω, ds, Q, _, r, h1, _⟩ := h
    rw [Paired.length r]
    exact len ds ω Q h1
  · obtain ⟨W, F', ω, ds, Q, rp, r, h1, q⟩ := h
    obtain ⟨t, ht, hb⟩ := body cdv A outer s H E hr
    obtain ⟨t', p, sm⟩ := ht.ex
    exact ⟨t', p, sm W F' _ ω _ H _ _ (start_sl r) rp (hb ds ω Q h1) (ends_ok rp q)⟩
theorem fndG_ok {x qual : Str} {st : Stmt} {f : Addr} {fd : FuncData} {N ps : List Str} {k : Nat} {dsp : Dsp} (F : Fun K x qual st f fd) (S : FnScope N ps (defScope st)) (len : ∀ ds ω Q, dsp ds ω Q → ds.length = ps.length)
    (body : ∀ (cdv : Value) (A : Around) (outer : List Env) (s : Shared) (H : Hp) (E : XK), (A.deeper (envOfC qual (defScope st) s.heap.objs.size f cdv)).guards = some [] → Room k (A.deeper (envOfC qual (defScope st) s.heap.objs.size f cdv)) →
      ∃ t, DSs (cxOf CX0 P w K mg base N qual (defScope st) f cdv A outer s H E).nox (defBody st) t ∧ ∀ ds ω Q, dsp ds ω Q → t (fnEnds ω.length Q) (startD N ds) ω) : FnG P w K mg base CX0 (k + 1) f fd ps (spD dsp) := by
  refine FnG.of_body F S (fun vs H R E h => ?_) (fun cdv A outer s H vs R E hg hr h => ?_)
  · obtain ⟨W, F', ω, ds, Q, _, r, h1, _⟩ := h
    rw [Paired.length r]
    exact len ds ω Q h1
  · obtain ⟨W, F', ω, ds, Q, rp, r, h1, q⟩ := h
    obtain ⟨t, ht, hb⟩ := body cdv A outer s H E hg hr
    obtain ⟨t', p, sm⟩ := ht.ex
    exact ⟨t', p, sm W F' _ ω _ H _ _ (start_sl r) rp (hb ds ω Q h1) (ends_ok rp q)⟩
end

/-! ### calls -/
section
variable {ι : Type} {X : ι → Cx} {k : Nat} {f C : Addr} {fd : FuncData} {ps : List Str} {dsp : Dsp} {x m : Str} {p pos apos : Pos} {e o : Expr} {es : List Expr} {we : WE} {ws : WA}
/-- the arguments are handed on -/
def wPass (dsp : Dsp) (ds : List D) (ω : Om) (Q : DK) : Prop := ∃ ds' ω', passArgs ω ds = some (ds', ω') ∧ callK dsp ds' ω' Q
theorem pass_sp {W : Wd} {F : Hp} {ω : Om} {H : Hp} {vs : List V} {ds : List D} {Q : DK} {R : VK} {E : XK} (rp : Rep W F ω H) (rs : RVs W vs ds) (h : wPass dsp ds ω Q) (q : Cont W F Q R) : spD dsp vs H R E := by
  obtain ⟨ds', ω', h1, h2⟩ := h
  obtain ⟨W', e, rp', r'⟩ := pass_ok rp rs h1
  exact call_frame rp' r' h2 (q.ext e)
def wCall (dsp : Dsp) (ws : WA) : WE := fun ρ ω Q => ws ρ ω fun ds ω1 => wPass dsp ds ω1 Q
theorem de_call (F : ∀ i, FnOk (X i).prog (X i).w (X i).K (X i).mg (X i).base CX0 k f fd ps (spD dsp)) (hr : ∀ i, Room k (X i).A) (hm : ∀ i, (X i).mg x = some (.ref f)) (hk : ∀ i, PySem.W.keepIn (X i).K (.ref f) = true) (hb : ∀ i, Binds (X i).K fd ps [])
    (ha : DA X (e :: es) ws) (hg : ∀ i, Gl (X i) x := by intro _; rfl) (hdb : (x == ("__debug__" : Str)) = false := by decide) (he : ∀ i, starEach (e :: es) (X i).env = (false, eval e (X i).env) :: starEach es (X i).env := by intro _; rfl)
    (hpl : ∀ i, (backTo pos (starEach es (X i).env)).any (·.1) = false := by intro _; rfl) : DE X (.Call (.Name x p) (e :: es) [] pos) (wCall dsp ws) := by
  obtain ⟨t, pa, q⟩ := ha.ex
  refine ⟨tCall (spD dsp) [] E0 t, fun i => pe_call (F i) (hr i) (hg i) (hm i) (hk i) (hb i) .nil pass0 (pa i) hdb (he i) (hpl i), fun W F' ρ ω σ H Q R s rp h c => ?_⟩
  refine q W F' ρ ω σ H _ _ s rp h fun W1 ω1 ds vs H1 e1 rp1 r1 h1 => ?_
  rw [List.append_nil]
  exact pass_sp rp1 r1 h1 (c.ext e1)
theorem de_callG (F : ∀ i, FnG (X i).prog (X i).w (X i).K (X i).mg (X i).base CX0 k f fd ps (spD dsp)) (hgd : ∀ i, (X i).A.guards = some []) (hr : ∀ i, Room k (X i).A) (hm : ∀ i, (X i).mg x = some (.ref f)) (hk : ∀ i, PySem.W.keepIn (X i).K (.ref f) = true) (hb : ∀ i, Binds (X i).K fd ps [])
    (ha : DA X (e :: es) ws) (hg : ∀ i, Gl (X i) x := by intro _; rfl) (hdb : (x == ("__debug__" : Str)) = false := by decide) (he : ∀ i, starEach (e :: es) (X i).env = (false, eval e (X i).env) :: starEach es (X i).env := by intro _; rfl)
    (hpl : ∀ i, (backTo pos (starEach es (X i).env)).any (·.1) = false := by intro _; rfl) : DE X (.Call (.Name x p) (e :: es) [] pos) (wCall dsp ws) := by
  obtain ⟨t, pa, q⟩ := ha.ex
  refine ⟨tCall (spD dsp) [] E0 t, fun i => pe_callG (F i) (hgd i) (hr i) (hg i) (hm i) (hk i) (hb i) .nil pass0 (pa i) hdb (he i) (hpl i), fun W F' ρ ω σ H Q R s rp h c => ?_⟩
  refine q W F' ρ ω σ H _ _ s rp h fun W1 ω1 ds vs H1 e1 rp1 r1 h1 => ?_
  rw [List.append_nil]
  exact pass_sp rp1 r1 h1 (c.ext e1)
/-- a method of an object that is data -/
def wMeth (C : Addr) (m : Str) (dsp : Dsp) (wo : WE) (ws : WA) : WE := fun ρ ω Q => wo ρ ω fun d ω1 => ∃ ns xs, d = .dat (.obj C ns xs) ∧ ns.contains m = false ∧ ws ρ ω1 fun ds ω2 => wPass dsp (d :: ds) ω2 Q
theorem lookup_none {m : Str} : ∀ {fs : List (Str × V)}, (fs.map (·.1)).contains m = false → fs.lookup m = none
  | [], _ => rfl
  | (n, v) :: fs, h => by
    simp only [List.map_cons, List.contains_cons, Bool.or_eq_false_iff] at h
    rw [List.lookup_cons, h.1]
    exact lookup_none h.2
theorem obj_inv {J : Hp} {v : V} {C : Addr} {ns : List Str} {xs : List Dt} (h : RD J v (.obj C ns xs)) : ∃ a dx fs, v = .ref a ∧ J a = some (.ins C dx fs) ∧ fs.map (·.1) = ns ∧ RDs J (fs.map (·.2)) xs := by
  cases h with
  | obj e k r => exact ⟨_, _, _, rfl, e, k, r⟩
theorem de_meth {wo : WE} {pl : ι → Sem Bool} (ho : DE X o wo) (hc : ∀ i, Cls (X i).K C) (hm : ∀ i, Meth (X i).K C m f) (F : ∀ i, FnOk (X i).prog (X i).w (X i).K (X i).mg (X i).base CX0 k f fd ps (spD dsp)) (hr : ∀ i, Room k (X i).A) (hb : ∀ i, Binds (X i).K fd ps [])
    (ha : DA X (e :: es) ws) (he : ∀ i, starEach (e :: es) (X i).env = (false, eval e (X i).env) :: starEach es (X i).env := by intro _; rfl) (hpl : ∀ i, (backTo pos (starEach es (X i).env)).any (·.1) = false := by intro _; rfl)
    (ht : ∀ i, eval (.Call (.Attribute o m apos) (e :: es) [] pos) (X i).env = (do
      let ov ← eval o (X i).env
      standAt apos.atName
      let (f, first) ← holding [ov] (getMethod ov m (pl i))
      callWith pos f first (backTo pos (starEach (e :: es) (X i).env)) (backToKw pos (keywordEach [] (X i).env))) := by intro _; rfl) : DE X (.Call (.Attribute o m apos) (e :: es) [] pos) (wMeth C m dsp wo ws) := by
  obtain ⟨to, po, qo⟩ := ho.ex
  obtain ⟨t, pa, q⟩ := ha.ex
  refine ⟨tMeth C m (spD dsp) [] E0 to t, fun i => pe_meth (po i) (hc i) (hm i) (F i) (hr i) (hb i) .nil pass0 (pa i) (he i) (hpl i) (ht i), fun W F' ρ ω σ H Q R s rp h c => ?_⟩
  refine qo W F' ρ ω σ H _ _ s rp h fun W1 ω1 d v H1 e1 rp1 r1 h1 => ?_
  obtain ⟨ns, xs, rfl, hn, h1⟩ := h1
  obtain ⟨a, dx, fs, rfl, ea, k1, _⟩ := obj_inv r1
  refine ⟨a, dx, fs, rfl, rp1.sj _ _ ea, lookup_none (by rw [k1]; exact hn), ?_⟩
  refine q W1 F' ρ ω1 σ H1 _ _ (s.ext e1) rp1 h1 fun W2 ω2 ds vs H2 e2 rp2 r2 h2 => ?_
  rw [List.append_nil]
  exact pass_sp rp2 (.cons (RV.ext e2 r1) r2) h2 (c.ext (e1.trans e2))
theorem de_meth0 {wo : WE} {pl : ι → Sem Bool} (ho : DE X o wo) (hc : ∀ i, Cls (X i).K C) (hm : ∀ i, Meth (X i).K C m f) (F : ∀ i, FnOk (X i).prog (X i).w (X i).K (X i).mg (X i).base CX0 k f fd ps (spD dsp)) (hr : ∀ i, Room k (X i).A) (hb : ∀ i, Binds (X i).K fd ps [])
    (ht : ∀ i, eval (.Call (.Attribute o m apos) [] [] pos) (X i).env = (do
      let ov ← eval o (X i).env
      standAt apos.atName
      let (f, first) ← holding [ov] (getMethod ov m (pl i))
      callWith pos f first (backTo pos (starEach [] (X i).env)) (backToKw pos (keywordEach [] (X i).env))) := by intro _; rfl) : DE X (.Call (.Attribute o m apos) [] [] pos) (wMeth C m dsp wo waNil) := by
  obtain ⟨to, po, qo⟩ := ho.ex
  refine ⟨tMeth C m (spD dsp) [] E0 to tNil, fun i => pe_meth0 (po i) (hc i) (hm i) (F i) (hr i) (hb i) .nil pass0 (ht i), fun W F' ρ ω σ H Q R s rp h c => ?_⟩
  refine qo W F' ρ ω σ H _ _ s rp h fun W1 ω1 d v H1 e1 rp1 r1 h1 => ?_
  obtain ⟨ns, xs, rfl, hn, h1⟩ := h1
  obtain ⟨a, dx, fs, rfl, ea, k1, _⟩ := obj_inv r1
  refine ⟨a, dx, fs, rfl, rp1.sj _ _ ea, lookup_none (by rw [k1]; exact hn), ?_⟩
  exact pass_sp (E := E0) (vs := [.ref a]) rp1 (.cons r1 .nil) h1 (c.ext e1)
/-- C(..), C's __init__ over data: it gets the new instance as the cell 0 -/
def wMake (C : Addr) (dsp : Dsp) (ws : WA) : WE := fun ρ ω Q => ws ρ ω fun ds ω1 => ∃ ds' ω2, passArgs ω1 ds = some (ds', ω2) ∧ boxOf ds' = none ∧
  dsp (.ptr 0 :: ds') [some (.ins C [] [])] fun d ω' => d = .dat .non ∧ ∃ ns xs, ω' = [some (.ins C ns xs)] ∧ Q (.dat (.obj C ns xs)) ω2
theorem make_sp {W : Wd} {F : Hp} {ω : Om} {H : Hp} {vs : List V} {ds : List D} {Q : DK} {R : VK} {E : XK} {C a dx : Addr} (rp : Rep W F ω H) (rs : RVs W vs ds) (hb : boxOf ds = none)
    (h : dsp (.ptr 0 :: ds) [some (.ins C [] [])] fun d ω' => d = .dat .non ∧ ∃ ns xs, ω' = [some (.ins C ns xs)] ∧ Q (.dat (.obj C ns xs)) ω) (q : Cont W F Q R) (ha : H a = none) (hdx : H dx = none) (hne : dx ≠ a) :
    spD dsp (.ref a :: vs) (upd (upd H dx (.own a)) a (.ins C dx [])) (fun v H2 => v = .non ∧ R (.ref a) H2) E := by
  obtain ⟨e1, rp1⟩ := rp.laid (o := .own a) hdx
  have ha1 : upd H dx (.own a) a = none := by rw [upd_ne hne.symm]; exact ha
  have hc : CellAt (upd W.J dx (.own a)) (upd (upd H dx (.own a)) a (.ins C dx [])) a (.ins C [] []) := ⟨dx, [], upd_same, rfl, .nil⟩
  have ja : upd W.J dx (.own a) a = none := rp1.sj.free ha1
  -- the other cells and what stood
  have sm : Same (upd H dx (.own a)) (upd (upd H dx (.own a)) a (.ins C dx [])) := fun b o z => by
    rw [upd_ne (ne_of_none z ha1)]
    exact z
  refine ⟨⟨upd W.J dx (.own a), fun _ => a, 1⟩, fr ⟨upd W.J dx (.own a), W.loc, W.n⟩ ω (fun _ => False) (upd H dx (.own a)) F, [some (.ins C [] [])], .ptr 0 :: ds, _, ⟨rfl, rp1.sj.trans sm, (fr_sf rp1 _).trans sm, fr_dj rp1 _, fun l c z => ?_, fun l c z _ => ⟨ja, (fr_sf rp1 _).free ha1⟩, fun l l' c c' z z' _ _ _ => ?_⟩, .cons ⟨Nat.zero_lt_one, rfl⟩ ?_, h, ?_⟩
  · have hl := (List.getElem?_eq_some_iff.mp z).1
    have h1 : ([some (Cell.ins C [] [])] : Om).length = 1 := rfl
    have h0 : l = 0 := by omega
    subst h0
    cases Option.some.inj (Option.some.inj z)
    exact hc
  · have hl := (List.getElem?_eq_some_iff.mp z).1
    have hl' := (List.getElem?_eq_some_iff.mp z').1
    have h1 : ([some (Cell.ins C [] [])] : Om).length = 1 := rfl
    omega
  · exact dats_of hb (RVs.ext e1 rs) ⟨upd W.J dx (.own a), fun _ => a, 1⟩ rfl
  · intro W' ω' d v H' e rp' r hk
    obtain ⟨rfl, ns, xs, rfl, hk⟩ := hk
    cases r
    refine ⟨rfl, ?_⟩
    have l0 : W'.loc 0 = a := e.loc 0 Nat.zero_lt_one
    -- the instance becomes data
    obtain ⟨W2, e2, rp2, r2⟩ := rp'.freeze (x := .ptr 0) (v := .ref a) (d := .obj C ns xs) (ω' := [some (.fz (.obj C ns xs))]) ⟨by rw [rp'.n]; exact Nat.zero_lt_one, by rw [l0]⟩ rfl
    exact q ⟨W2.J, W.loc, W.n⟩ ω (.dat (.obj C ns xs)) (.ref a) H' ⟨e1.j.trans (e.j.trans e2.j), Nat.le_refl _, fun _ _ => rfl⟩ (fr_none rp1 (e.j.trans e2.j) rp2.sj rp2.sf rp2.dj) r2 hk
theorem de_make (M : ∀ i, Mk (X i).K C f) (F : ∀ i, FnOk (X i).prog (X i).w (X i).K (X i).mg (X i).base CX0 k f fd ps (spD dsp)) (hr : ∀ i, Room (k + 1) (X i).A) (hm : ∀ i, (X i).mg x = some (.ref C)) (hb : ∀ i, Binds (X i).K fd ps [])
    (ha : DA X (e :: es) ws) (hg : ∀ i, Gl (X i) x := by intro _; rfl) (hdb : (x == ("__debug__" : Str)) = false := by decide) (he : ∀ i, starEach (e :: es) (X i).env = (false, eval e (X i).env) :: starEach es (X i).env := by intro _; rfl)
    (hpl : ∀ i, (backTo pos (starEach es (X i).env)).any (·.1) = false := by intro _; rfl) : DE X (.Call (.Name x p) (e :: es) [] pos) (wMake C dsp ws) := by
  obtain ⟨t, pa, q⟩ := ha.ex
  refine ⟨tMake C (spD dsp) [] E0 t, fun i => pe_make (M i) (F i) (hr i) (hg i) (hm i) (hb i) .nil pass0 (pa i) hdb (he i) (hpl i), fun W F' ρ ω σ H Q R s rp h c => ?_⟩
  refine q W F' ρ ω σ H _ _ s rp h fun W1 ω1 ds vs H1 e1 rp1 r1 h1 a dx n1 n2 n3 => ?_
  obtain ⟨ds', ω2, h2, h3, h4⟩ := h1
  obtain ⟨W2, e2, rp2, r2⟩ := pass_ok rp1 r1 h2
  rw [List.append_nil]
  exact make_sp rp2 r2 h3 h4 (c.ext (e1.trans e2)) n1 n2 n3
/-! ### fields -/
def getF : List Str → List Dt → Str → Option Dt
  | n :: ns, x :: xs, f => match f == n with
    | true => some x
    | false => getF ns xs f
  | _, _, _ => none
/-- a field of an object that is data -/
def wFld (C : Addr) (wo : WE) (f : Str) : WE := fun ρ ω Q => wo ρ ω fun d ω1 => ∃ ns xs x, view ω1 d = some (.obj C ns xs) ∧ getF ns xs f = some x ∧ Q (.dat x) ω1
theorem getF_ok {J : Hp} {f : Str} {x : Dt} : ∀ {fs : List (Str × V)} {xs : List Dt}, RDs J (fs.map (·.2)) xs → getF (fs.map (·.1)) xs f = some x → ∃ v, fs.lookup f = some v ∧ RD J v x
  | [], xs, _, e => by cases e
  | (n, v) :: fs, [], _, e => by cases e
  | (n, v) :: fs, y :: xs, r, e => by
    cases r with
    | cons r1 r2 =>
      have e' : (match f == n with
        | true => some y
        | false => getF (fs.map (·.1)) xs f) = some x := e
      rw [List.lookup_cons]
      cases h : f == n with
      | true =>
        rw [h] at e'
        cases Option.some.inj e'
        exact ⟨v, rfl, r1⟩
      | false =>
        rw [h] at e'
        exact getF_ok r2 e'
theorem view_obj {W : Wd} {F : Hp} {ω : Om} {H : Hp} {d : D} {v : V} {C : Addr} {ns : List Str} {xs : List Dt} (rp : Rep W F ω H) (r : RV W v d) (h : view ω d = some (.obj C ns xs)) : ∃ a dx fs, v = .ref a ∧ H a = some (.ins C dx fs) ∧ fs.map (·.1) = ns ∧ RDs W.J (fs.map (·.2)) xs := by
  cases d with
  | raw _ => cases h
  | dat d =>
    cases Option.some.inj h
    obtain ⟨a, dx, fs, e1, e2, e3, e4⟩ := obj_inv r
    exact ⟨a, dx, fs, e1, rp.sj _ _ e2, e3, e4⟩
  | ptr l =>
    obtain ⟨_, rfl⟩ := r
    have h' : (match ω[l]? with
      | some (some c) => c.data
      | _ => none) = some (.obj C ns xs) := h
    cases hc : ω[l]? with
    | none =>
      rw [hc] at h'
      cases h'
    | some oc =>
      cases oc with
      | none =>
        rw [hc] at h'
        cases h'
      | some c =>
        rw [hc] at h'
        have C' := rp.cell l c hc
        cases c with
        | lst _ => cases h'
        | dic _ _ => cases h'
        | box _ => cases h'
        | ins C0 ns0 xs0 =>
          cases h'
          obtain ⟨dx, fs, h1, h2, h3⟩ := C'
          exact ⟨_, dx, fs, rfl, h1, h2, h3⟩
        | fz d =>
          cases Option.some.inj h'
          obtain ⟨a, dx, fs, e1, e2, e3, e4⟩ := obj_inv C'
          cases e1
          exact ⟨_, dx, fs, rfl, rp.sj _ _ e2, e3, e4⟩
theorem de_fld {K : PySem.W.Frag} {wo : WE} {f : Str} (ho : DE X o wo) (c : Cls K C) (n : NoAttr K C f) (hK : ∀ i, (X i).K = K := by intro _; rfl) (hb : ∀ i, attributeBase o f (X i).env (eval o (X i).env) = eval o (X i).env := by intro _; rfl) :
    DE X (.Attribute o f pos) (wFld C wo f) := by
  obtain ⟨to, po, qo⟩ := ho.ex
  refine ⟨tFld K to f, fun i => hK i ▸ pe_fld (po i) (hb i), fun W F' ρ ω σ H Q R s rp h q => ?_⟩
  refine qo W F' ρ ω σ H _ _ s rp h fun W1 ω1 d v H1 e1 rp1 r1 h1 => ?_
  obtain ⟨ns, xs, x, hv, hg, h1⟩ := h1
  obtain ⟨a, dx, fs, rfl, ea, k1, k2⟩ := view_obj rp1 r1 hv
  obtain ⟨u, e2, ru⟩ := getF_ok k2 (by rw [k1]; exact hg)
  exact ⟨a, C, dx, fs, u, rfl, ea, c, n, e2, q W1 ω1 (.dat x) u H1 e1 rp1 ru h1⟩
/-- a property -/
def wProp (C : Addr) (wo : WE) (dsp : Dsp) : WE := fun ρ ω Q => wo ρ ω fun d ω1 => ∃ ns xs, d = .dat (.obj C ns xs) ∧ dsp [d] [] (backN ω1 Q)
theorem de_prop {wo : WE} {f : Str} {pa g : Addr} (ho : DE X o wo) (hc : ∀ i, Cls (X i).K C) (hp : ∀ i, PropOf (X i).K C f pa g) (F : ∀ i, FnOk (X i).prog (X i).w (X i).K (X i).mg (X i).base CX0 k g fd ps (spD dsp)) (hr : ∀ i, Room (k + 1) (X i).A) (hb : ∀ i, Binds (X i).K fd ps [])
    (hab : ∀ i, attributeBase o f (X i).env (eval o (X i).env) = eval o (X i).env := by intro _; rfl) : DE X (.Attribute o f pos) (wProp C wo dsp) := by
  obtain ⟨to, po, qo⟩ := ho.ex
  refine ⟨tProp C (spD dsp) [] E0 to, fun i => pe_prop (po i) (hc i) (hp i) (F i) (hr i) (hb i) .nil pass0 (hab i), fun W F' ρ ω σ H Q R s rp h q => ?_⟩
  refine qo W F' ρ ω σ H _ _ s rp h fun W1 ω1 d v H1 e1 rp1 r1 h1 => ?_
  obtain ⟨ns, xs, rfl, h1⟩ := h1
  obtain ⟨a, dx, fs, rfl, ea, k1, _⟩ := obj_inv r1
  exact ⟨a, dx, fs, rfl, rp1.sj _ _ ea, call_frame (ds := [.dat (.obj C ns xs)]) rp1 (.cons r1 .nil) h1 (q.ext e1)⟩
end
theorem putF_new {f : Str} {v : V} : ∀ {fs : List (Str × V)}, (fs.map (·.1)).contains f = false → putF f v fs = fs ++ [(f, v)]
  | [], _ => rfl
  | (g, x) :: fs, h => by
    simp only [List.map_cons, List.contains_cons, Bool.or_eq_false_iff] at h
    have ne : ¬ g = f := fun e => by
      rw [e, beq_self_eq_true] at h
      cases h.1
    show (if g = f then (g, v) :: fs else (g, x) :: putF f v fs) = _
    rw [if_neg ne, putF_new h.2]
    rfl
section
variable {X : Cx} {C : Addr} {o e : Expr} {we wo : WE} {f : Str} {pos pos' : Pos}
/-- self.f = e, in the making -/
def wSetF (C : Addr) (wo we : WE) (f : Str) : WS := fun D ρ ω => we ρ ω fun y ω1 => ∃ yd ω2, freeze ω1 y = some (yd, ω2) ∧ wo ρ ω2 fun d ω3 => ∃ l ns xs, d = .ptr l ∧ ω3[l]? = some (some (.ins C ns xs)) ∧ ns.contains f = false ∧ ns.length < 1000 ∧ D.nx ρ (ω3.set l (some (.ins C (ns ++ [f]) (xs ++ [yd]))))
theorem ds_fld (ho : DE (One X) o wo) (he : DE (One X) e we) (c : Cls X.K C) (n : NoAttr X.K C f) (hs : swapsWith e (some (.Attribute o f pos')) pos.line X.env = pure false := by rfl) : DS X (.Assign [.Attribute o f pos'] e pos) (wSetF C wo we f) := by
  obtain ⟨to, po, qo⟩ := ho.ex
  obtain ⟨te, pe, qe⟩ := he.ex
  refine ⟨sFld X.K to te f, ps_fld (po ()) (pe ()) hs, fun W F ρ ω σ H D E s rp h l => ?_⟩
  refine qe W F ρ ω σ H _ _ s rp h fun W1 ω1 y v H1 e1 rp1 r1 h1 => ?_
  obtain ⟨yd, ω2, hf, h1⟩ := h1
  obtain ⟨W2, e2, rp2, r2⟩ := rp1.freeze r1 hf
  refine qo W2 F ρ ω2 σ H1 _ _ (s.ext (e1.trans e2)) rp2 h1 fun W3 ω3 d u H3 e3 rp3 r3 h3 => ?_
  obtain ⟨k, ns, xs, rfl, ec, hn, hl, h3⟩ := h3
  obtain ⟨_, rfl⟩ := r3
  obtain ⟨dx, fs, g1, g2, g3⟩ := rp3.cell k _ ec
  have hl2 : fs.length < 1000 := by
    rw [← List.length_map (f := (·.1)), g2]
    exact hl
  refine ⟨_, C, dx, fs, rfl, g1, c, n, hl2, ?_⟩
  rw [putF_new (by rw [g2]; exact hn)]
  have hc : CellAt W3.J (upd H3 (W3.loc k) (.ins C dx (fs ++ [(f, v)]))) (W3.loc k) (.ins C (ns ++ [f]) (xs ++ [yd])) := by
    refine ⟨dx, _, upd_same, ?_, ?_⟩
    · rw [List.map_append, g2]
      rfl
    · rw [List.map_append]
      exact g3.app (.cons (RD.mono e3.j _ r2) .nil)
  exact l.nx W3 ρ _ σ _ (e1.trans (e2.trans e3)) (s.ext (e1.trans (e2.trans e3))) (rp3.write ec rfl rfl hc) h3
end
end Dl
set_option Elab.async false
set_option linter.all false
set_option maxRecDepth 100000
set_option maxHeartbeats 2000000
/-! D4: what loops walk, targets, for, while, comprehensions. -/
namespace Dl
open PySem PySem.Spec PyProof.Rows L2 G
/-- what is walked: data, one after another, while keep stands -/
def ITr (W : Wd) (ds : List Dt) (keep : Om → Prop) (J : It) : Prop := ∃ G Y, Walk J ds.length G Y ∧ (∀ W1 F ω H, Ext W W1 → Rep W1 F ω H → keep ω → G H) ∧
  ∀ i x v W1 F ω H H', Ext W W1 → Rep W1 F ω H → keep ω → ds[i]? = some x → Y i H v H' → ∃ W2, Ext W1 W2 ∧ Rep W2 F ω H' ∧ RD W2.J v x
theorem ITr.ext {W W' : Wd} {ds : List Dt} {keep : Om → Prop} {J : It} (h : ITr W ds keep J) (e : Ext W W') : ITr W' ds keep J :=
  let ⟨G, Y, a, b, c⟩ := h; ⟨G, Y, a, fun W1 F ω H e1 => b W1 F ω H (e.trans e1), fun i x v W1 F ω H H' e1 => c i x v W1 F ω H H' (e.trans e1)⟩
abbrev WI := Rho → Om → (List Dt → (Om → Prop) → Om → Prop) → Prop
section
variable {ι : Type}
structure DI (X : ι → Cx) (tg iter : Expr) (w : WI) : Prop where
  ex : ∃ t : TI, (∀ i, PI (X i) tg iter t) ∧ ∀ W F ρ ω σ H Q R, SL W σ ρ → Rep W F ω H → w ρ ω Q → (∀ W' ω' ds keep H' J, Ext W W' → Rep W' F ω' H' → Q ds keep ω' → ITr W' ds keep J → R J H') → t σ H R
variable {X : ι → Cx} {tg e e2 : Expr} {we we2 : WE} {pos p : Pos}
/-- a list or a tuple of data -/
def wiSeq (we : WE) : WI := fun ρ ω Q => we ρ ω fun d ω1 => ∃ ds, (view ω1 d = some (.lst ds) ∨ view ω1 d = some (.tup ds)) ∧ Q ds (fun ω2 => view ω2 d = view ω1 d) ω1
def iSeq (K : PySem.W.Frag) (tl : TE) : TI := fun σ H R => tl σ H fun x H1 => ∃ a, x = .ref a ∧ (((∃ xs, SqL K H1 a xs) ∧ R (Itl K a) H1) ∨ ((∃ xs, SqT K H1 a xs) ∧ R (Itt K a) H1))
theorem pi_seq {Y : Cx} {tl : TE} (hl : PE Y e tl) : PI Y tg e (iSeq Y.K tl) := by
  refine ⟨fun ps st sl Hp0 Rr Iv hh => thn (hl.run ps st sl Hp0 _ Iv hh) fun vv st1 ⟨xv, Hp1, Iv1, rv1, qv1⟩ => ?_⟩
  obtain ⟨ad, rfl, qq⟩ := qv1
  cases rv1
  rcases qq with ⟨⟨ys, hy⟩, qq⟩ | ⟨⟨ys, hy⟩, qq⟩
  · obtain ⟨li, _, pl, _⟩ := Iv1.list hy
    refine wpAny_pyIter_list pl.isList ⟨st1.heap.objs.size, [st1.heap.objs.size], _, _, Hp1, rfl, Iv1.kept (t' := st1.toks) fun _ _ z => Heap.get?_push_of_some _ z, turn_list ad _, ⟨_, Heap.get?_push_size _ rfl, rfl, rfl⟩, fun b hb => ?_, qq⟩
    obtain rfl := List.mem_singleton.mp hb
    exact Iv1.fpOk (Nat.le_refl _) (Iv1.hok.fresh (Nat.le_refl _))
  · obtain ⟨li, _, pl, _⟩ := Iv1.tuple hy
    refine wpAny_pyIter_tuple (show st1.heap.IsTuple ad li.toArray from pl) ⟨st1.heap.objs.size, [st1.heap.objs.size], _, _, Hp1, rfl, Iv1.kept (t' := st1.toks) fun _ _ z => Heap.get?_push_of_some _ z, turn_tuple ad _, ⟨_, Heap.get?_push_size _ rfl, rfl, rfl⟩, fun b hb => ?_, qq⟩
    obtain rfl := List.mem_singleton.mp hb
    exact Iv1.fpOk (Nat.le_refl _) (Iv1.hok.fresh (Nat.le_refl _))
/-- a list that is seen through the cells -/
theorem view_lst {W : Wd} {F : Hp} {ω : Om} {H : Hp} {d : D} {v : V} {ds : List Dt} (rp : Rep W F ω H) (r : RV W v d) (h : view ω d = some (.lst ds)) : ∃ a vs, v = .ref a ∧ H a = some (.lst vs) ∧ RDs W.J vs ds := by
  cases d with
  | raw _ => cases h
  | dat d =>
    cases Option.some.inj h
    cases r with
    | lst e r => exact ⟨_, _, rfl, rp.sj _ _ e, r⟩
  | ptr l =>
    obtain ⟨_, rfl⟩ := r
    have h' : (match ω[l]? with
      | some (some c) => c.data
      | _ => none) = some (.lst ds) := h
    cases hc : ω[l]? with
    | none =>
      rw [hc] at h'
      cases h'
    | some oc =>
      cases oc with
      | none =>
        rw [hc] at h'
        cases h'
      | some c =>
        rw [hc] at h'
        have C' := rp.cell l c hc
        cases c with
        | lst _ =>
          cases h'
          obtain ⟨vs, h1, h2⟩ := C'
          exact ⟨_, vs, rfl, h1, h2⟩
        | dic _ _ => cases h'
        | box _ => cases h'
        | ins _ _ _ => cases h'
        | fz d =>
          cases Option.some.inj h'
          cases C' with
          | lst e r => exact ⟨_, _, rfl, rp.sj _ _ e, r⟩
theorem view_tup {W : Wd} {F : Hp} {ω : Om} {H : Hp} {d : D} {v : V} {ds : List Dt} (rp : Rep W F ω H) (r : RV W v d) (h : view ω d = some (.tup ds)) : ∃ a vs, v = .ref a ∧ H a = some (.tup vs) ∧ RDs W.J vs ds := by
  cases d with
  | raw _ => cases h
  | dat d =>
    cases Option.some.inj h
    cases r with
    | tup e r => exact ⟨_, _, rfl, rp.sj _ _ e, r⟩
  | ptr l =>
    obtain ⟨_, rfl⟩ := r
    have h' : (match ω[l]? with
      | some (some c) => c.data
      | _ => none) = some (.tup ds) := h
    cases hc : ω[l]? with
    | none =>
      rw [hc] at h'
      cases h'
    | some oc =>
      cases oc with
      | none =>
        rw [hc] at h'
        cases h'
      | some c =>
        rw [hc] at h'
        have C' := rp.cell l c hc
        cases c with
        | lst _ => cases h'
        | dic _ _ => cases h'
        | box _ => cases h'
        | ins _ _ _ => cases h'
        | fz d =>
          cases Option.some.inj h'
          cases C' with
          | tup e r => exact ⟨_, _, rfl, rp.sj _ _ e, r⟩
theorem itr_lst {K : PySem.W.Frag} {W : Wd} {F : Hp} {ω : Om} {H : Hp} {d : D} {a : Addr} {vs : List V} {ds : List Dt} (rp : Rep W F ω H) (r : RV W (.ref a) d) (h : view ω d = some (.lst ds)) (ea : H a = some (.lst vs)) (hl : vs.length = ds.length) : ITr W ds (fun ω2 => view ω2 d = view ω d) (Itl K a) := by
  refine ⟨fun H => ∃ us, H a = some (.lst us) ∧ us.length = ds.length, fun i H v H' => H' = H ∧ ∃ us, H a = some (.lst us) ∧ us[i]? = some v, ⟨fun i H hi ⟨us, e, l⟩ => ⟨us, us[i]'(by omega), .of e, List.getElem?_eq_getElem _⟩, fun H ⟨us, e, l⟩ => ⟨us, .of e, by omega⟩, fun i H v H' hi ⟨us, e, l⟩ y => ⟨y.1, us, e, y.2 us (.of e)⟩⟩, fun W1 F1 ω1 H1 e1 rp1 k => ?_, fun i x v W1 F1 ω1 H1 H' e1 rp1 k ex y => ?_⟩
  · obtain ⟨a', us, e2, e3, r3⟩ := view_lst rp1 (r.ext e1) (k.trans h)
    cases e2
    exact ⟨us, e3, r3.len⟩
  · obtain ⟨rfl, us, e3, eu⟩ := y
    obtain ⟨a', us', e2, e3', r3⟩ := view_lst rp1 (r.ext e1) (k.trans h)
    cases e2
    rw [e3] at e3'
    cases e3'
    obtain ⟨x', ex', rx⟩ := r3.at eu
    rw [ex] at ex'
    cases ex'
    exact ⟨W1, Ext.refl _, rp1, rx⟩
theorem itr_tup {K : PySem.W.Frag} {W : Wd} {F : Hp} {ω : Om} {H : Hp} {d : D} {a : Addr} {vs : List V} {ds : List Dt} (rp : Rep W F ω H) (r : RV W (.ref a) d) (h : view ω d = some (.tup ds)) (ea : H a = some (.tup vs)) (hl : vs.length = ds.length) : ITr W ds (fun ω2 => view ω2 d = view ω d) (Itt K a) := by
  refine ⟨fun H => ∃ us, H a = some (.tup us) ∧ us.length = ds.length, fun i H v H' => H' = H ∧ ∃ us, H a = some (.tup us) ∧ us[i]? = some v, ⟨fun i H hi ⟨us, e, l⟩ => ⟨us, us[i]'(by omega), .of e, List.getElem?_eq_getElem _⟩, fun H ⟨us, e, l⟩ => ⟨us, .of e, by omega⟩, fun i H v H' hi ⟨us, e, l⟩ y => ⟨y.1, us, e, y.2 us (.of e)⟩⟩, fun W1 F1 ω1 H1 e1 rp1 k => ?_, fun i x v W1 F1 ω1 H1 H' e1 rp1 k ex y => ?_⟩
  · obtain ⟨a', us, e2, e3, r3⟩ := view_tup rp1 (r.ext e1) (k.trans h)
    cases e2
    exact ⟨us, e3, r3.len⟩
  · obtain ⟨rfl, us, e3, eu⟩ := y
    obtain ⟨a', us', e2, e3', r3⟩ := view_tup rp1 (r.ext e1) (k.trans h)
    cases e2
    rw [e3] at e3'
    cases e3'
    obtain ⟨x', ex', rx⟩ := r3.at eu
    rw [ex] at ex'
    cases ex'
    exact ⟨W1, Ext.refl _, rp1, rx⟩
theorem di_seq {K : PySem.W.Frag} (he : DE X e we) (hK : ∀ i, (X i).K = K := by intro _; rfl) : DI X tg e (wiSeq we) := by
  obtain ⟨t, p, q⟩ := he.ex
  refine ⟨iSeq K t, fun i => hK i ▸ pi_seq (p i), fun W F ρ ω σ H Q R s rp h c => ?_⟩
  refine q W F ρ ω σ H _ _ s rp h fun W1 ω1 d v H1 e1 rp1 r1 h1 => ?_
  obtain ⟨ds, hv, hq⟩ := h1
  rcases hv with hv | hv
  · obtain ⟨a, vs, rfl, ea, r2⟩ := view_lst rp1 r1 hv
    exact ⟨a, rfl, .inl ⟨⟨vs, .of ea⟩, c W1 ω1 ds _ H1 _ e1 rp1 hq (itr_lst rp1 r1 hv ea r2.len)⟩⟩
  · obtain ⟨a, vs, rfl, ea, r2⟩ := view_tup rp1 r1 hv
    exact ⟨a, rfl, .inr ⟨⟨vs, .of ea⟩, c W1 ω1 ds _ H1 _ e1 rp1 hq (itr_tup rp1 r1 hv ea r2.len)⟩⟩
/-- range(n) -/
def rngD (lo : Int) (n : Nat) : List Dt := (List.range n).map fun i : Nat => .int (lo + i)
theorem rngD_len (lo : Int) (n : Nat) : (rngD lo n).length = n := by simp [rngD]
theorem rngD_at {lo : Int} {n i : Nat} {x : Dt} (h : (rngD lo n)[i]? = some x) : i < n ∧ x = .int (lo + i) := by
  unfold rngD at h
  rw [List.getElem?_map] at h
  obtain ⟨j, h1, rfl⟩ := Option.map_eq_some_iff.mp h
  obtain ⟨h2, h3⟩ := List.getElem?_eq_some_iff.mp h1
  rw [List.length_range] at h2
  rw [List.getElem_range] at h3
  subst h3
  exact ⟨h2, rfl⟩
theorem itr_range {W : Wd} {lo : Int} {n : Nat} : ITr W (rngD lo n) (fun _ => True) (Itr lo n) := by
  refine ⟨fun _ => True, YFn fun i => .int (lo + i), by rw [rngD_len]; exact walk_range, fun _ _ _ _ _ _ _ => trivial, fun i x v W1 F ω H H' e1 rp _ ex y => ?_⟩
  obtain ⟨rfl, rfl⟩ := y
  obtain ⟨_, rfl⟩ := rngD_at ex
  exact ⟨W1, Ext.refl _, rp, .int _⟩
def wiRange1 (ws : WA) : WI := fun ρ ω Q => ws ρ ω fun ds ω1 => ∃ j : Int, ds = [.dat (.int j)] ∧ -(2 ^ 62) ≤ j ∧ j < 2 ^ 62 ∧ Q (rngD 0 j.toNat) (fun _ => True) ω1
theorem di_range1 {ws : WA} (hm : ∀ i, (X i).mg "range" = none) (ha : DA X [e] ws) (hg : ∀ i, Gl (X i) "range" := by intro _; rfl) (hs : ∀ i, starEach [e] (X i).env = [(false, eval e (X i).env)] := by intro _; rfl) : DI X tg (.Call (.Name "range" p) [e] [] pos) (wiRange1 ws) := by
  obtain ⟨t, pa, q⟩ := ha.ex
  refine ⟨iRng1 t, fun i => pi_range1 (hg i) (hm i) (pa i) (hs i), fun W F ρ ω σ H Q R s rp h c => ?_⟩
  refine q W F ρ ω σ H _ _ s rp h fun W1 ω1 ds vs H1 e1 rp1 r1 h1 => ?_
  obtain ⟨j, rfl, j1, j2, h1⟩ := h1
  cases r1 with
  | cons ra rb =>
    cases rb
    cases ra
    exact ⟨j, rfl, j1, j2, c W1 ω1 _ _ H1 _ e1 rp1 h1 itr_range⟩
def wiRange2 (ws : WA) : WI := fun ρ ω Q => ws ρ ω fun ds ω1 => ∃ i j : Int, ds = [.dat (.int i), .dat (.int j)] ∧ (-(2 ^ 62) ≤ i ∧ i < 2 ^ 62 ∧ -(2 ^ 62) ≤ j ∧ j < 2 ^ 62) ∧ Q (rngD i (j - i).toNat) (fun _ => True) ω1
theorem di_range2 {ws : WA} (hm : ∀ i, (X i).mg "range" = none) (ha : DA X [e, e2] ws) (hg : ∀ i, Gl (X i) "range" := by intro _; rfl) (hs : ∀ i, starEach [e, e2] (X i).env = [(false, eval e (X i).env), (false, eval e2 (X i).env)] := by intro _; rfl) (hs2 : ∀ i, starEach [e2] (X i).env = [(false, eval e2 (X i).env)] := by intro _; rfl) : DI X tg (.Call (.Name "range" p) [e, e2] [] pos) (wiRange2 ws) := by
  obtain ⟨t, pa, q⟩ := ha.ex
  refine ⟨iRng2 t, fun i => pi_range2 (hg i) (hm i) (pa i) (hs i) (hs2 i), fun W F ρ ω σ H Q R s rp h c => ?_⟩
  refine q W F ρ ω σ H _ _ s rp h fun W1 ω1 ds vs H1 e1 rp1 r1 h1 => ?_
  obtain ⟨a, j, rfl, j1, h1⟩ := h1
  cases r1 with
  | cons ra rb =>
    cases rb with
    | cons rc rd =>
      cases rd
      cases ra
      cases rc
      exact ⟨a, j, rfl, j1, c W1 ω1 _ _ H1 _ e1 rp1 h1 itr_range⟩
/-- a new pair at each turn -/
theorem itr_pair {W : Wd} {keep : Om → Prop} {J : It} {xs ys : List Dt} {G : Hp → Prop} {fx fy : Hp → Nat → Option V} (hl : xs.length = ys.length)
    (hw : Walk J xs.length G fun i H v H' => ∃ T x y, v = .ref T ∧ H T = none ∧ H' = upd H T (.tup [x, y]) ∧ fx H i = some x ∧ fy H i = some y) (hG : ∀ W1 F ω H, Ext W W1 → Rep W1 F ω H → keep ω → G H)
    (hx : ∀ i x v W1 F ω H, Ext W W1 → Rep W1 F ω H → keep ω → xs[i]? = some x → fx H i = some v → RD W1.J v x) (hy : ∀ i y v W1 F ω H, Ext W W1 → Rep W1 F ω H → keep ω → ys[i]? = some y → fy H i = some v → RD W1.J v y) :
    ITr W (List.zipWith (fun x y => Dt.tup [x, y]) xs ys) keep J := by
  refine ⟨G, _, by rw [List.length_zipWith, ← hl, Nat.min_self]; exact hw, hG, fun i x v W1 F ω H H' e1 rp k ex y => ?_⟩
  obtain ⟨T, xv, yv, rfl, hT, rfl, f1, f2⟩ := y
  rw [List.getElem?_zipWith] at ex
  cases q1 : xs[i]? with
  | none =>
    rw [q1] at ex
    cases ex
  | some xd =>
    cases q2 : ys[i]? with
    | none =>
      rw [q1, q2] at ex
      cases ex
    | some yd =>
      rw [q1, q2] at ex
      cases Option.some.inj ex
      obtain ⟨e2, rp2⟩ := rp.laid (o := .tup [xv, yv]) hT
      exact ⟨_, e2, rp2, .tup upd_same (.cons (RD.mono e2.j _ (hx i xd xv W1 F ω H e1 rp k q1 f1)) (.cons (RD.mono e2.j _ (hy i yd yv W1 F ω H e1 rp k q2 f2)) .nil))⟩
def enumD (xs : List Dt) : List Dt := List.zipWith (fun x y => Dt.tup [x, y]) (rngD 0 xs.length) xs
theorem enum_at {xs : List Dt} {i : Nat} {x : Dt} (h : (enumD xs)[i]? = some x) : ∃ y, xs[i]? = some y ∧ x = .tup [.int i, y] := by
  unfold enumD at h
  rw [List.getElem?_zipWith] at h
  cases q1 : (rngD 0 xs.length)[i]? with
  | none =>
    rw [q1] at h
    cases h
  | some a =>
    cases q2 : xs[i]? with
    | none =>
      rw [q1, q2] at h
      cases h
    | some b =>
      rw [q1, q2] at h
      cases Option.some.inj h
      obtain ⟨_, rfl⟩ := rngD_at q1
      exact ⟨b, rfl, by rw [Int.zero_add]⟩
theorem enum_len (xs : List Dt) : (enumD xs).length = xs.length := by
  unfold enumD
  rw [List.length_zipWith, rngD_len, Nat.min_self]
def wiEnum (ws : WA) : WI := fun ρ ω Q => ws ρ ω fun ds ω1 => ∃ d xs, ds = [d] ∧ view ω1 d = some (.lst xs) ∧ Q (enumD xs) (fun ω2 => view ω2 d = view ω1 d) ω1
theorem di_enum {K : PySem.W.Frag} {elts : List Expr} {kk : Nat} {tpos : Pos} {ws : WA} (hm : ∀ i, (X i).mg "enumerate" = none) (ha : DA X [e] ws) (hg : ∀ i, Gl (X i) "enumerate" := by intro _; rfl) (hK : ∀ i, (X i).K = K := by intro _; rfl) (hs : ∀ i, starEach [e] (X i).env = [(false, eval e (X i).env)] := by intro _; rfl) :
    DI X (.Tuple elts kk tpos) (.Call (.Name "enumerate" p) [e] [] pos) (wiEnum ws) := by
  obtain ⟨t, pa, q⟩ := ha.ex
  refine ⟨iEnum K t, fun i => hK i ▸ pi_enum (hg i) (hm i) (pa i) (hs i), fun W F ρ ω σ H Q R s rp h c => ?_⟩
  refine q W F ρ ω σ H _ _ s rp h fun W1 ω1 ds vs H1 e1 rp1 r1 h1 => ?_
  obtain ⟨d, xs, rfl, hv, h1⟩ := h1
  cases r1 with
  | cons ra rb =>
    cases rb
    obtain ⟨a, us, rfl, ea, r2⟩ := view_lst rp1 ra hv
    refine ⟨a, us, rfl, .of ea, c W1 ω1 _ _ H1 _ e1 rp1 h1 ?_⟩
    have hl := r2.len
    have get : ∀ {W2 : Wd} {F ω H}, Ext W1 W2 → Rep W2 F ω H → view ω d = view ω1 d → ∃ us', H a = some (.lst us') ∧ RDs W2.J us' xs := fun e2 rp2 k => by
      obtain ⟨a', us', e3, e4, r3⟩ := view_lst rp2 (ra.ext e2) (k.trans hv)
      cases e3
      exact ⟨us', e4, r3⟩
    refine itr_pair (G := fun H => ∃ us', H a = some (.lst us') ∧ us'.length = xs.length) (fx := fun _ i => some (.int (i : Nat))) (fy := fun H i => match H a with
      | some (.lst us') => us'[i]?
      | _ => none) (by rw [rngD_len]) ⟨fun i H hi ⟨us', e, l⟩ => ?_, fun H ⟨us', e, l⟩ => ⟨us', .of e, by rw [rngD_len]; omega⟩, fun i H v H' hi ⟨us', e, l⟩ y => ?_⟩ (fun W2 F2 ω2 H2 e2 rp2 k => ?_) (fun i x v W2 F2 ω2 H2 e2 rp2 k ex ev => ?_) (fun i x v W2 F2 ω2 H2 e2 rp2 k ex ev => ?_)
    · rw [rngD_len] at hi
      exact ⟨us', us'[i]'(by omega), .of e, List.getElem?_eq_getElem _⟩
    · obtain ⟨T, x, g1, g2, g3, g4⟩ := y
      exact ⟨T, _, x, g1, g2, g3, rfl, by rw [e]; exact g4 us' (.of e)⟩
    · obtain ⟨us', e3, r3⟩ := get e2 rp2 k
      exact ⟨us', e3, r3.len⟩
    · obtain ⟨_, rfl⟩ := rngD_at ex
      cases Option.some.inj ev
      rw [Int.zero_add]
      exact .int _
    · obtain ⟨us', e3, r3⟩ := get e2 rp2 k
      rw [e3] at ev
      obtain ⟨x', ex', rx⟩ := r3.at ev
      rw [ex] at ex'
      cases ex'
      exact rx
end
end Dl
set_option Elab.async false
set_option linter.all false
set_option maxRecDepth 100000
set_option maxHeartbeats 2000000
/-! D5: targets, for, while, comprehensions; zip, reversed. -/
namespace Dl
open PySem PySem.Spec PyProof.Rows L2 G
abbrev WG := D → Rho → Om → (Rho → Om → Prop) → Prop
abbrev WGs := List Dt → Rho → Om → (Rho → Om → Prop) → Prop
def wipeD (ρ : Rho) : List Nat → Rho
  | [] => ρ
  | v :: vs => (wipeD ρ vs).set v none
theorem wipe_set (σ : L2.St) (o : Option V) {k : Nat} : ∀ {vs : List Nat}, k ∈ vs → wipe (σ.set k o) vs = wipe σ vs
  | v :: vs, h => by
    show (wipe (σ.set k o) vs).set v none = (wipe σ vs).set v none
    by_cases hm : k ∈ vs
    · rw [wipe_set σ o hm]
    · have hv : v = k := by
        rcases List.mem_cons.mp h with h | h
        · exact h.symm
        · exact (hm h).elim
      subst hv
      have go : ∀ vs : List Nat, v ∉ vs → wipe (σ.set v o) vs = (wipe σ vs).set v o := by
        intro vs
        induction vs with
        | nil => intro _; rfl
        | cons u us ih =>
          intro hn
          show (wipe (σ.set v o) us).set u none = ((wipe σ us).set u none).set v o
          rw [ih fun z => hn (List.mem_cons_of_mem _ z), List.set_comm _ _ (fun z => hn (by rw [z]; exact List.mem_cons_self))]
      rw [go vs hm, List.set_set]
theorem set_none_idem (σ : L2.St) (v : Nat) : (σ.set v none).set v none = σ.set v none := List.set_set ..
theorem wipe_comm (σ : L2.St) (v : Nat) : ∀ vs : List Nat, wipe (σ.set v none) vs = (wipe σ vs).set v none
  | [] => rfl
  | u :: us => by
    show (wipe (σ.set v none) us).set u none = ((wipe σ us).set u none).set v none
    rw [wipe_comm σ v us]
    by_cases h : u = v
    · rw [h]
    · rw [List.set_comm _ _ h]
theorem wipe_wipe (σ : L2.St) : ∀ vs : List Nat, wipe (wipe σ vs) vs = wipe σ vs
  | [] => rfl
  | v :: vs => by
    show (wipe ((wipe σ vs).set v none) vs).set v none = (wipe σ vs).set v none
    rw [wipe_comm, set_none_idem, wipe_wipe σ vs]
theorem SL.unset {W : Wd} {σ : L2.St} {ρ : Rho} (s : SL W σ ρ) (v : Nat) : SL W (σ.set v none) (ρ.set v none) := by
  refine ⟨by rw [List.length_set, List.length_set]; exact s.len, fun i d h => ?_⟩
  by_cases hi : i = v
  · subst hi
    have hl : i < ρ.length := by
      have := (List.getElem?_eq_some_iff.mp h).1
      rwa [List.length_set] at this
    rw [List.getElem?_set_self hl] at h
    cases Option.some.inj h
  · rw [List.getElem?_set_ne (Ne.symm hi)] at h ⊢
    exact s.at_ i d h
theorem SL.wipe {W : Wd} {σ : L2.St} {ρ : Rho} (s : SL W σ ρ) : ∀ vs : List Nat, SL W (L2.wipe σ vs) (wipeD ρ vs)
  | [] => s
  | v :: vs => (SL.wipe s vs).unset v
/-- what a target stores lies at these slots (a comprehension's own), if any are told -/
def Keeps (vs : Option (List Nat)) (σ σ' : L2.St) : Prop := ∀ l, vs = some l → wipe σ' l = wipe σ l
section
variable {ι : Type}
structure DG (X : ι → Cx) (tg : Expr) (vs : Option (List Nat)) (g : WG) : Prop where
  ex : ∃ t : TG, (∀ i, PG (X i) tg t) ∧ ∀ W F ρ ω σ H x v Q R, SL W σ ρ → Rep W F ω H → RV W v x → g x ρ ω Q → (∀ W' ρ' ω' σ' H', Ext W W' → SL W' σ' ρ' → Rep W' F ω' H' → Keeps vs σ σ' → Q ρ' ω' → R σ' H') → t v σ H R
structure DGs (X : ι → Cx) (tgs : List Expr) (vs : Option (List Nat)) (g : WGs) : Prop where
  ex : ∃ t : TGs, (∀ i, PGs (X i) tgs t) ∧ ∀ W F ρ ω σ H xs us Q R, SL W σ ρ → Rep W F ω H → RDs W.J us xs → g xs ρ ω Q → (∀ W' ρ' ω' σ' H', Ext W W' → SL W' σ' ρ' → Rep W' F ω' H' → Keeps vs σ σ' → Q ρ' ω' → R σ' H') → t us σ H R
variable {X : ι → Cx} {tg e e2 elt iter : Expr} {we we2 : WE} {pos p : Pos} {vs : Option (List Nat)} {es : List Expr}
def wgName (k : Nat) : WG := fun x ρ ω Q => Q (ρ.set k (some x)) ω
theorem dg_name {k : Nat} {x : Str} (hN : ∀ i, (X i).N.Nodup) (hv : ∀ l, vs = some l → k ∈ l := by first | (intro l h; cases h; done) | (intro l h; cases h; decide)) (hi : ∀ i, (X i).N[k]? = some x := by intro _; rfl) (hx : ∀ i, Loc (X i).env.scope x := by intro _; first | exact Or.inl rfl | exact Or.inr rfl)
    (hf : ∀ i, (X i).fn x = true ∨ (X i).env.scope.names.lookup x = some .local := by intro _; first | exact .inl rfl | exact .inr rfl) : DG X (.Name x pos) vs (wgName k) := by
  refine ⟨gName k, fun i => pg_name (hN i) (hi i) (hx i) (hf i), fun W F ρ ω σ H x v Q R s rp r h c => ?_⟩
  exact c W _ ω _ H (Ext.refl W) (s.set r k) rp (fun l hl => wipe_set σ _ (hv l hl)) h
def wgNil : WGs := fun xs ρ ω Q => xs = [] ∧ Q ρ ω
def wgCons (g : WG) (gs : WGs) : WGs := fun xs ρ ω Q => match xs with
  | [] => False
  | x :: r => g (.dat x) ρ ω fun ρ' ω' => gs r ρ' ω' Q
theorem dgs_nil : DGs X [] vs wgNil := by
  refine ⟨gNil, fun _ => pgs_nil, fun W F ρ ω σ H xs us Q R s rp r h c => ?_⟩
  obtain ⟨rfl, h⟩ := h
  cases r
  exact ⟨rfl, c W ρ ω σ H (Ext.refl W) s rp (fun _ _ => rfl) h⟩
theorem dgs_cons {g : WG} {gs : WGs} (h1 : DG X e vs g) (h2 : DGs X es vs gs) (hs : ∀ i, (assignEach (e :: es) (X i).env).map (·.2) = assign e (X i).env :: (assignEach es (X i).env).map (·.2) := by intro _; rfl) : DGs X (e :: es) vs (wgCons g gs) := by
  obtain ⟨t, p1, q1⟩ := h1.ex
  obtain ⟨u, p2, q2⟩ := h2.ex
  refine ⟨gCons t u, fun i => pgs_cons (p1 i) (p2 i) (hs i), fun W F ρ ω σ H xs us Q R s rp r h c => ?_⟩
  cases xs with
  | nil => exact h.elim
  | cons x xs =>
    cases r with
    | @cons v vs' _ _ ra rb =>
      refine ⟨v, vs', rfl, q1 W F ρ ω σ H (.dat x) v _ _ s rp ra h fun W1 ρ1 ω1 σ1 H1 e1 s1 rp1 k1 h1 => ?_⟩
      exact q2 W1 F ρ1 ω1 σ1 H1 xs vs' Q _ s1 rp1 (RDs.mono e1.j _ rb) h1 fun W2 ρ2 ω2 σ2 H2 e2 s2 rp2 k2 h2 => c W2 ρ2 ω2 σ2 H2 (e1.trans e2) s2 rp2 (fun l hl => (k2 l hl).trans (k1 l hl)) h2
def wgTup (n : Nat) (gs : WGs) : WG := fun x ρ ω Q => ∃ xs, x = .dat (.tup xs) ∧ xs.length = n ∧ gs xs ρ ω Q
theorem dg_tup {K : PySem.W.Frag} {k n : Nat} {gs : WGs} (hc : ∀ i, (X i).calm = true) (h : DGs X es vs gs) (hK : ∀ i, (X i).K = K := by intro _; rfl) (hn : ∀ i, (assignEach es (X i).env).length = n := by intro _; rfl) (hst : ∀ i, (assignEach es (X i).env).findIdx? (·.1) = none := by intro _; rfl) :
    DG X (.Tuple es k pos) vs (wgTup n gs) := by
  obtain ⟨t, p1, q1⟩ := h.ex
  refine ⟨gTup K n t, fun i => hK i ▸ pg_tup (hc i) (p1 i) (hn i) (hst i), fun W F ρ ω σ H x v Q R s rp r h c => ?_⟩
  obtain ⟨xs, rfl, hl, h⟩ := h
  cases r with
  | @tup a us _ ea r =>
    exact ⟨a, us, rfl, .of (rp.sj _ _ ea), r.len.trans hl, q1 W F ρ ω σ H xs us Q R s rp r h c⟩
end
/-! ### for, while -/
section
variable {X : Cx} {tg iter c : Expr} {body : List Stmt} {wi : WI} {g : WG} {tb : WS} {pos : Pos} {wt : WT}
def wFor (wi : WI) (g : WG) (tb : WS) : WS := fun D ρ ω => wi ρ ω fun ds keep ω1 => ∃ P : Nat → Rho → Om → Prop, P 0 ρ ω1 ∧ (∀ i ρ ω, i ≤ ds.length → P i ρ ω → keep ω) ∧
  (∀ i x ρ ω, ds[i]? = some x → P i ρ ω → g (.dat x) ρ ω fun ρ2 ω2 => tb { D with nx := P (i + 1), ct := P (i + 1), bk := D.nx } ρ2 ω2) ∧ ∀ ρ ω, P ds.length ρ ω → D.nx ρ ω
theorem ds_for (hp : PassesOwn (model X.prog X.w) X.A X.env X.xe) (hc : X.calm = true) (hi : DI (One X) tg iter wi) (hg : DG (One X) tg none g) (hb : DSs X body tb) (hs : ∀ x, foldedSetIterable iter X.env x = pure x := by intro _; rfl) : DS X (.For tg iter body [] pos) (wFor wi g tb) := by
  obtain ⟨ti, p1, q1⟩ := hi.ex
  obtain ⟨tg', p2, q2⟩ := hg.ex
  obtain ⟨tb', p3, q3⟩ := hb.ex
  refine ⟨tFor ti tg' tb', ps_for hp hc (p1 ()) (p2 ()) p3 hs, fun W F ρ ω σ H D E s rp h l => ?_⟩
  refine q1 W F ρ ω σ H _ _ s rp h fun W1 ω1 ds keep H1 J e1 rp1 h1 it => ?_
  obtain ⟨P, h0, hk, ht, hd⟩ := h1
  obtain ⟨G, Y, wk, wg, wy⟩ := it
  refine for_it wk (fun i σ' H' => ∃ W' ρ' ω', Ext W1 W' ∧ SL W' σ' ρ' ∧ Rep W' F ω' H' ∧ P i ρ' ω') ⟨W1, ρ, ω1, Ext.refl _, s.ext e1, rp1, h0⟩ ?_ ?_ ?_
  · rintro i σ' H' hi ⟨W', ρ', ω', e', s', rp', h'⟩
    exact wg W' F ω' H' e' rp' (hk i ρ' ω' hi h')
  · rintro i v σ' H' H2 hi ⟨W', ρ', ω', e', s', rp', h'⟩ y
    obtain ⟨W2, e2, rp2, r2⟩ := wy i ds[i] v W' F ω' H' H2 e' rp' (hk i ρ' ω' (Nat.le_of_lt hi) h') (List.getElem?_eq_getElem hi) y
    refine q2 W2 F ρ' ω' σ' H2 (.dat ds[i]) v _ _ (s'.ext e2) rp2 r2 (ht i ds[i] ρ' ω' (List.getElem?_eq_getElem hi) h') fun W3 ρ3 ω3 σ3 H3 e3 s3 rp3 _ h3 => ?_
    have nxt : ∀ W' ρ ω σ H, Ext W3 W' → SL W' σ ρ → Rep W' F ω H → P (i + 1) ρ ω → ∃ W'' ρ' ω', Ext W1 W'' ∧ SL W'' σ ρ' ∧ Rep W'' F ω' H ∧ P (i + 1) ρ' ω' := fun W4 ρ4 ω4 σ4 H4 e4 s4 rp4 h4 => ⟨W4, ρ4, ω4, e'.trans (e2.trans (e3.trans e4)), s4, rp4, h4⟩
    have le := l.ext (e1.trans (e'.trans (e2.trans e3)))
    exact q3 W3 F ρ3 ω3 σ3 H3 _ _ s3 rp3 h3 ⟨nxt, le.rt, le.nx, nxt⟩
  · rintro σ' H' ⟨W', ρ', ω', e', s', rp', h'⟩
    exact l.nx W' ρ' ω' σ' H' (e1.trans e') s' rp' (hd ρ' ω' h')
def wWhile (c : WT) (tb : WS) : WS := fun D ρ ω => ∃ P : Nat → Rho → Om → Prop, (∃ m, P m ρ ω) ∧ ∀ m ρ ω, P m ρ ω → c ρ ω fun b ω1 => if b = true then
  tb { D with nx := fun ρ' ω' => ∃ m', m' < m ∧ P m' ρ' ω', ct := fun ρ' ω' => ∃ m', m' < m ∧ P m' ρ' ω', bk := D.nx } ρ ω1 else D.nx ρ ω1
theorem ds_while (hp : PassesOwn (model X.prog X.w) X.A X.env X.xe) (hc : DT (One X) c wt) (hb : DSs X body tb) : DS X (.While c body [] pos) (wWhile wt tb) := by
  obtain ⟨tc, p1, q1⟩ := hc.ex
  obtain ⟨tb', p3, q3⟩ := hb.ex
  refine ⟨tWhile tc tb', ps_while hp (p1 ()) p3, fun W F ρ ω σ H D E s rp h l => ?_⟩
  obtain ⟨P, ⟨m0, h0⟩, ht⟩ := h
  refine ⟨fun m σ' H' => ∃ W' ρ' ω', Ext W W' ∧ SL W' σ' ρ' ∧ Rep W' F ω' H' ∧ P m ρ' ω', ⟨m0, W, ρ, ω, Ext.refl _, s, rp, h0⟩, ?_⟩
  rintro m σ1 H1 ⟨W1, ρ1, ω1, e1, s1, rp1, h1⟩
  refine q1 W1 F ρ1 ω1 σ1 H1 _ _ s1 rp1 (ht m ρ1 ω1 h1) fun W2 ω2 b H2 e2 rp2 h2 => ?_
  cases b with
  | false => exact l.nx W2 ρ1 ω2 σ1 H2 (e1.trans e2) (s1.ext e2) rp2 h2
  | true =>
    refine ⟨fun σ' H' => ∃ m', m' < m ∧ ∃ W' ρ' ω', Ext W W' ∧ SL W' σ' ρ' ∧ Rep W' F ω' H' ∧ P m' ρ' ω', fun _ _ h => h, ?_⟩
    have nxt : ∀ W' ρ ω σ H, Ext W2 W' → SL W' σ ρ → Rep W' F ω H → (∃ m', m' < m ∧ P m' ρ ω) → ∃ m', m' < m ∧ ∃ W'' ρ' ω', Ext W W'' ∧ SL W'' σ ρ' ∧ Rep W'' F ω' H ∧ P m' ρ' ω' := fun W4 ρ4 ω4 σ4 H4 e4 s4 rp4 ⟨m', hm, h4⟩ => ⟨m', hm, W4, ρ4, ω4, e1.trans (e2.trans e4), s4, rp4, h4⟩
    have le := l.ext (e1.trans e2)
    exact q3 W2 F ρ1 ω2 σ1 H2 _ _ (s1.ext e2) rp2 h2 ⟨nxt, le.rt, le.nx, nxt⟩
end
/-! ### list comprehensions -/
/-- the list that is made, at first hidden in the frame, becomes a cell -/
theorem Rep.adopt {W : Wd} {F : Hp} {ω : Om} {H : Hp} {p : Addr} {o : HO} {c : Cell} (R : Rep W (upd F p o) ω H) (fp : F p = none) (ho : c.own = true) (hc : CellAt W.J H p c) : Ext W ⟨W.J, fun l => if l = ω.length then p else W.loc l, W.n + 1⟩ ∧ Rep ⟨W.J, fun l => if l = ω.length then p else W.loc l, W.n + 1⟩ F (ω ++ [some c]) H := by
  have sub : Same F (upd F p o) := fun a u e => by
    rw [upd_ne (ne_of_none e fp)]
    exact e
  have jp : W.J p = none := R.dj p o upd_same
  have nl : ∀ (l : Nat) c, ω[l]? = some (some c) → c.own = true → W.loc l ≠ p := fun l c e ho z => by
    have := (R.own l c e ho).2
    rw [z, upd_same] at this
    cases this
  have cas : ∀ {l : Nat} {c' : Cell}, (ω ++ [some c])[l]? = some (some c') → (l < ω.length ∧ ω[l]? = some (some c')) ∨ (l = ω.length ∧ c' = c) := fun {l c'} e => by
    by_cases h : l < ω.length
    · rw [List.getElem?_append_left h] at e
      exact .inl ⟨h, e⟩
    · rw [List.getElem?_append_right (by omega)] at e
      have hl := (List.getElem?_eq_some_iff.mp e).1
      have h1 : ([some c] : Om).length = 1 := rfl
      have h0 : l = ω.length := by omega
      subst h0
      rw [Nat.sub_self] at e
      exact .inr ⟨rfl, (Option.some.inj (Option.some.inj e)).symm⟩
  have fo : ∀ {a : Addr}, (upd F p o) a = none → F a = none := fun {a} e => by
    cases q : F a with
    | none => rfl
    | some u =>
      rw [sub _ _ q] at e
      cases e
  refine ⟨⟨Same.refl _, Nat.le_succ _, fun l hl => if_neg (by have := R.n; omega)⟩, ?_, R.sj, sub.trans R.sf, fun a u e => R.dj a u (sub _ _ e), fun l c' e => ?_, fun l c' e hw => ?_, fun l l' c1 c2 e1 e2 h1 h2 z => ?_⟩
  · rw [List.length_append]
    show W.n + 1 = ω.length + 1
    rw [R.n]
  · show CellAt W.J H (if l = ω.length then p else W.loc l) c'
    rcases cas e with ⟨hl, e'⟩ | ⟨rfl, rfl⟩
    · rw [if_neg (by omega)]
      exact R.cell l c' e'
    · rw [if_pos rfl]
      exact hc
  · show W.J (if l = ω.length then p else W.loc l) = none ∧ F (if l = ω.length then p else W.loc l) = none
    rcases cas e with ⟨hl, e'⟩ | ⟨rfl, rfl⟩
    · rw [if_neg (by omega)]
      obtain ⟨q1, q2⟩ := R.own l c' e' hw
      exact ⟨q1, fo q2⟩
    · rw [if_pos rfl]
      exact ⟨jp, fp⟩
  · have z' : (if l = ω.length then p else W.loc l) = (if l' = ω.length then p else W.loc l') := z
    rcases cas e1 with ⟨hl, e1'⟩ | ⟨rfl, rfl⟩ <;> rcases cas e2 with ⟨hl', e2'⟩ | ⟨rfl, rfl⟩
    · rw [if_neg (by omega), if_neg (by omega)] at z'
      exact R.inj l l' c1 c2 e1' e2' h1 h2 z'
    · rw [if_neg (by omega), if_pos rfl] at z'
      exact (nl l c1 e1' h1 z').elim
    · rw [if_neg (show ¬ l' = ω.length by omega), if_pos rfl] at z'
      exact (nl l' c2 e2' h2 z'.symm).elim
    · rfl
/-- .. and back: a new object is hidden in the frame -/
theorem Rep.hide {W : Wd} {F : Hp} {ω : Om} {H : Hp} {p : Addr} {o : HO} (R : Rep W F ω H) (hp : H p = none) : Rep W (upd F p o) ω (upd H p o) := by
  have jp : W.J p = none := R.sj.free hp
  have nl : ∀ (l : Nat) c, ω[l]? = some (some c) → c.own = true → W.loc l ≠ p := fun l c e ho z => by
    obtain ⟨u, hu⟩ := (R.cell l c e).there ho
    rw [z, hp] at hu
    cases hu
  refine ⟨R.n, fun a u e => ?_, fun a u e => ?_, fun a u e => ?_, fun l c e => ?_, fun l c e h => ?_, R.inj⟩
  · rw [upd_ne (ne_of_none e jp)]
    exact R.sj _ _ e
  · by_cases h : a = p
    · rw [h, upd_same] at e ⊢
      exact e
    · rw [upd_ne h] at e ⊢
      exact R.sf _ _ e
  · by_cases h : a = p
    · rw [h]
      exact jp
    · rw [upd_ne h] at e
      exact R.dj _ _ e
  · exact (R.cell l c e).heap fun u q => by rw [upd_ne (ne_of_none q hp)]; exact q
  · obtain ⟨q1, q2⟩ := R.own l c e h
    exact ⟨q1, by rw [upd_ne (nl l c e h)]; exact q2⟩
/-- what is hidden is written -/
theorem Rep.hidden {W : Wd} {F : Hp} {ω : Om} {H : Hp} {p : Addr} {o o' : HO} (R : Rep W (upd F p o) ω H) : Rep W (upd F p o') ω (upd H p o') := by
  have jp : W.J p = none := R.dj p o upd_same
  have nl : ∀ (l : Nat) c, ω[l]? = some (some c) → c.own = true → W.loc l ≠ p := fun l c e ho z => by
    have := (R.own l c e ho).2
    rw [z, upd_same] at this
    cases this
  refine ⟨R.n, fun a u e => ?_, fun a u e => ?_, fun a u e => ?_, fun l c e => ?_, fun l c e h => ?_, R.inj⟩
  · rw [upd_ne (ne_of_none e jp)]
    exact R.sj _ _ e
  · by_cases h : a = p
    · rw [h, upd_same] at e ⊢
      exact e
    · rw [upd_ne h] at e ⊢
      exact R.sf _ _ (by rw [upd_ne h]; exact e)
  · by_cases h : a = p
    · rw [h]
      exact jp
    · rw [upd_ne h] at e
      exact R.dj a u (by rw [upd_ne h]; exact e)
  · cases how : c.own with
    | true => exact (R.cell l c e).heap fun u q => by rw [upd_ne (nl l c e how)]; exact q
    | false =>
      cases c with
      | fz d => exact R.cell l _ e
      | lst _ => cases how
      | dic _ _ => cases how
      | ins _ _ _ => cases how
      | box _ => cases how
  · obtain ⟨q1, q2⟩ := R.own l c e h
    refine ⟨q1, ?_⟩
    rw [upd_ne (nl l c e h)] at q2 ⊢
    exact q2
section
variable {ι : Type} {X : ι → Cx} {elt tg iter : Expr} {ifs : List Expr} {scope : Scope} {own : List (Str × Nat)} {pos : Pos} {wi : WI} {g : WG} {tt : WT} {te : WE}
/-- where a comprehension's block runs -/
abbrev BlkI (ι : Type) : Type := ι × Shared × Hp × Addr × List (Str × Addr) × List Addr
abbrev blkX (X : ι → Cx) (scope : Scope) : BlkI ι → Cx := fun b => (X b.1).blk b.2.1 b.2.2.1 scope (compEnvC scope b.2.2.2.2.1 b.2.2.2.1 (X b.1).env) b.2.2.2.2.2
def wLc (wi : WI) (g : WG) (tt : WT) (te : WE) (vs : List Nat) : WE := fun ρ ω Q => wi ρ ω fun ds keep ω1 => ds.length < sizeLine ∧ ∃ P : Nat → List Dt → Om → Prop, P 0 [] ω1 ∧ (∀ i acc ω, i ≤ ds.length → P i acc ω → keep ω ∧ acc.length ≤ i) ∧
  (∀ i x acc ω, ds[i]? = some x → P i acc ω → g (.dat x) (wipeD ρ vs) ω fun ρ2 ω2 => tt ρ2 ω2 fun b ω3 => if b = true then te ρ2 ω3 fun d ω4 => ∃ y ω5, freeze ω4 d = some (y, ω5) ∧ P (i + 1) (acc ++ [y]) ω5 else P (i + 1) acc ω3) ∧
  ∀ acc ω, P ds.length acc ω → Q (.ptr ω.length) (ω ++ [some (.lst acc)])
theorem lc_sem {ti : TI} {tg' : TG} {tt' : TT} {te' : TE} (vs : List Nat)
    (q1 : ∀ W F ρ ω σ H Q R, SL W σ ρ → Rep W F ω H → wi ρ ω Q → (∀ W' ω' ds keep H' J, Ext W W' → Rep W' F ω' H' → Q ds keep ω' → ITr W' ds keep J → R J H') → ti σ H R)
    (q2 : ∀ W F ρ ω σ H x v Q R, SL W σ ρ → Rep W F ω H → RV W v x → g x ρ ω Q → (∀ W' ρ' ω' σ' H', Ext W W' → SL W' σ' ρ' → Rep W' F ω' H' → Keeps (some vs) σ σ' → Q ρ' ω' → R σ' H') → tg' v σ H R)
    (q3 : ∀ W F ρ ω σ H Q R, SL W σ ρ → Rep W F ω H → tt ρ ω Q → ContT W F Q R → tt' σ H R) (q4 : ∀ W F ρ ω σ H Q R, SL W σ ρ → Rep W F ω H → te ρ ω Q → Cont W F Q R → te' σ H R)
    (W F ρ ω σ H) (Q : DK) (R : VK) (s : SL W σ ρ) (rp : Rep W F ω H) (h : wLc wi g tt te vs ρ ω Q) (c : Cont W F Q R) : tLc ti tg' tt' te' vs σ H R := by
  refine q1 W F ρ ω σ H _ _ s rp h fun W1 ω1 ds keep H1 J e1 rp1 h1 it D hD => ?_
  obtain ⟨hsz, P, h0, hk, ht, hd⟩ := h1
  obtain ⟨G, Y, wk, wg, wy⟩ := it
  have fD : F D = none := rp1.sf.free hD
  have s1 := s.ext e1
  refine lc_it wk (fun i H' => ∃ W' ω' acc accV, Ext W1 W' ∧ Rep W' (upd F D (.lst accV)) ω' H' ∧ RDs W'.J accV acc ∧ P i acc ω') ⟨W1, ω1, [], [], Ext.refl _, rp1.hide hD, .nil, h0⟩ ?_ ?_ ?_
  · rintro i H' hi ⟨W', ω', acc, accV, e', rp', r', h'⟩
    exact wg W' _ ω' H' e' rp' (hk i acc ω' hi h').1
  · rintro i v H' H2 hi ⟨W', ω', acc, accV, e', rp', r', h'⟩ y
    obtain ⟨hk1, hk2⟩ := hk i acc ω' (Nat.le_of_lt hi) h'
    obtain ⟨W2, e2, rp2, r2⟩ := wy i ds[i] v W' _ ω' H' H2 e' rp' hk1 (List.getElem?_eq_getElem hi) y
    refine q2 W2 _ (wipeD ρ vs) ω' (wipe σ vs) H2 (.dat ds[i]) v _ _ ((s1.wipe vs).ext (e'.trans e2)) rp2 r2 (ht i ds[i] acc ω' (List.getElem?_eq_getElem hi) h') fun W3 ρ3 ω3 σ3 H3 e3 s3 rp3 k3 h3 => ?_
    refine ⟨by rw [k3 vs rfl]; exact wipe_wipe σ vs, ?_⟩
    refine q3 W3 _ ρ3 ω3 σ3 H3 _ _ s3 rp3 h3 fun W4 ω4 b H4 e4 rp4 h4 => ?_
    cases b with
    | false => exact ⟨W4, ω4, acc, accV, e'.trans (e2.trans (e3.trans e4)), rp4, RDs.mono (e2.trans (e3.trans e4)).j _ r', h4⟩
    | true =>
      refine q4 W4 _ ρ3 ω4 σ3 H4 _ _ (s3.ext e4) rp4 h4 fun W5 ω5 d u H5 e5 rp5 r5 h5 => ?_
      obtain ⟨yd, ω6, hf, h6⟩ := h5
      obtain ⟨W6, e6, rp6, r6⟩ := rp5.freeze r5 hf
      have rl := r'.len
      refine ⟨accV, rp6.sf D _ upd_same, by omega, W6, ω6, acc ++ [yd], accV ++ [u], e'.trans (e2.trans (e3.trans (e4.trans (e5.trans e6)))), rp6.hidden, (RDs.mono (e2.trans (e3.trans (e4.trans (e5.trans e6)))).j _ r').app (.cons r6 .nil), h6⟩
  · rintro H' ⟨W', ω', acc, accV, e', rp', r', h'⟩
    obtain ⟨e7, rp7⟩ := rp'.adopt (c := .lst acc) fD rfl ⟨accV, rp'.sf D _ upd_same, r'⟩
    refine c _ _ (.ptr ω'.length) _ H' (e1.trans (e'.trans e7)) rp7 ⟨?_, ?_⟩ (hd acc ω' h')
    · show ω'.length < W'.n + 1
      rw [rp'.n]
      exact Nat.lt_succ_self _
    · show V.ref D = .ref (if ω'.length = ω'.length then D else W'.loc ω'.length)
      rw [if_pos rfl]
theorem de_lc (hc : ∀ i, (X i).calm = true) (hN : ∀ i, (X i).N.Nodup) (hi : DI X tg iter wi) (ok : ∀ i, BlkOk (X i).N (X i).env.scope scope own) (hg : DG (blkX X scope) tg (some (own.map (·.2))) g) (ht : DTs (blkX X scope) ifs tt) (he : DE (blkX X scope) elt te)
    (hs : ∀ i x, foldedSetIterable iter (X i).env x = pure x := by intro _ _; rfl) : DE X (.ListComp elt [⟨tg, iter, ifs, 0⟩] scope pos) (wLc wi g tt te (own.map (·.2))) := by
  obtain ⟨ti, p1, q1⟩ := hi.ex
  obtain ⟨tg', p2, q2⟩ := hg.ex
  obtain ⟨tt', p3, q3⟩ := ht.ex
  obtain ⟨te', p4, q4⟩ := he.ex
  refine ⟨tLc ti tg' tt' te' (own.map (·.2)), fun i => pe_lc (hc i) (hN i) (p1 i) (ok i) (fun s H C cl fp => p2 (i, s, H, C, cl, fp)) (fun s H C cl fp => p3 (i, s, H, C, cl, fp)) (fun s H C cl fp => p4 (i, s, H, C, cl, fp)) (hs i), ?_⟩
  exact lc_sem _ q1 q2 q3 q4
end
section
variable {X : Cx} {elt tg iter : Expr} {ifs : List Expr} {scope : Scope} {own : List (Str × Nat)} {pos spos : Pos} {wi : WI} {g : WG} {tt : WT} {te : WE}
theorem ds_setLc {i : Nat} {y : Str} {py : Pos} (hc : X.calm = true) (hN : X.N.Nodup) (hsw : swapsWith (.ListComp elt [⟨tg, iter, ifs, 0⟩] scope pos) (some (.Name y py)) spos.line X.env = pure true) (hi : DI (One X) tg iter wi) (ok : BlkOk X.N X.env.scope scope own)
    (hg : DG (blkX (One X) scope) tg (some (own.map (·.2))) g) (ht : DTs (blkX (One X) scope) ifs tt) (he : DE (blkX (One X) scope) elt te) (hy : X.N[i]? = some y := by rfl) (hyl : X.env.scope.names.lookup y = some .local := by rfl) (hs : ∀ x, foldedSetIterable iter X.env x = pure x := by intro _; rfl) :
    DS X (.Assign [.Name y py] (.ListComp elt [⟨tg, iter, ifs, 0⟩] scope pos) spos) (wSet i (wLc wi g tt te (own.map (·.2)))) := by
  obtain ⟨ti, p1, q1⟩ := hi.ex
  obtain ⟨tg', p2, q2⟩ := hg.ex
  obtain ⟨tt', p3, q3⟩ := ht.ex
  obtain ⟨te', p4, q4⟩ := he.ex
  refine ⟨tAsg (tLc ti tg' tt' te' (own.map (·.2))) (gName i), ps_setLc hc hN hy hyl hsw (p1 ()) ok (fun s H C cl fp => p2 ((), s, H, C, cl, fp)) (fun s H C cl fp => p3 ((), s, H, C, cl, fp)) (fun s H C cl fp => p4 ((), s, H, C, cl, fp)) hs, fun W F ρ ω σ H D E s rp h l => ?_⟩
  exact lc_sem _ q1 q2 q3 q4 W F ρ ω σ H _ _ s rp h fun W1 ω1 d v H1 e1 rp1 r1 h1 => l.nx W1 _ ω1 _ H1 e1 ((s.ext e1).set r1 i) rp1 h1
end
end Dl
set_option Elab.async false
set_option linter.all false
set_option maxRecDepth 100000
set_option maxHeartbeats 2000000
/-! D6: operators, displays, indices, slices, len, by what they do to data. -/
namespace Dl
open PySem PySem.Spec PyProof.Rows L2 G
theorem opR_or {X : Cx} {f : Value → Value → Sem Value} {r r' : R2} (h : OpR X f r) (h' : OpR X f r') : OpR X f (fun x y H Q => r x y H Q ∨ r' x y H Q) := fun pins s σ H x y v u Q I rx ry z => z.elim (h pins s σ H x y v u Q I rx ry) (h' pins s σ H x y v u Q I rx ry)
theorem callR_or {X : Cx} {f : Value} {r r' : List V → Hp → VK → Prop} (h : CallR X f r) (h' : CallR X f r') : CallR X f (fun x H Q => r x H Q ∨ r' x H Q) := fun pins s σ H xs us Q I rx z => z.elim (h pins s σ H xs us Q I rx) (h' pins s σ H xs us Q I rx)
section
variable {W : Wd} {F : Hp} {ω : Om} {H : Hp}
/-- what is seen through the cells, in the heap as it is -/
theorem view_rd {d : D} {v : V} {x : Dt} (rp : Rep W F ω H) (r : RV W v d) (h : view ω d = some x) : RD H v x := by
  cases d with
  | raw _ => cases h
  | dat d =>
    cases Option.some.inj h
    exact RD.mono rp.sj _ r
  | ptr l =>
    obtain ⟨_, rfl⟩ := r
    have h' : (match ω[l]? with
      | some (some c) => c.data
      | _ => none) = some x := h
    cases hc : ω[l]? with
    | none =>
      rw [hc] at h'
      cases h'
    | some oc =>
      cases oc with
      | none =>
        rw [hc] at h'
        cases h'
      | some c =>
        rw [hc] at h'
        have C' := rp.cell l c hc
        cases c with
        | lst _ =>
          cases h'
          obtain ⟨vs, h1, h2⟩ := C'
          exact .lst h1 (RDs.mono rp.sj _ h2)
        | dic _ _ =>
          cases h'
          obtain ⟨kvs, h1, h2, h3⟩ := C'
          exact .dic h1 h2 (RDs.mono rp.sj _ h3)
        | box _ => cases h'
        | ins _ _ _ =>
          cases h'
          obtain ⟨dx, fs, h1, h2, h3⟩ := C'
          exact .obj h1 h2 (RDs.mono rp.sj _ h3)
        | fz d =>
          cases Option.some.inj h'
          exact RD.mono rp.sj _ C'
theorem newL {Q : DK} {R : VK} {vs : List V} {ds : List Dt} (rp : Rep W F ω H) (q : Cont W F Q R) (r : RDs W.J vs ds) (h : Q (.ptr ω.length) (ω ++ [some (.lst ds)])) : ∀ p, H p = none → R (.ref p) (upd H p (.lst vs)) := fun p hp => by
  obtain ⟨e, rp'⟩ := rp.cell1 (c := .lst ds) hp rfl ⟨vs, upd_same, r⟩
  refine q _ _ (.ptr ω.length) _ _ e rp' ⟨?_, ?_⟩ h
  · show ω.length < W.n + 1
    rw [rp.n]
    exact Nat.lt_succ_self _
  · show V.ref p = .ref (if ω.length = ω.length then p else W.loc ω.length)
    rw [if_pos rfl]
theorem newT {Q : DK} {R : VK} {vs : List V} {ds : List Dt} (rp : Rep W F ω H) (q : Cont W F Q R) (r : RDs W.J vs ds) (h : Q (.dat (.tup ds)) ω) : ∀ p, H p = none → R (.ref p) (upd H p (.tup vs)) := fun p hp => by
  obtain ⟨e, rp'⟩ := rp.laid (o := .tup vs) hp
  exact q _ _ (.dat (.tup ds)) _ _ e rp' (.tup upd_same (RDs.mono e.j _ r)) h
theorem give {Q : DK} {R : VK} {v : V} {d : D} (rp : Rep W F ω H) (q : Cont W F Q R) (r : RV W v d) (h : Q d ω) : R v H := q W ω d v H (Ext.refl W) rp r h
/-- several things become data -/
def freezeAll : Om → List D → Option (List Dt × Om)
  | ω, [] => some ([], ω)
  | ω, x :: r => match freeze ω x with
    | none => none
    | some (d, ω1) => match freezeAll ω1 r with
      | none => none
      | some (ds, ω2) => some (d :: ds, ω2)
theorem freezeAll_ok : ∀ {ds : List D} {W : Wd} {ω : Om} {vs : List V} {xs : List Dt} {ω' : Om}, Rep W F ω H → RVs W vs ds → freezeAll ω ds = some (xs, ω') → ∃ W', Ext W W' ∧ Rep W' F ω' H ∧ RDs W'.J vs xs
  | [], W, ω, vs, xs, ω', R, r, e => by
    obtain ⟨rfl, rfl⟩ := Prod.mk.inj (Option.some.inj e)
    cases r
    exact ⟨W, Ext.refl W, R, .nil⟩
  | x :: ds, W, ω, vs, xs, ω', R, r, e => by
    cases r with
    | @cons v _ vs _ rx rr =>
      unfold freezeAll at e
      cases hf : freeze ω x with
      | none =>
        rw [hf] at e
        cases e
      | some q =>
        rw [hf] at e
        obtain ⟨d, ω1⟩ := q
        have e' : (match freezeAll ω1 ds with
          | none => none
          | some (ds, ω2) => some (d :: ds, ω2)) = some (xs, ω') := e
        obtain ⟨W1, e1, R1, r1⟩ := R.freeze rx hf
        cases hp : freezeAll ω1 ds with
        | none =>
          rw [hp] at e'
          cases e'
        | some p =>
          rw [hp] at e'
          obtain ⟨rfl, rfl⟩ := Prod.mk.inj (Option.some.inj e')
          obtain ⟨W', e2, R', r'⟩ := freezeAll_ok R1 (RVs.ext e1 rr) hp
          exact ⟨W', e1.trans e2, R', .cons (RD.mono e2.j d r1) r'⟩
end
theorem line_le {n : Nat} (h : n ≤ 7000) : n ≤ sizeLine := by
  rw [sizeLine_eq]
  omega
theorem line_lt {n : Nat} (h : n ≤ 7000) : n < sizeLine := by
  rw [sizeLine_eq]
  omega
/-! ### displays -/
section
variable {ι : Type} {X : ι → Cx} {a b e o : Expr} {es : List Expr} {wa wb we wo : WE} {ws : WA} {pos p : Pos} {x : Str}
def wLst (ws : WA) : WE := fun ρ ω Q => ws ρ ω fun ds ω1 => ∃ xs ω2, freezeAll ω1 ds = some (xs, ω2) ∧ xs.length ≤ 7000 ∧ Q (.ptr ω2.length) (ω2 ++ [some (.lst xs)])
theorem de_lst (h : DA X es ws) : DE X (.List es pos) (wLst ws) := by
  obtain ⟨t, pa, q⟩ := h.ex
  refine ⟨tLst t, fun i => pe_lst (pa i), fun W F ρ ω σ H Q R s rp h c => ?_⟩
  refine q W F ρ ω σ H _ _ s rp h fun W1 ω1 ds vs H1 e1 rp1 r1 h1 => ?_
  obtain ⟨xs, ω2, hf, hl, h1⟩ := h1
  obtain ⟨W2, e2, rp2, r2⟩ := freezeAll_ok rp1 r1 hf
  exact ⟨line_le (by rw [r2.len]; exact hl), newL rp2 (c.ext (e1.trans e2)) r2 h1⟩
def wTup (ws : WA) : WE := fun ρ ω Q => ws ρ ω fun ds ω1 => ∃ xs ω2, freezeAll ω1 ds = some (xs, ω2) ∧ xs.length ≤ 7000 ∧ Q (.dat (.tup xs)) ω2
theorem de_tup {x1} (h : DA X es ws) : DE X (.Tuple es x1 pos) (wTup ws) := by
  obtain ⟨t, pa, q⟩ := h.ex
  refine ⟨tTup t, fun i => pe_tup (pa i), fun W F ρ ω σ H Q R s rp h c => ?_⟩
  refine q W F ρ ω σ H _ _ s rp h fun W1 ω1 ds vs H1 e1 rp1 r1 h1 => ?_
  obtain ⟨xs, ω2, hf, hl, h1⟩ := h1
  obtain ⟨W2, e2, rp2, r2⟩ := freezeAll_ok rp1 r1 hf
  exact ⟨line_le (by rw [r2.len]; exact hl), newT rp2 (c.ext (e1.trans e2)) r2 h1⟩
/-! ### calls of built-in things -/
abbrev WN := List D → Om → DK → Prop
def LiftN (r : List V → Hp → VK → Prop) (rd : WN) : Prop := ∀ W F ω H vs ds Q R, Rep W F ω H → RVs W vs ds → rd ds ω Q → Cont W F Q R → r vs H R
abbrev wCB (rd : WN) (ws : WA) : WE := fun ρ ω Q => ws ρ ω fun ds ω1 => rd ds ω1 Q
theorem de_callB {id : String} {r : List V → Hp → VK → Prop} {rd : WN} (hc : ∀ i, CallR (X i) (.builtin id) r) (l : LiftN r rd) (hm : ∀ i, (X i).mg x = none) (ha : DA X (e :: es) ws) (hv : bootBuiltins x = some (.builtin id) := by decide +kernel) (hg : ∀ i, Gl (X i) x := by intro _; rfl)
    (hn : x ≠ "__name__" := by decide) (hdb : (x == ("__debug__" : Str)) = false := by decide) (he : ∀ i, starEach (e :: es) (X i).env = (false, eval e (X i).env) :: starEach es (X i).env := by intro _; rfl) (hpl : ∀ i, (backTo pos (starEach es (X i).env)).any (·.1) = false := by intro _; rfl) :
    DE X (.Call (.Name x p) (e :: es) [] pos) (wCB rd ws) := by
  obtain ⟨t, pa, q⟩ := ha.ex
  refine ⟨tCB r t, fun i => pe_callB (hc i) (hg i) (hm i) hv (pa i) hn hdb (he i) (hpl i), fun W F ρ ω σ H Q R s rp h c => ?_⟩
  exact q W F ρ ω σ H _ _ s rp h fun W1 ω1 ds vs H1 e1 rp1 r1 h1 => l W1 F ω1 H1 vs ds Q R rp1 r1 h1 (c.ext e1)
theorem de_callTy {T : String} {r : List V → Hp → VK → Prop} {rd : WN} (hc : ∀ i, CallR (X i) (.type T) r) (l : LiftN r rd) (hm : ∀ i, (X i).mg x = none) (ha : DA X (e :: es) ws) (hv : bootBuiltins x = some (.type T) := by decide +kernel) (hg : ∀ i, Gl (X i) x := by intro _; rfl)
    (hn : x ≠ "__name__" := by decide) (hdb : (x == ("__debug__" : Str)) = false := by decide) (he : ∀ i, starEach (e :: es) (X i).env = (false, eval e (X i).env) :: starEach es (X i).env := by intro _; rfl) (hpl : ∀ i, (backTo pos (starEach es (X i).env)).any (·.1) = false := by intro _; rfl) :
    DE X (.Call (.Name x p) (e :: es) [] pos) (wCB rd ws) := by
  obtain ⟨t, pa, q⟩ := ha.ex
  refine ⟨tCB r t, fun i => pe_callTy (hc i) (hg i) (hm i) hv (pa i) hn hdb (he i) (hpl i), fun W F ρ ω σ H Q R s rp h c => ?_⟩
  exact q W F ρ ω σ H _ _ s rp h fun W1 ω1 ds vs H1 e1 rp1 r1 h1 => l W1 F ω1 H1 vs ds Q R rp1 r1 h1 (c.ext e1)
/-- a method of a built-in kind -/
def tyD (ω : Om) (d : D) (T : String) : Prop := match view ω d with
  | some (.str _) => T = "str"
  | some (.int _) => T = "int"
  | some (.lst _) => T = "list"
  | some (.dic _ _) => T = "dict"
  | _ => False
theorem tyD_ok {K : PySem.W.Frag} {W : Wd} {F : Hp} {ω : Om} {H : Hp} {d : D} {v : V} {T : String} (rp : Rep W F ω H) (r : RV W v d) (h : tyD ω d T) : tyV K T v H := by
  unfold tyD at h
  split at h
  · rename_i z e
    have := view_rd rp r e
    cases this
    exact h
  · rename_i z e
    have := view_rd rp r e
    cases this
    exact h
  · rename_i z e
    have := view_rd rp r e
    cases this with
    | lst e1 r1 => exact .inl ⟨h, _, .of e1⟩
  · rename_i z e
    have := view_rd rp r e
    cases this with
    | dic e1 k r1 => exact .inr (.inr (.inl ⟨h, .inl ⟨_, e1⟩⟩))
  · exact h.elim
abbrev WM := D → List D → Om → DK → Prop
def LiftM (r : V → List V → Hp → VK → Prop) (rd : WM) : Prop := ∀ W F ω H v vs d ds Q R, Rep W F ω H → RV W v d → RVs W vs ds → rd d ds ω Q → Cont W F Q R → r v vs H R
def wBm (T : String) (rd : WM) (wo : WE) (ws : WA) : WE := fun ρ ω Q => wo ρ ω fun d ω1 => tyD ω1 d T ∧ ws ρ ω1 fun ds ω2 => rd d ds ω2 Q
theorem de_bm {K : PySem.W.Frag} {T id : String} {name : Str} {apos cpos : Pos} {r : V → List V → Hp → VK → Prop} {rd : WM} (pa : PlainAttrs T) (slot : Slot T name id) (hty : typeOf (.builtin id) = pure (.type "method_descriptor")) (hm : ∀ i, MtR (X i) id r) (l : LiftM r rd) (ho : DE X o wo) (ha : DA X (e :: es) ws)
    (hK : ∀ i, (X i).K = K := by intro _; rfl) (hbase : ∀ i, attributeBase o name (X i).env (eval o (X i).env) = eval o (X i).env := by intro _; rfl)
    (hfew : ∀ i, ((backTo cpos (starEach (e :: es) (X i).env)).all (fun x => !x.1) && (backToKw cpos (keywordEach [] (X i).env)).all (fun x => x.1.isSome)
      && decide ((e :: es).length + ([] : List Keyword).length + (if ([] : List Keyword).isEmpty then 0 else 1) < 30)) = true := by intro _; rfl)
    (hline : (apos.endLine == cpos.line) = true := by rfl) (hst : ∀ i, starEach (e :: es) (X i).env = (false, eval e (X i).env) :: starEach es (X i).env := by intro _; rfl) (hpl : ∀ i, (backTo cpos (starEach es (X i).env)).any (·.1) = false := by intro _; rfl) :
    DE X (.Call (.Attribute o name apos) (e :: es) [] cpos) (wBm T rd wo ws) := by
  obtain ⟨to, po, qo⟩ := ho.ex
  obtain ⟨t, pa', q⟩ := ha.ex
  refine ⟨tBM K T r to t, fun i => hK i ▸ pe_bm pa slot hty (hm i) (po i) (pa' i) (hbase i) (hfew i) hline (hst i) (hpl i), fun W F ρ ω σ H Q R s rp h c => ?_⟩
  refine qo W F ρ ω σ H _ _ s rp h fun W1 ω1 d v H1 e1 rp1 r1 h1 => ?_
  refine ⟨tyD_ok rp1 r1 h1.1, ?_⟩
  exact q W1 F ρ ω1 σ H1 _ _ (s.ext e1) rp1 h1.2 fun W2 ω2 ds vs H2 e2 rp2 r2 h2 => l W2 F ω2 H2 v vs d ds Q R rp2 (r1.ext e2) r2 h2 (c.ext (e1.trans e2))
end
end Dl
set_option Elab.async false
set_option linter.all false
set_option maxRecDepth 100000
set_option maxHeartbeats 2000000
/-! D7: what each operator, function and method does to data. -/
namespace Dl
open PySem PySem.Spec PyProof.Rows L2 G
abbrev dI (i : Int) : D := .dat (.int i)
abbrev dS (z : Str) : D := .dat (.str z)
abbrev dB (b : Bool) : D := .dat (.bl b)
/-! ### ints -/
def rI2 (C : Int → Int → Prop) (g : Int → Int → Dt) : W2 := fun a b ω Q => match a, b with
  | .dat (.int i), .dat (.int j) => C i j ∧ Q (.dat (g i j)) ω
  | _, _ => False
def rI02 (g : Int → Int → Dt) : W2 := fun a b ω Q => match a, b with
  | .dat (.int i), .dat (.int j) => Q (.dat (g i j)) ω
  | _, _ => False
theorem int2_inv {a b : D} {P : Int → Int → Prop} (h : match a, b with
  | .dat (.int i), .dat (.int j) => P i j
  | _, _ => False) : ∃ i j, a = dI i ∧ b = dI j ∧ P i j := by
  split at h
  · exact ⟨_, _, rfl, rfl, h⟩
  · exact h.elim
theorem lift_I {C : Int → Int → Prop} {g : Int → Int → Dt} {gv : Int → Int → V} (hg : ∀ J i j, RD J (gv i j) (g i j)) : Lift2 (rI C gv) (rI2 C g) := by
  intro W F ω H x y dx dy Q R rp rx ry h q
  obtain ⟨i, j, rfl, rfl, h1, h2⟩ := int2_inv (P := fun i j => C i j ∧ Q (.dat (g i j)) ω) h
  cases rx
  cases ry
  exact ⟨i, j, rfl, rfl, h1, give rp q (d := .dat (g i j)) (hg _ i j) h2⟩
theorem lift_I0 {g : Int → Int → Dt} {gv : Int → Int → V} (hg : ∀ J i j, RD J (gv i j) (g i j)) : Lift2 (rI0 gv) (rI02 g) := by
  intro W F ω H x y dx dy Q R rp rx ry h q
  obtain ⟨i, j, rfl, rfl, h2⟩ := int2_inv (P := fun i j => Q (.dat (g i j)) ω) h
  cases rx
  cases ry
  exact ⟨i, j, rfl, rfl, give rp q (d := .dat (g i j)) (hg _ i j) h2⟩
section
variable {ι : Type} {X : ι → Cx} {a b e o : Expr} {es : List Expr} {wa wb we wo : WE} {ws : WA} {pos p : Pos} {x : Str} {wt : WT}
abbrev rSubD := rI02 fun i j => .int (i - j)
theorem de_sub (ha : DE X a wa) (hb : DE X b wb) : DE X (.BinOp a .Sub b pos) (wOp rSubD wa wb) := de_op (fun _ => op_sub) (lift_I0 fun _ _ _ => .int _) ha hb
abbrev rModD := rI2 (fun _ j => 0 < j) fun i j => .int (i % j)
theorem de_mod (ha : DE X a wa) (hb : DE X b wb) : DE X (.BinOp a .Mod b pos) (wOp rModD wa wb) := de_op (fun _ => op_mod) (lift_I fun _ _ _ => .int _) ha hb
abbrev rDivD := rI2 CDiv fun i j => .int (i / j)
theorem de_fdiv (ha : DE X a wa) (hb : DE X b wb) : DE X (.BinOp a .FloorDiv b pos) (wOp rDivD wa wb) := de_op (fun _ => op_fdiv) (lift_I fun _ _ _ => .int _) ha hb
abbrev rMulD := rI2 CMul fun i j => .int (i * j)
theorem de_mul (ha : DE X a wa) (hb : DE X b wb) : DE X (.BinOp a .Mult b pos) (wOp rMulD wa wb) := de_op (fun _ => op_mul) (lift_I fun _ _ _ => .int _) ha hb
abbrev rPowD := rI2 CPow fun i j => .int (i ^ j.toNat)
theorem de_pow (ha : DE X a wa) (hb : DE X b wb) : DE X (.BinOp a .Pow b pos) (wOp rPowD wa wb) := de_op (fun _ => op_pow) (lift_I fun _ _ _ => .int _) ha hb
abbrev rLtD := rI02 fun i j => .bl (decide (i < j))
abbrev rLeD := rI02 fun i j => .bl (decide (i ≤ j))
abbrev rGtD := rI02 fun i j => .bl (decide (j < i))
abbrev rGeD := rI02 fun i j => .bl (decide (j ≤ i))
theorem de_lt (ha : DE X a wa) (hb : DE X b wb) : DE X (.Compare a [.Lt] [b] pos) (wOp rLtD wa wb) := de_cmp (fun _ => op_lt) (lift_I0 fun _ _ _ => .bl _) ha hb (nobehind b (by decide) (by decide))
theorem de_le (ha : DE X a wa) (hb : DE X b wb) : DE X (.Compare a [.LtE] [b] pos) (wOp rLeD wa wb) := de_cmp (fun _ => op_le) (lift_I0 fun _ _ _ => .bl _) ha hb (nobehind b (by decide) (by decide))
theorem de_gt (ha : DE X a wa) (hb : DE X b wb) : DE X (.Compare a [.Gt] [b] pos) (wOp rGtD wa wb) := de_cmp (fun _ => op_gt) (lift_I0 fun _ _ _ => .bl _) ha hb (nobehind b (by decide) (by decide))
theorem de_ge (ha : DE X a wa) (hb : DE X b wb) : DE X (.Compare a [.GtE] [b] pos) (wOp rGeD wa wb) := de_cmp (fun _ => op_ge) (lift_I0 fun _ _ _ => .bl _) ha hb (nobehind b (by decide) (by decide))
theorem dt_lt (ha : DE X a wa) (hb : DE X b wb) : DT X (.Compare a [.Lt] [b] pos) (wB (wOp rLtD wa wb)) := dt_cmp (fun _ => op_lt) (lift_I0 fun _ _ _ => .bl _) ha hb (nobehind b (by decide) (by decide))
theorem dt_le (ha : DE X a wa) (hb : DE X b wb) : DT X (.Compare a [.LtE] [b] pos) (wB (wOp rLeD wa wb)) := dt_cmp (fun _ => op_le) (lift_I0 fun _ _ _ => .bl _) ha hb (nobehind b (by decide) (by decide))
theorem dt_gt (ha : DE X a wa) (hb : DE X b wb) : DT X (.Compare a [.Gt] [b] pos) (wB (wOp rGtD wa wb)) := dt_cmp (fun _ => op_gt) (lift_I0 fun _ _ _ => .bl _) ha hb (nobehind b (by decide) (by decide))
theorem dt_ge (ha : DE X a wa) (hb : DE X b wb) : DT X (.Compare a [.GtE] [b] pos) (wB (wOp rGeD wa wb)) := dt_cmp (fun _ => op_ge) (lift_I0 fun _ _ _ => .bl _) ha hb (nobehind b (by decide) (by decide))
def rNegD : W1 := fun d ω Q => match d with
  | .dat (.int i) => Q (dI (-i)) ω
  | _ => False
theorem de_neg (ha : DE X a wa) : DE X (.UnaryOp .USub a pos) (wUn rNegD wa) := by
  refine de_un (fun _ => un_neg) (fun W F ω H x d Q R rp rx h q => ?_) ha
  unfold rNegD at h
  split at h
  · cases rx
    exact ⟨_, rfl, give rp q (d := dI _) (.int _) h⟩
  · exact h.elim
/-- a tuple is data -/
theorem tup_self {W : Wd} {F : Hp} {ω : Om} {H : Hp} {d : D} {v : V} {ds : List Dt} (rp : Rep W F ω H) (r : RV W v d) (h : view ω d = some (.tup ds)) : RV W v (.dat (.tup ds)) := by
  cases d with
  | raw _ => cases h
  | dat d =>
    cases Option.some.inj h
    exact r
  | ptr l =>
    obtain ⟨_, rfl⟩ := r
    have h' : (match ω[l]? with
      | some (some c) => c.data
      | _ => none) = some (.tup ds) := h
    cases hc : ω[l]? with
    | none =>
      rw [hc] at h'
      cases h'
    | some oc =>
      cases oc with
      | none =>
        rw [hc] at h'
        cases h'
      | some c =>
        rw [hc] at h'
        have C' := rp.cell l c hc
        cases c with
        | lst _ => cases h'
        | dic _ _ => cases h'
        | box _ => cases h'
        | ins _ _ _ => cases h'
        | fz d =>
          cases Option.some.inj h'
          exact C'
/-! ### + -/
def rAddD : W2 := fun a b ω Q => match a, b with
  | .dat (.int i), .dat (.int j) => Q (dI (i + j)) ω
  | .dat (.str y), .dat (.str z) => y.length + z.length ≤ sizeLine ∧ Q (dS (y ++ z)) ω
  | _, _ => (∃ xs ys, view ω a = some (.lst xs) ∧ view ω b = some (.lst ys) ∧ xs.length + ys.length ≤ 7000 ∧ Q (.ptr ω.length) (ω ++ [some (.lst (xs ++ ys))])) ∨
    ∃ xs ys, view ω a = some (.tup xs) ∧ view ω b = some (.tup ys) ∧ xs.length + ys.length ≤ 7000 ∧ Q (.dat (.tup (xs ++ ys))) ω
def rAddV (K : PySem.W.Frag) : R2 := fun x y H Q => rI0 (fun i j => .int (i + j)) x y H Q ∨ (∃ i j, x = .str i ∧ y = .str j ∧ i.length + j.length ≤ sizeLine ∧ Q (.str (i ++ j)) H) ∨ rCat x y H Q ∨ rCatA K x y H Q
theorem op_addD {Y : Cx} : OpR Y (binaryOp .Add) (rAddV Y.K) := opR_or op_add (opR_or op_add_str (opR_or op_cat op_catA))
theorem lift_add {K : PySem.W.Frag} : Lift2 (rAddV K) rAddD := by
  intro W F ω H x y dx dy Q R rp rx ry h q
  unfold rAddD at h
  split at h
  · cases rx
    cases ry
    exact .inl ⟨_, _, rfl, rfl, give rp q (d := dI _) (.int _) h⟩
  · cases rx
    cases ry
    exact .inr (.inl ⟨_, _, rfl, rfl, h.1, give rp q (d := dS _) (.str _) h.2⟩)
  · rcases h with ⟨xs, ys, h1, h2, h3, h4⟩ | ⟨xs, ys, h1, h2, h3, h4⟩
    · obtain ⟨a, us, rfl, ea, ra⟩ := view_lst rp rx h1
      obtain ⟨b, ws, rfl, eb, rb⟩ := view_lst rp ry h2
      exact .inr (.inr (.inl ⟨a, b, us, ws, rfl, rfl, ea, eb, line_le (by rw [ra.len, rb.len]; exact h3), newL rp q (ra.app rb) h4⟩))
    · obtain ⟨a, us, rfl, ea, ra⟩ := view_tup rp rx h1
      obtain ⟨b, ws, rfl, eb, rb⟩ := view_tup rp ry h2
      refine .inr (.inr (.inr ⟨a, b, us, ws, rfl, rfl, .of ea, .of eb, line_le (by rw [ra.len, rb.len]; exact h3), fun e => ?_, fun _ e => ?_, fun _ _ => newT rp q (ra.app rb) h4⟩))
      · subst e
        cases ra
        have hb : RV W (.ref b) (.dat (.tup ys)) := tup_self rp ry h2
        exact give rp q (d := .dat (.tup ys)) hb h4
      · subst e
        cases rb
        rw [List.append_nil] at h4
        exact give rp q (d := .dat (.tup xs)) (tup_self rp rx h1) h4
theorem de_add {K : PySem.W.Frag} (ha : DE X a wa) (hb : DE X b wb) (hK : ∀ i, (X i).K = K := by intro _; rfl) : DE X (.BinOp a .Add b pos) (wOp rAddD wa wb) := de_op (fun i => hK i ▸ op_addD) (lift_add (K := K)) ha hb
end
end Dl
set_option Elab.async false
set_option linter.all false
set_option maxRecDepth 100000
set_option maxHeartbeats 2000000
/-! D8: data as the library's data: ==, in, repr. -/
namespace Dl
open PySem PySem.Spec PyProof.Rows L2 G
def pyK : Key → PyData
  | .inl i => .int i
  | .inr z => .str z
mutual
def py : Dt → PyData
  | .non => .none
  | .bl b => .bool b
  | .int i => .int i
  | .str z => .str z
  | .lst xs => .list (pys xs)
  | .tup xs => .tuple (pys xs)
  | .dic ks xs => .dict ((ks.map pyK).zip (pys xs))
  | .obj _ _ _ => .none
def pys : List Dt → List PyData
  | [] => []
  | x :: xs => py x :: pys xs
end
theorem pys_map : ∀ xs : List Dt, pys xs = xs.map py
  | [] => rfl
  | x :: xs => by rw [pys, pys_map xs, List.map_cons]
mutual
/-- no dict, no object in it -/
def plain : Dt → Bool
  | .dic _ _ | .obj _ _ _ => false
  | .lst xs | .tup xs => plains xs
  | .non | .bl _ | .int _ | .str _ => true
def plains : List Dt → Bool
  | [] => true
  | x :: xs => plain x && plains xs
end
theorem plains_of : ∀ {xs : List Dt}, (∀ x ∈ xs, plain x = true) → plains xs = true
  | [], _ => rfl
  | x :: xs, h => by
    rw [plains, h x List.mem_cons_self, plains_of fun y hy => h y (List.mem_cons_of_mem _ hy)]
    rfl
section
variable {K : PySem.W.Frag} {H : Hp}
mutual
theorem rd_dp : ∀ (d : Dt) {v : V}, RD H v d → plain d = true → Dp K H v (py d)
  | .non, _, h, _ => by
    cases h
    exact .non
  | .bl b, _, h, _ => by
    cases h
    exact .bl b
  | .int i, _, h, _ => by
    cases h
    exact .int i
  | .str z, _, h, _ => by
    cases h
    exact .str z
  | .lst ds, _, h, p => by
    cases h with
    | lst e r => exact .lst (.of e) (rds_dp ds r (by simpa [plain] using p))
  | .tup ds, _, h, p => by
    cases h with
    | tup e r => exact .tup (.of e) (rds_dp ds r (by simpa [plain] using p))
  | .dic _ _, _, _, p => by simp [plain] at p
  | .obj _ _ _, _, _, p => by simp [plain] at p
theorem rds_dp : ∀ (ds : List Dt) {vs : List V}, RDs H vs ds → plains ds = true → DpAll K H vs (pys ds)
  | [], _, h, _ => by
    cases h
    exact .nil
  | d :: ds, _, h, p => by
    rw [plains, Bool.and_eq_true] at p
    cases h with
    | cons a b => exact .cons (rd_dp d a p.1) (rds_dp ds b p.2)
end
end
/-- data that == takes, not too deep -/
structure Sh (k : Nat) (d : Dt) : Prop where
  p : plain d = true
  l : (py d).canLay0 = true
  d : (py d).depth ≤ k
theorem Sh.mono {j k : Nat} {d : Dt} (h : Sh j d) (le : j ≤ k) : Sh k d := ⟨h.p, h.l, Nat.le_trans h.d le⟩
theorem Sh.int (k : Nat) (i : Int) : Sh k (.int i) := ⟨rfl, rfl, Nat.zero_le _⟩
theorem Sh.bl (k : Nat) (b : Bool) : Sh k (.bl b) := ⟨rfl, rfl, Nat.zero_le _⟩
theorem Sh.non (k : Nat) : Sh k .non := ⟨rfl, rfl, Nat.zero_le _⟩
theorem Sh.str (k : Nat) {z : Str} (h : ∀ c ∈ z.cps.toList, c < 0x110000) : Sh k (.str z) := by
  refine ⟨rfl, ?_, Nat.zero_le _⟩
  show z.cps.all (· < 0x110000) = true
  rw [Array.all_eq_true]
  intro i hi
  exact decide_eq_true (h _ (by simp))
theorem Sh.all {k : Nat} : ∀ {xs : List Dt}, (∀ x ∈ xs, Sh k x) → plains xs = true ∧ PyData.canLayAll0 (pys xs) = true ∧ PyData.depthAll (pys xs) ≤ k
  | [], _ => ⟨rfl, rfl, Nat.zero_le _⟩
  | x :: xs, h => by
    obtain ⟨a1, a2, a3⟩ := h x List.mem_cons_self
    obtain ⟨b1, b2, b3⟩ := Sh.all (xs := xs) fun y hy => h y (List.mem_cons_of_mem _ hy)
    refine ⟨?_, ?_, ?_⟩
    · rw [plains, a1, b1]
      rfl
    · rw [pys, PyData.canLayAll0, a2, b2]
      rfl
    · rw [pys, PyData.depthAll]
      exact Nat.max_le.mpr ⟨a3, b3⟩
theorem Sh.lst {k : Nat} {xs : List Dt} (h : ∀ x ∈ xs, Sh k x) : Sh (k + 1) (.lst xs) := by
  obtain ⟨b1, b2, b3⟩ := Sh.all h
  refine ⟨by simpa [plain] using b1, by rw [py, PyData.canLay0]; exact b2, by rw [py, PyData.depth]; omega⟩
theorem Sh.tup {k : Nat} {xs : List Dt} (h : ∀ x ∈ xs, Sh k x) : Sh (k + 1) (.tup xs) := by
  obtain ⟨b1, b2, b3⟩ := Sh.all h
  refine ⟨by simpa [plain] using b1, by rw [py, PyData.canLay0]; exact b2, by rw [py, PyData.depth]; omega⟩
theorem Sh.shaped {d : Dt} (h : Sh 60 d) : SeqAt.shaped (py d) = true := by
  unfold SeqAt.shaped
  rw [h.l, decide_eq_true (Nat.le_trans h.d (by decide))]
  rfl
abbrev eqb (x y : Dt) : Bool := PyData.eqv (py x) (py y)
mutual
/-- no truth value in it (they equal ints), no dict, no object -/
def noB : Dt → Bool
  | .dic _ _ | .obj _ _ _ | .bl _ => false
  | .lst xs | .tup xs => noBs xs
  | .non | .int _ | .str _ => true
def noBs : List Dt → Bool
  | [] => true
  | x :: xs => noB x && noBs xs
end
theorem noBs_of : ∀ {xs : List Dt}, (∀ x ∈ xs, noB x = true) → noBs xs = true
  | [], _ => rfl
  | x :: xs, h => by
    rw [noBs, h x List.mem_cons_self, noBs_of fun y hy => h y (List.mem_cons_of_mem _ hy)]
    rfl
mutual
theorem eqb_iff : ∀ (x y : Dt), noB x = true → noB y = true → (eqb x y = true ↔ x = y)
  | .non, y, _, hy => by
    cases y <;> simp [eqb, py, PyData.eqv, noB] at hy ⊢
  | .int i, y, _, hy => by
    cases y <;> simp [eqb, py, PyData.eqv, noB] at hy ⊢
  | .str z, y, _, hy => by
    cases y <;> simp [eqb, py, PyData.eqv, noB] at hy ⊢
  | .lst xs, y, hx, hy => by
    cases y with
    | lst ys =>
      have := eqbs_iff xs ys (by simpa [noB] using hx) (by simpa [noB] using hy)
      rw [eqb, py, py, PyData.eqv, this]
      exact ⟨fun h => by rw [h], fun h => by injection h⟩
    | _ => simp [eqb, py, PyData.eqv, noB] at hy ⊢
  | .tup xs, y, hx, hy => by
    cases y with
    | tup ys =>
      have := eqbs_iff xs ys (by simpa [noB] using hx) (by simpa [noB] using hy)
      rw [eqb, py, py, PyData.eqv, this]
      exact ⟨fun h => by rw [h], fun h => by injection h⟩
    | _ => simp [eqb, py, PyData.eqv, noB] at hy ⊢
  | .bl _, _, h, _ => by simp [noB] at h
  | .dic _ _, _, h, _ => by simp [noB] at h
  | .obj _ _ _, _, h, _ => by simp [noB] at h
theorem eqbs_iff : ∀ (xs ys : List Dt), noBs xs = true → noBs ys = true → (PyData.eqvAll (pys xs) (pys ys) = true ↔ xs = ys)
  | [], ys, _, _ => by
    cases ys <;> simp [pys, PyData.eqvAll]
  | x :: xs, [], _, _ => by simp [pys, PyData.eqvAll]
  | x :: xs, y :: ys, hx, hy => by
    rw [noBs, Bool.and_eq_true] at hx hy
    have h1 := eqb_iff x y hx.1 hy.1
    have h2 := eqbs_iff xs ys hx.2 hy.2
    rw [pys, pys, PyData.eqvAll, Bool.and_eq_true, h1, h2]
    exact ⟨fun ⟨a, b⟩ => by rw [a, b], fun h => by injection h with a b; exact ⟨a, b⟩⟩
end
theorem eqb_self {x : Dt} (h : noB x = true) : eqb x x = true := (eqb_iff x x h h).mpr rfl
theorem eqb_ne {x y : Dt} (h : noB x = true) (h' : noB y = true) (n : x ≠ y) : eqb x y = false := Bool.eq_false_iff.mpr fun e => n ((eqb_iff x y h h').mp e)
open Classical in
theorem eqb_dec {x y : Dt} (h : noB x = true) (h' : noB y = true) : eqb x y = decide (x = y) := by
  by_cases e : x = y
  · rw [decide_eq_true e, e, eqb_self h']
  · rw [decide_eq_false e, eqb_ne h h' e]
/-! ### ==, != -/
def rEqDt (pos : Bool) : W2 := fun a b ω Q => ∃ x y, view ω a = some x ∧ view ω b = some y ∧ Sh 60 x ∧ Sh 60 y ∧ Q (dB (cond pos (eqb x y) (!eqb x y))) ω
section
variable {ι : Type} {X : ι → Cx} {a b e o : Expr} {es : List Expr} {wa wb we wo : WE} {ws : WA} {pos p : Pos} {x : Str} {wt : WT}
theorem lift_eq {K : PySem.W.Frag} : Lift2 (rEqD K) (rEqDt true) := by
  intro W F ω H x y dx dy Q R rp rx ry ⟨u, v, h1, h2, s1, s2, h⟩ q
  exact ⟨py u, py v, rd_dp u (view_rd rp rx h1) s1.p, rd_dp v (view_rd rp ry h2) s2.p, s1.shaped, s2.shaped, give rp q (d := dB _) (.bl _) h⟩
theorem lift_ne {K : PySem.W.Frag} : Lift2 (rNeD K) (rEqDt false) := by
  intro W F ω H x y dx dy Q R rp rx ry ⟨u, v, h1, h2, s1, s2, h⟩ q
  exact ⟨py u, py v, rd_dp u (view_rd rp rx h1) s1.p, rd_dp v (view_rd rp ry h2) s2.p, s1.shaped, s2.shaped, give rp q (d := dB _) (.bl _) h⟩
theorem de_eq {K : PySem.W.Frag} (hu : ∀ i, (X i).A.units + 64 < cLine) (ha : DE X a wa) (hb : DE X b wb) (hK : ∀ i, (X i).K = K := by intro _; rfl) : DE X (.Compare a [.Eq] [b] pos) (wOp (rEqDt true) wa wb) :=
  de_cmp (fun i => hK i ▸ op_eqD (hu i)) (lift_eq (K := K)) ha hb (nobehind b (by decide) (by decide))
theorem de_ne {K : PySem.W.Frag} (hu : ∀ i, (X i).A.units + 64 < cLine) (ha : DE X a wa) (hb : DE X b wb) (hK : ∀ i, (X i).K = K := by intro _; rfl) : DE X (.Compare a [.NotEq] [b] pos) (wOp (rEqDt false) wa wb) :=
  de_cmp (fun i => hK i ▸ op_neD (hu i)) (lift_ne (K := K)) ha hb (nobehind b (by decide) (by decide))
theorem dt_eq {K : PySem.W.Frag} (hu : ∀ i, (X i).A.units + 64 < cLine) (ha : DE X a wa) (hb : DE X b wb) (hK : ∀ i, (X i).K = K := by intro _; rfl) : DT X (.Compare a [.Eq] [b] pos) (wB (wOp (rEqDt true) wa wb)) :=
  dt_cmp (fun i => hK i ▸ op_eqD (hu i)) (lift_eq (K := K)) ha hb (nobehind b (by decide) (by decide))
theorem dt_ne {K : PySem.W.Frag} (hu : ∀ i, (X i).A.units + 64 < cLine) (ha : DE X a wa) (hb : DE X b wb) (hK : ∀ i, (X i).K = K := by intro _; rfl) : DT X (.Compare a [.NotEq] [b] pos) (wB (wOp (rEqDt false) wa wb)) :=
  dt_cmp (fun i => hK i ▸ op_neD (hu i)) (lift_ne (K := K)) ha hb (nobehind b (by decide) (by decide))
/-! ### in -/
def rInV (K : PySem.W.Frag) (neg : Bool) : R2 := fun x y H Q => ∃ d ds, Dp K H x d ∧ (Dp K H y (.list ds) ∨ Dp K H y (.tuple ds)) ∧ SeqAt.shaped d = true ∧ SeqAt.shaped (.list ds) = true ∧ Q (.bl (cond neg (!ds.any fun z => PyData.eqv z d) (ds.any fun z => PyData.eqv z d))) H
theorem op_inV {Y : Cx} (hu : Y.A.units + 65 < cLine) : OpR Y (compareOp .In) (rInV Y.K false) := by
  intro ps st sl Hh x y v u Q I rx ry h
  obtain ⟨d, ds, hd, he, sd, se, q⟩ := h
  obtain ⟨as, r1⟩ := Dp.reads I d x v hd rx
  rcases he with he | he
  · obtain ⟨bs, r2⟩ := Dp.reads I (.list ds) y u he ry
    exact SeqAt.in_list_reads r2 r1 (SeqAt.canLay_of_shaped se) (SeqAt.canLay_of_shaped sd) (room_in_shaped sd hu) ⟨.bl _, Hh, I, rfl, q⟩
  · obtain ⟨bs, r2⟩ := Dp.reads I (.tuple ds) y u he ry
    exact SeqAt.in_tuple_reads r2 r1 (SeqAt.canLay_of_shaped (d := .list ds) se) (SeqAt.canLay_of_shaped sd) (room_in_shaped sd hu) ⟨.bl _, Hh, I, rfl, q⟩
theorem op_notInV {Y : Cx} (hu : Y.A.units + 65 < cLine) : OpR Y (compareOp .NotIn) (rInV Y.K true) := by
  intro ps st sl Hh x y v u Q I rx ry h
  obtain ⟨d, ds, hd, he, sd, se, q⟩ := h
  obtain ⟨as, r1⟩ := Dp.reads I d x v hd rx
  rcases he with he | he
  · obtain ⟨bs, r2⟩ := Dp.reads I (.list ds) y u he ry
    exact SeqAt.notIn_list_reads r2 r1 (SeqAt.canLay_of_shaped se) (SeqAt.canLay_of_shaped sd) (room_in_shaped sd hu) ⟨.bl _, Hh, I, rfl, q⟩
  · obtain ⟨bs, r2⟩ := Dp.reads I (.tuple ds) y u he ry
    exact SeqAt.notIn_tuple_reads r2 r1 (SeqAt.canLay_of_shaped (d := .list ds) se) (SeqAt.canLay_of_shaped sd) (room_in_shaped sd hu) ⟨.bl _, Hh, I, rfl, q⟩
def rInDt (neg : Bool) : W2 := fun a b ω Q => ∃ x ys, view ω a = some x ∧ (view ω b = some (.lst ys) ∨ view ω b = some (.tup ys)) ∧ Sh 60 x ∧ (∀ y ∈ ys, Sh 59 y) ∧ Q (dB (cond neg (!ys.any fun y => eqb y x) (ys.any fun y => eqb y x))) ω
theorem lift_in {K : PySem.W.Frag} (neg : Bool) : Lift2 (rInV K neg) (rInDt neg) := by
  intro W F ω H x y dx dy Q R rp rx ry ⟨u, vs, h1, h2, s1, s2, h⟩ q
  have e : ((pys vs).any fun z => PyData.eqv z (py u)) = (vs.any fun y => eqb y u) := by
    rw [pys_map, List.any_map]
    rfl
  refine ⟨py u, pys vs, rd_dp u (view_rd rp rx h1) s1.p, ?_, s1.shaped, (Sh.lst s2).shaped, give rp q (d := dB _) (.bl _) (by rw [e]; exact h)⟩
  rcases h2 with h2 | h2
  · exact .inl (rd_dp _ (view_rd rp ry h2) (Sh.lst s2).p)
  · exact .inr (rd_dp _ (view_rd rp ry h2) (Sh.tup s2).p)
theorem de_in {K : PySem.W.Frag} (hu : ∀ i, (X i).A.units + 65 < cLine) (ha : DE X a wa) (hb : DE X b wb) (hm : behindInMarks .In b = false := by rfl) (hK : ∀ i, (X i).K = K := by intro _; rfl) : DE X (.Compare a [.In] [b] pos) (wOp (rInDt false) wa wb) :=
  de_cmp (fun i => hK i ▸ op_inV (hu i)) (lift_in (K := K) false) ha hb hm
theorem de_notIn {K : PySem.W.Frag} (hu : ∀ i, (X i).A.units + 65 < cLine) (ha : DE X a wa) (hb : DE X b wb) (hm : behindInMarks .NotIn b = false := by rfl) (hK : ∀ i, (X i).K = K := by intro _; rfl) : DE X (.Compare a [.NotIn] [b] pos) (wOp (rInDt true) wa wb) :=
  de_cmp (fun i => hK i ▸ op_notInV (hu i)) (lift_in (K := K) true) ha hb hm
theorem dt_in {K : PySem.W.Frag} (hu : ∀ i, (X i).A.units + 65 < cLine) (ha : DE X a wa) (hb : DE X b wb) (hm : behindInMarks .In b = false := by rfl) (hK : ∀ i, (X i).K = K := by intro _; rfl) : DT X (.Compare a [.In] [b] pos) (wB (wOp (rInDt false) wa wb)) :=
  dt_cmp (fun i => hK i ▸ op_inV (hu i)) (lift_in (K := K) false) ha hb hm
theorem dt_notIn {K : PySem.W.Frag} (hu : ∀ i, (X i).A.units + 65 < cLine) (ha : DE X a wa) (hb : DE X b wb) (hm : behindInMarks .NotIn b = false := by rfl) (hK : ∀ i, (X i).K = K := by intro _; rfl) : DT X (.Compare a [.NotIn] [b] pos) (wB (wOp (rInDt true) wa wb)) :=
  dt_cmp (fun i => hK i ▸ op_notInV (hu i)) (lift_in (K := K) true) ha hb hm
/-- a sign in a text -/
def rInS : W2 := fun a b ω Q => ∃ c z, a = dS ⟨#[c]⟩ ∧ b = dS z ∧ Q (dB (decide (c ∈ z.cps.toList))) ω
theorem lift_inS : Lift2 (fun x y H Q => ∃ (c : Nat) (z : Str), x = .str ⟨#[c]⟩ ∧ y = .str z ∧ Q (.bl (decide (c ∈ z.cps.toList))) H) rInS := by
  rintro W F ω H x y dx dy Q R rp rx ry ⟨c, z, rfl, rfl, h⟩ q
  cases rx
  cases ry
  exact ⟨c, z, rfl, rfl, give rp q (d := dB _) (.bl _) h⟩
theorem de_inS (ha : DE X a wa) (hb : DE X b wb) (hm : behindInMarks .In b = false := by rfl) : DE X (.Compare a [.In] [b] pos) (wOp rInS wa wb) := de_cmp (fun _ => op_in_sign) lift_inS ha hb hm
end
end Dl
set_option Elab.async false
set_option linter.all false
set_option maxRecDepth 100000
set_option maxHeartbeats 2000000
/-! D9: indices, slices, len, list, tuple, max, min, all, any, sorted, append, pop, index, isinstance. -/
namespace Dl
open PySem PySem.Spec PyProof.Rows L2 G
section
variable {ι : Type} {X : ι → Cx} {a b c e o : Expr} {es : List Expr} {wa wb wc we wo : WE} {ws : WA} {pos p : Pos} {x : Str} {wt : WT}
/-! ### chains -/
def wChain (r r' : W2) (wa wb wc : WE) : WE := fun ρ ω Q => wa ρ ω fun x ω1 => wb ρ ω1 fun y ω2 => r x y ω2 fun z ω3 => match z with
  | .dat (.bl true) => wc ρ ω3 fun u ω4 => r' y u ω4 Q
  | .dat (.bl false) => Q (dB false) ω3
  | _ => False
theorem chain_lift {r r' : R2} {rd rd' : W2} {ta tb tc : TE} (l : Lift2 r rd) (l' : Lift2 r' rd') (ha : ∀ W F ρ ω σ H Q R, SL W σ ρ → Rep W F ω H → wa ρ ω Q → Cont W F Q R → ta σ H R) (hb : ∀ W F ρ ω σ H Q R, SL W σ ρ → Rep W F ω H → wb ρ ω Q → Cont W F Q R → tb σ H R)
    (hc : ∀ W F ρ ω σ H Q R, SL W σ ρ → Rep W F ω H → wc ρ ω Q → Cont W F Q R → tc σ H R) (W F ρ ω σ H) (Q : DK) (R : VK) (s : SL W σ ρ) (rp : Rep W F ω H) (h : wChain rd rd' wa wb wc ρ ω Q) (q : Cont W F Q R) : tChain r r' ta tb tc σ H R := by
  refine ha W F ρ ω σ H _ _ s rp h fun W1 ω1 dx x H1 e1 rp1 rx h1 => ?_
  refine hb W1 F ρ ω1 σ H1 _ _ (s.ext e1) rp1 h1 fun W2 ω2 dy y H2 e2 rp2 ry h2 => ?_
  refine l W2 F ω2 H2 x y dx dy _ _ rp2 (rx.ext e2) ry h2 fun W3 ω3 dz z H3 e3 rp3 rz h3 => ?_
  split at h3
  · cases rz
    refine ⟨true, rfl, ?_⟩
    rw [if_pos rfl]
    refine hc W3 F ρ ω3 σ H3 _ _ (s.ext (e1.trans (e2.trans e3))) rp3 h3 fun W4 ω4 du u H4 e4 rp4 ru h4 => ?_
    exact l' W4 F ω4 H4 y u dy du Q R rp4 (ry.ext (e3.trans e4)) ru h4 (q.ext (e1.trans (e2.trans (e3.trans e4))))
  · cases rz
    refine ⟨false, rfl, ?_⟩
    rw [if_neg Bool.false_ne_true]
    exact q W3 ω3 (dB false) _ H3 (e1.trans (e2.trans e3)) rp3 (RD.bl false) h3
  · exact h3.elim
theorem de_chain {op op' : CmpOp} {r r' : R2} {rd rd' : W2} (ho : ∀ i, OpR (X i) (compareOp op) r) (l : Lift2 r rd) (ho' : ∀ i, OpR (X i) (compareOp op') r') (l' : Lift2 r' rd') (ha : DE X a wa) (hb : DE X b wb) (hc : DE X c wc) (hm : lastMarks [op, op'] [b, c] = false := by with_unfolding_all rfl) :
    DE X (.Compare a [op, op'] [b, c] pos) (wChain rd rd' wa wb wc) := by
  obtain ⟨ta, pa, qa⟩ := ha.ex
  obtain ⟨tb, pb, qb⟩ := hb.ex
  obtain ⟨tc, pc, qc⟩ := hc.ex
  exact ⟨tChain r r' ta tb tc, fun i => pe_chain (ho i) (ho' i) (pa i) (pb i) (pc i) hm, chain_lift l l' qa qb qc⟩
theorem dt_chain {op op' : CmpOp} {r r' : R2} {rd rd' : W2} (ho : ∀ i, OpR (X i) (compareOp op) r) (l : Lift2 r rd) (ho' : ∀ i, OpR (X i) (compareOp op') r') (l' : Lift2 r' rd') (ha : DE X a wa) (hb : DE X b wb) (hc : DE X c wc) (hm : lastMarks [op, op'] [b, c] = false := by with_unfolding_all rfl) :
    DT X (.Compare a [op, op'] [b, c] pos) (wB (wChain rd rd' wa wb wc)) := by
  obtain ⟨ta, pa, qa⟩ := ha.ex
  obtain ⟨tb, pb, qb⟩ := hb.ex
  obtain ⟨tc, pc, qc⟩ := hc.ex
  refine ⟨tTest (tChain r r' ta tb tc), fun i => pt_chain (ho i) (ho' i) (pa i) (pb i) (pc i) hm, fun W F ρ ω σ H Q R s rp h q => ?_⟩
  refine chain_lift l l' qa qb qc W F ρ ω σ H _ _ s rp h fun W1 ω1 d v H1 e1 rp1 r1 h1 => ?_
  obtain ⟨k, rfl, h2⟩ := wB_inv h1
  cases r1
  exact ⟨k, rfl, q W1 ω1 k H1 e1 rp1 h2⟩
theorem de_lele (ha : DE X a wa) (hb : DE X b wb) (hc : DE X c wc) (hm : lastMarks [.LtE, .LtE] [b, c] = false := by with_unfolding_all rfl) : DE X (.Compare a [.LtE, .LtE] [b, c] pos) (wChain rLeD rLeD wa wb wc) := de_chain (fun _ => op_le) (lift_I0 fun _ _ _ => .bl _) (fun _ => op_le) (lift_I0 fun _ _ _ => .bl _) ha hb hc hm
theorem dt_lele (ha : DE X a wa) (hb : DE X b wb) (hc : DE X c wc) (hm : lastMarks [.LtE, .LtE] [b, c] = false := by with_unfolding_all rfl) : DT X (.Compare a [.LtE, .LtE] [b, c] pos) (wB (wChain rLeD rLeD wa wb wc)) := dt_chain (fun _ => op_le) (lift_I0 fun _ _ _ => .bl _) (fun _ => op_le) (lift_I0 fun _ _ _ => .bl _) ha hb hc hm
/-! ### a[i] -/
def rIxDt : W2 := fun a b ω Q => match b with
  | .dat (.int i) => (∃ ds x, (view ω a = some (.lst ds) ∨ view ω a = some (.tup ds)) ∧ atI ds i = some x ∧ Q (.dat x) ω) ∨ ∃ z c, a = dS z ∧ z.length ≤ 7000 ∧ atI z.cps.toList i = some c ∧ Q (dS ⟨#[c]⟩) ω
  | _ => False
theorem atI_rd {J : Hp} {vs : List V} {ds : List Dt} {i : Int} {x : Dt} (r : RDs J vs ds) (h : atI ds i = some x) : ∃ v, atI vs i = some v ∧ RD J v x := by
  unfold atI at h ⊢
  rw [r.len]
  cases e : ixN ds.length i with
  | none =>
    rw [e] at h
    cases h
  | some j =>
    rw [e] at h
    exact r.get h
theorem lift_ix {K : PySem.W.Frag} : Lift2 (rIx K) rIxDt := by
  intro W F ω H x y dx dy Q R rp rx ry h q
  unfold rIxDt at h
  split at h
  · cases ry
    rcases h with ⟨ds, z, h1, h2, h3⟩ | ⟨z, ch, rfl, h1, h2, h3⟩
    · rcases h1 with h1 | h1
      · obtain ⟨a, vs, rfl, ea, ra⟩ := view_lst rp rx h1
        obtain ⟨v, e1, r1⟩ := atI_rd ra h2
        exact .inl ⟨a, vs, _, v, rfl, rfl, .of ea, e1, give rp q (d := .dat z) r1 h3⟩
      · obtain ⟨a, vs, rfl, ea, ra⟩ := view_tup rp rx h1
        obtain ⟨v, e1, r1⟩ := atI_rd ra h2
        exact .inr (.inl ⟨a, vs, _, v, rfl, rfl, .of ea, e1, give rp q (d := .dat z) r1 h3⟩)
    · cases rx
      exact .inr (.inr ⟨z, _, ch, rfl, rfl, line_le h1, h2, give rp q (d := dS _) (.str _) h3⟩)
  · exact h.elim
theorem de_at {K : PySem.W.Frag} (ha : DE X a wa) (hb : DE X b wb) (hK : ∀ i, (X i).K = K := by intro _; rfl) (hs : PlainIx b := by exact fun _ _ => rfl) : DE X (.Subscript a b pos) (wOp rIxDt wa wb) := de_ix (fun i => hK i ▸ ix_seq) (lift_ix (K := K)) ha hb hs
/-! ### a[lo:hi] -/
abbrev WO := Rho → Om → (Option Int → Om → Prop) → Prop
structure DO (X : ι → Cx) (e : Option Expr) (w : WO) : Prop where
  ex : ∃ t : TO, (∀ i, PO (X i) e t) ∧ ∀ W F ρ ω σ H Q R, SL W σ ρ → Rep W F ω H → w ρ ω Q → (∀ W' ω' o H', Ext W W' → Rep W' F ω' H' → Q o ω' → R o H') → t σ H R
def woNone : WO := fun _ ω Q => Q none ω
theorem do_none : DO X none woNone := ⟨tNoPart, fun _ => po_none, fun W F ρ ω σ H Q R s rp h c => c W ω none H (Ext.refl W) rp h⟩
def woSome (we : WE) : WO := fun ρ ω Q => we ρ ω fun d ω1 => match d with
  | .dat (.int i) => Q (some i) ω1
  | _ => False
theorem do_some (he : DE X e we) : DO X (some e) (woSome we) := by
  obtain ⟨t, p, q⟩ := he.ex
  refine ⟨tPart t, fun i => po_some (p i), fun W F ρ ω σ H Q R s rp h c => ?_⟩
  refine q W F ρ ω σ H _ _ s rp h fun W1 ω1 d v H1 e1 rp1 r1 h1 => ?_
  split at h1
  · cases r1
    exact ⟨_, rfl, c W1 ω1 _ H1 e1 rp1 h1⟩
  · exact h1.elim
def cutD (xs : List Dt) (lo hi : Option Int) : List Dt := (xs.drop (HT.sIx xs.length 0 lo)).take (HT.sIx xs.length xs.length hi - HT.sIx xs.length 0 lo)
theorem cut_rd {J : Hp} {vs : List V} {ds : List Dt} (r : RDs J vs ds) (lo hi : Option Int) : RDs J (cutV vs lo hi) (cutD ds lo hi) := by
  unfold cutV cutD
  rw [r.len]
  exact (r.drop _).take _
def wSl (we : WE) (wl wh : WO) : WE := fun ρ ω Q => we ρ ω fun d ω1 => wl ρ ω1 fun lo ω2 => wh ρ ω2 fun hi ω3 =>
  (∃ xs, view ω3 d = some (.lst xs) ∧ Q (.ptr ω3.length) (ω3 ++ [some (.lst (cutD xs lo hi))])) ∨ (∃ xs, view ω3 d = some (.tup xs) ∧ Q (.dat (.tup (cutD xs lo hi))) ω3) ∨ ∃ z, d = dS z ∧ z.length ≤ 7000 ∧ Q (dS (cutS z lo hi)) ω3
theorem cutV_whole {vs : List V} {lo hi : Option Int} (h : HT.sIx vs.length 0 lo = 0 ∧ HT.sIx vs.length vs.length hi = vs.length) : cutV vs lo hi = vs := by
  unfold cutV
  rw [h.1, h.2, Nat.sub_zero, List.drop_zero, List.take_length]
theorem de_slice {K : PySem.W.Frag} {lo hi : Option Expr} {wl wh : WO} {p2 : Pos} (he : DE X e we) (hl : DO X lo wl) (hh : DO X hi wh) (hK : ∀ i, (X i).K = K := by intro _; rfl) : DE X (.Subscript e (.Slice lo hi none p2) pos) (wSl we wl wh) := by
  obtain ⟨t, p, q⟩ := he.ex
  obtain ⟨tl, pl, ql⟩ := hl.ex
  obtain ⟨th, ph, qh⟩ := hh.ex
  refine ⟨tSl (fun x lo hi H Q => rSlL K x lo hi H Q ∨ rSlA K x lo hi H Q ∨ rSlS x lo hi H Q) t tl th, fun i => pe_slice ((hK i ▸ sl_list).or ((hK i ▸ sl_tupA).or sl_str)) (p i) (pl i) (ph i), fun W F ρ ω σ H Q R s rp h c => ?_⟩
  refine q W F ρ ω σ H _ _ s rp h fun W1 ω1 d v H1 e1 rp1 r1 h1 => ?_
  refine ql W1 F ρ ω1 σ H1 _ _ (s.ext e1) rp1 h1 fun W2 ω2 l H2 e2 rp2 h2 => ?_
  refine qh W2 F ρ ω2 σ H2 _ _ (s.ext (e1.trans e2)) rp2 h2 fun W3 ω3 u H3 e3 rp3 h3 => ?_
  have r3 := r1.ext (e2.trans e3)
  have c3 := c.ext (e1.trans (e2.trans e3))
  rcases h3 with ⟨xs, hv, h3⟩ | ⟨xs, hv, h3⟩ | ⟨z, rfl, hz, h3⟩
  · obtain ⟨a, vs, rfl, ea, ra⟩ := view_lst rp3 r3 hv
    exact .inl ⟨a, vs, rfl, .of ea, newL rp3 c3 (cut_rd ra l u) h3⟩
  · obtain ⟨a, vs, rfl, ea, ra⟩ := view_tup rp3 r3 hv
    refine .inr (.inl ⟨a, vs, rfl, .of ea, fun w => ?_, fun _ => newT rp3 c3 (cut_rd ra l u) h3⟩)
    have e0 : cutD xs l u = xs := by
      unfold cutD
      rw [← ra.len, w.1, w.2, Nat.sub_zero, List.drop_zero, ra.len, List.take_length]
    rw [e0] at h3
    exact give rp3 c3 (d := .dat (.tup xs)) (tup_self rp3 r3 hv) h3
  · cases r3
    exact .inr (.inr ⟨z, rfl, line_le hz, give rp3 c3 (d := dS _) (.str _) h3⟩)
/-- xs[::-1] of a list -/
def wRev (we : WE) : WE := fun ρ ω Q => we ρ ω fun d ω1 => ∃ xs, view ω1 d = some (.lst xs) ∧ Q (.ptr ω1.length) (ω1 ++ [some (.lst xs.reverse)])
theorem de_rev {K : PySem.W.Frag} {k : Nat} {p1 p2 p3 : Pos} (he : DE X e we) (hK : ∀ i, (X i).K = K := by intro _; rfl) : DE X (.Subscript e (.Slice none none (some (.UnaryOp .USub (.Constant (.int 1) k p1) p2)) p3) pos) (wRev we) := by
  obtain ⟨t, p, q⟩ := he.ex
  refine ⟨tRevL K t, fun i => hK i ▸ pe_revL (p i), fun W F ρ ω σ H Q R s rp h c => ?_⟩
  refine q W F ρ ω σ H _ _ s rp h fun W1 ω1 d v H1 e1 rp1 r1 h1 => ?_
  obtain ⟨xs, hv, h1⟩ := h1
  obtain ⟨a, vs, rfl, ea, ra⟩ := view_lst rp1 r1 hv
  exact ⟨a, vs, rfl, .of ea, newL rp1 (c.ext e1) ra.rev h1⟩
end
end Dl
set_option Elab.async false
set_option linter.all false
set_option maxRecDepth 100000
set_option maxHeartbeats 2000000
/-! DA: len, list, tuple, max, min, all, any, sorted, int, append, pop, index, o[i] = v, isinstance. -/
namespace Dl
open PySem PySem.Spec PyProof.Rows L2 G
theorem rvs1 {W : Wd} {vs : List V} {d : D} (r : RVs W vs [d]) : ∃ v, vs = [v] ∧ RV W v d := by
  cases r with
  | cons a b =>
    cases b
    exact ⟨_, rfl, a⟩
theorem rvs2 {W : Wd} {vs : List V} {d d' : D} (r : RVs W vs [d, d']) : ∃ v v', vs = [v, v'] ∧ RV W v d ∧ RV W v' d' := by
  cases r with
  | cons a b =>
    obtain ⟨u, rfl, c⟩ := rvs1 b
    exact ⟨_, _, rfl, a, c⟩
/-- a new object that no data holds -/
theorem Rep.more {W : Wd} {F : Hp} {ω : Om} {H : Hp} {p : Addr} {o : HO} (R : Rep W F ω H) (hp : H p = none) : Rep W F ω (upd H p o) :=
  ⟨R.n, fun a u e => by rw [upd_ne (ne_of_none (R.sj _ _ e) hp)]; exact R.sj _ _ e, fun a u e => by rw [upd_ne (ne_of_none (R.sf _ _ e) hp)]; exact R.sf _ _ e, R.dj, fun l c e => (R.cell l c e).heap fun u q => by rw [upd_ne (ne_of_none q hp)]; exact q, R.own, R.inj⟩
section
variable {ι : Type} {X : ι → Cx} {a b c e o : Expr} {es : List Expr} {wa wb wc we wo : WE} {ws : WA} {pos p : Pos} {x : Str} {wt : WT}
/-! ### len -/
def rLenD : WN := fun ds ω Q => match ds with
  | [d] => match view ω d with
    | some (.lst xs) => Q (dI (xs.length : Nat)) ω
    | some (.tup xs) => Q (dI (xs.length : Nat)) ω
    | some (.dic ks _) => Q (dI (ks.length : Nat)) ω
    | some (.str z) => z.length ≤ 7000 ∧ Q (dI (z.length : Nat)) ω
    | _ => False
  | _ => False
def rLenDk : List V → Hp → VK → Prop := fun xs H Q => ∃ (a : Addr) (kvs : List (Key × V)), xs = [V.ref a] ∧ H a = some (.dK kvs) ∧ Q (.int kvs.length) H
theorem call_lenA {Y : Cx} : CallR Y (.builtin "len") (fun vs H Q => (∃ p ys, vs = [.ref p] ∧ (SqL Y.K H p ys ∨ SqT Y.K H p ys) ∧ Q (.int ys.length) H) ∨ (∃ z, vs = [.str z] ∧ z.length ≤ sizeLine ∧ Q (.int z.length) H) ∨ rLenDk vs H Q) := callR_or call_len_seq (callR_or call_len_str call_lenD)
theorem lift_len {K : PySem.W.Frag} : LiftN (fun vs H Q => (∃ p ys, vs = [.ref p] ∧ (SqL K H p ys ∨ SqT K H p ys) ∧ Q (.int ys.length) H) ∨ (∃ z, vs = [.str z] ∧ z.length ≤ sizeLine ∧ Q (.int z.length) H) ∨ rLenDk vs H Q) rLenD := by
  intro W F ω H vs ds Q R rp rs h q
  unfold rLenD at h
  split at h
  · obtain ⟨v, rfl, r1⟩ := rvs1 rs
    split at h
    · rename_i hv
      obtain ⟨a, us, rfl, ea, ra⟩ := view_lst rp r1 hv
      refine .inl ⟨a, us, rfl, .inl (.of ea), ?_⟩
      rw [ra.len]
      exact give rp q (d := dI _) (.int _) h
    · rename_i hv
      obtain ⟨a, us, rfl, ea, ra⟩ := view_tup rp r1 hv
      refine .inl ⟨a, us, rfl, .inr (.of ea), ?_⟩
      rw [ra.len]
      exact give rp q (d := dI _) (.int _) h
    · rename_i hv
      have := view_rd rp r1 hv
      cases this with
      | dic e1 k r2 =>
        refine .inr (.inr ⟨_, _, rfl, e1, ?_⟩)
        rw [← k, List.length_map] at h
        exact give rp q (d := dI _) (.int _) h
    · rename_i hv
      have := view_rd rp r1 hv
      cases this
      exact .inr (.inl ⟨_, rfl, line_le h.1, give rp q (d := dI _) (.int _) h.2⟩)
    · exact h.elim
  · exact h.elim
theorem de_len {K : PySem.W.Frag} (hm : ∀ i, (X i).mg "len" = none) (ha : DA X [e] ws) (hg : ∀ i, Gl (X i) "len" := by intro _; rfl) (hK : ∀ i, (X i).K = K := by intro _; rfl) (he : ∀ i, starEach [e] (X i).env = (false, eval e (X i).env) :: starEach [] (X i).env := by intro _; rfl) (hpl : ∀ i, (backTo pos (starEach [] (X i).env)).any (·.1) = false := by intro _; rfl) :
    DE X (.Call (.Name "len" p) [e] [] pos) (wCB rLenD ws) := de_callB (fun i => hK i ▸ call_lenA) (lift_len (K := K)) hm ha PySem.boot_len hg (by decide) (by decide) he hpl
/-! ### list(x), tuple(x) -/
def rListD : WN := fun ds ω Q => match ds with
  | [d] => match view ω d with
    | some (.lst xs) => Q (.ptr ω.length) (ω ++ [some (.lst xs)])
    | some (.tup xs) => Q (.ptr ω.length) (ω ++ [some (.lst xs)])
    | _ => False
  | _ => False
theorem lift_list {K : PySem.W.Frag} : LiftN (fun xs H Q => ∃ p ys, xs = [.ref p] ∧ (SqL K H p ys ∨ SqT K H p ys) ∧ ∀ l, H l = none → Q (.ref l) (upd H l (.lst ys))) rListD := by
  intro W F ω H vs ds Q R rp rs h q
  unfold rListD at h
  split at h
  · obtain ⟨v, rfl, r1⟩ := rvs1 rs
    split at h
    · rename_i hv
      obtain ⟨a, us, rfl, ea, ra⟩ := view_lst rp r1 hv
      exact ⟨a, us, rfl, .inl (.of ea), newL rp q ra h⟩
    · rename_i hv
      obtain ⟨a, us, rfl, ea, ra⟩ := view_tup rp r1 hv
      exact ⟨a, us, rfl, .inr (.of ea), newL rp q ra h⟩
    · exact h.elim
  · exact h.elim
theorem de_list {K : PySem.W.Frag} (hm : ∀ i, (X i).mg "list" = none) (ha : DA X [e] ws) (hg : ∀ i, Gl (X i) "list" := by intro _; rfl) (hK : ∀ i, (X i).K = K := by intro _; rfl) (he : ∀ i, starEach [e] (X i).env = (false, eval e (X i).env) :: starEach [] (X i).env := by intro _; rfl) (hpl : ∀ i, (backTo pos (starEach [] (X i).env)).any (·.1) = false := by intro _; rfl) :
    DE X (.Call (.Name "list" p) [e] [] pos) (wCB rListD ws) := de_callTy (fun i => hK i ▸ call_list_of) (lift_list (K := K)) hm ha (by decide +kernel) hg (by decide) (by decide) he hpl
def rTupleD : WN := fun ds ω Q => match ds with
  | [d] => match view ω d with
    | some (.lst xs) => Q (.dat (.tup xs)) ω
    | some (.tup xs) => Q (.dat (.tup xs)) ω
    | _ => False
  | _ => False
theorem lift_tuple {K : PySem.W.Frag} : LiftN (fun xs H Q => ∃ p ys, xs = [.ref p] ∧ ((SqL K H p ys ∧ ∀ l, H l = none → Q (.ref l) (upd H l (.tup ys))) ∨ (SqT K H p ys ∧ Q (.ref p) H))) rTupleD := by
  intro W F ω H vs ds Q R rp rs h q
  unfold rTupleD at h
  split at h
  · obtain ⟨v, rfl, r1⟩ := rvs1 rs
    split at h
    · rename_i hv
      obtain ⟨a, us, rfl, ea, ra⟩ := view_lst rp r1 hv
      exact ⟨a, us, rfl, .inl ⟨.of ea, newT rp q ra h⟩⟩
    · rename_i hv
      obtain ⟨a, us, rfl, ea, ra⟩ := view_tup rp r1 hv
      exact ⟨a, us, rfl, .inr ⟨.of ea, give rp q (d := .dat _) (tup_self rp r1 hv) h⟩⟩
    · exact h.elim
  · exact h.elim
theorem de_tuple {K : PySem.W.Frag} (hm : ∀ i, (X i).mg "tuple" = none) (ha : DA X [e] ws) (hg : ∀ i, Gl (X i) "tuple" := by intro _; rfl) (hK : ∀ i, (X i).K = K := by intro _; rfl) (he : ∀ i, starEach [e] (X i).env = (false, eval e (X i).env) :: starEach [] (X i).env := by intro _; rfl) (hpl : ∀ i, (backTo pos (starEach [] (X i).env)).any (·.1) = false := by intro _; rfl) :
    DE X (.Call (.Name "tuple" p) [e] [] pos) (wCB rTupleD ws) := de_callTy (fun i => hK i ▸ call_tuple_of) (lift_tuple (K := K)) hm ha (by decide +kernel) hg (by decide) (by decide) he hpl
/-! ### max, min of two ints; int of an int or a truth value -/
def rMax2 : WN := fun ds ω Q => match ds with
  | [.dat (.int i), .dat (.int j)] => Q (dI (if j > i then j else i)) ω
  | _ => False
def rMin2 : WN := fun ds ω Q => match ds with
  | [.dat (.int i), .dat (.int j)] => Q (dI (if j < i then j else i)) ω
  | _ => False
theorem lift_max2 : LiftN (fun xs H Q => ∃ i j, xs = [.int i, .int j] ∧ Q (.int (if j > i then j else i)) H) rMax2 := by
  intro W F ω H vs ds Q R rp rs h q
  unfold rMax2 at h
  split at h
  · obtain ⟨v, v', rfl, r1, r2⟩ := rvs2 rs
    cases r1
    cases r2
    exact ⟨_, _, rfl, give rp q (d := dI _) (.int _) h⟩
  · exact h.elim
theorem lift_min2 : LiftN (fun xs H Q => ∃ i j, xs = [.int i, .int j] ∧ Q (.int (if j < i then j else i)) H) rMin2 := by
  intro W F ω H vs ds Q R rp rs h q
  unfold rMin2 at h
  split at h
  · obtain ⟨v, v', rfl, r1, r2⟩ := rvs2 rs
    cases r1
    cases r2
    exact ⟨_, _, rfl, give rp q (d := dI _) (.int _) h⟩
  · exact h.elim
theorem de_max2 {e2 : Expr} (hc : ∀ i, (X i).calm = true) (hm : ∀ i, (X i).mg "max" = none) (ha : DA X [e, e2] ws) (hg : ∀ i, Gl (X i) "max" := by intro _; rfl) (he : ∀ i, starEach [e, e2] (X i).env = (false, eval e (X i).env) :: starEach [e2] (X i).env := by intro _; rfl) (hpl : ∀ i, (backTo pos (starEach [e2] (X i).env)).any (·.1) = false := by intro _; rfl) :
    DE X (.Call (.Name "max" p) [e, e2] [] pos) (wCB rMax2 ws) := de_callB (fun i => call_max2 (hc i)) lift_max2 hm ha (by decide +kernel) hg (by decide) (by decide) he hpl
theorem de_min2 {e2 : Expr} (hc : ∀ i, (X i).calm = true) (hm : ∀ i, (X i).mg "min" = none) (ha : DA X [e, e2] ws) (hg : ∀ i, Gl (X i) "min" := by intro _; rfl) (he : ∀ i, starEach [e, e2] (X i).env = (false, eval e (X i).env) :: starEach [e2] (X i).env := by intro _; rfl) (hpl : ∀ i, (backTo pos (starEach [e2] (X i).env)).any (·.1) = false := by intro _; rfl) :
    DE X (.Call (.Name "min" p) [e, e2] [] pos) (wCB rMin2 ws) := de_callB (fun i => call_min2 (hc i)) lift_min2 hm ha (by decide +kernel) hg (by decide) (by decide) he hpl
def rIntD : WN := fun ds ω Q => match ds with
  | [.dat (.int i)] => Q (dI i) ω
  | [.dat (.bl k)] => Q (dI (if k then 1 else 0)) ω
  | _ => False
theorem lift_int : LiftN (fun xs H Q => (∃ i, xs = [.int i] ∧ Q (.int i) H) ∨ ∃ k : Bool, xs = [.bl k] ∧ Q (.int (if k then 1 else 0)) H) rIntD := by
  intro W F ω H vs ds Q R rp rs h q
  unfold rIntD at h
  split at h
  · obtain ⟨v, rfl, r1⟩ := rvs1 rs
    cases r1
    exact .inl ⟨_, rfl, give rp q (d := dI _) (.int _) h⟩
  · obtain ⟨v, rfl, r1⟩ := rvs1 rs
    cases r1
    exact .inr ⟨_, rfl, give rp q (d := dI _) (.int _) h⟩
  · exact h.elim
theorem de_intc (hm : ∀ i, (X i).mg "int" = none) (ha : DA X [e] ws) (hg : ∀ i, Gl (X i) "int" := by intro _; rfl) (he : ∀ i, starEach [e] (X i).env = (false, eval e (X i).env) :: starEach [] (X i).env := by intro _; rfl) (hpl : ∀ i, (backTo pos (starEach [] (X i).env)).any (·.1) = false := by intro _; rfl) :
    DE X (.Call (.Name "int" p) [e] [] pos) (wCB rIntD ws) := de_callTy (fun _ => call_int1) lift_int hm ha (by decide +kernel) hg (by decide) (by decide) he hpl
/-! ### all, any, sorted of ints -/
def rAllD : WN := fun ds ω Q => ∃ (d : D) (bs : List Bool), ds = [d] ∧ view ω d = some (.lst (bs.map Dt.bl)) ∧ Q (dB (bs.all id)) ω
def rAnyD : WN := fun ds ω Q => ∃ (d : D) (bs : List Bool), ds = [d] ∧ view ω d = some (.lst (bs.map Dt.bl)) ∧ Q (dB (bs.any id)) ω
theorem lift_all {K : PySem.W.Frag} : LiftN (rAll K) rAllD := by
  rintro W F ω H vs ds Q R rp rs ⟨d, bs, rfl, hv, h⟩ q
  obtain ⟨v, rfl, r1⟩ := rvs1 rs
  obtain ⟨a, us, rfl, ea, ra⟩ := view_lst rp r1 hv
  rw [ra.bls_inv] at ea
  exact ⟨a, bs, rfl, .of ea, give rp q (d := dB _) (.bl _) h⟩
theorem lift_any {K : PySem.W.Frag} : LiftN (rAny K) rAnyD := by
  rintro W F ω H vs ds Q R rp rs ⟨d, bs, rfl, hv, h⟩ q
  obtain ⟨v, rfl, r1⟩ := rvs1 rs
  obtain ⟨a, us, rfl, ea, ra⟩ := view_lst rp r1 hv
  rw [ra.bls_inv] at ea
  exact ⟨a, bs, rfl, .of ea, give rp q (d := dB _) (.bl _) h⟩
theorem de_all {K : PySem.W.Frag} (hc : ∀ i, (X i).calm = true) (hm : ∀ i, (X i).mg "all" = none) (ha : DA X [e] ws) (hg : ∀ i, Gl (X i) "all" := by intro _; rfl) (hK : ∀ i, (X i).K = K := by intro _; rfl) (he : ∀ i, starEach [e] (X i).env = (false, eval e (X i).env) :: starEach [] (X i).env := by intro _; rfl) (hpl : ∀ i, (backTo pos (starEach [] (X i).env)).any (·.1) = false := by intro _; rfl) :
    DE X (.Call (.Name "all" p) [e] [] pos) (wCB rAllD ws) := de_callB (fun i => hK i ▸ cr_all (hc i)) (lift_all (K := K)) hm ha (by decide +kernel) hg (by decide) (by decide) he hpl
theorem de_any {K : PySem.W.Frag} (hc : ∀ i, (X i).calm = true) (hm : ∀ i, (X i).mg "any" = none) (ha : DA X [e] ws) (hg : ∀ i, Gl (X i) "any" := by intro _; rfl) (hK : ∀ i, (X i).K = K := by intro _; rfl) (he : ∀ i, starEach [e] (X i).env = (false, eval e (X i).env) :: starEach [] (X i).env := by intro _; rfl) (hpl : ∀ i, (backTo pos (starEach [] (X i).env)).any (·.1) = false := by intro _; rfl) :
    DE X (.Call (.Name "any" p) [e] [] pos) (wCB rAnyD ws) := de_callB (fun i => hK i ▸ cr_any (hc i)) (lift_any (K := K)) hm ha (by decide +kernel) hg (by decide) (by decide) he hpl
def rSortedD : WN := fun ds ω Q => ∃ (d : D) (ns : List Int), ds = [d] ∧ view ω d = some (.lst (ns.map Dt.int)) ∧ ∀ ns' : List Int, ns'.Perm ns → ns'.Pairwise (· ≤ ·) → Q (.ptr ω.length) (ω ++ [some (.lst (ns'.map Dt.int))])
theorem lift_sorted {K : PySem.W.Frag} : LiftN (rSortedI K) rSortedD := by
  rintro W F ω H vs ds Q R rp rs ⟨d, ns, rfl, hv, h⟩ q
  obtain ⟨v, rfl, r1⟩ := rvs1 rs
  obtain ⟨a, us, rfl, ea, ra⟩ := view_lst rp r1 hv
  rw [ra.ints_inv] at ea
  exact ⟨a, ns, rfl, .of ea, fun ns' p h1 h2 hp => newL rp q (RDs.ints ns') (h ns' h1 h2) p hp⟩
theorem de_sorted {K : PySem.W.Frag} (hm : ∀ i, (X i).mg "sorted" = none) (ha : DA X [e] ws) (hg : ∀ i, Gl (X i) "sorted" := by intro _; rfl) (hK : ∀ i, (X i).K = K := by intro _; rfl) (he : ∀ i, starEach [e] (X i).env = (false, eval e (X i).env) :: starEach [] (X i).env := by intro _; rfl) (hpl : ∀ i, (backTo pos (starEach [] (X i).env)).any (·.1) = false := by intro _; rfl) :
    DE X (.Call (.Name "sorted" p) [e] [] pos) (wCB rSortedD ws) := de_callB (fun i => hK i ▸ cr_sortedI) (lift_sorted (K := K)) hm ha (by decide +kernel) hg (by decide) (by decide) he hpl
/-! ### methods of lists -/
def rAppendD : WM := fun d ds ω Q => match d, ds with
  | .ptr l, [y] => ∃ yd ω2 xs, freeze ω y = some (yd, ω2) ∧ ω2[l]? = some (some (.lst xs)) ∧ xs.length ≤ 7000 ∧ Q (.dat .non) (ω2.set l (some (.lst (xs ++ [yd]))))
  | _, _ => False
theorem lift_append : LiftM rAppend rAppendD := by
  intro W F ω H v vs d ds Q R rp r rs h q
  unfold rAppendD at h
  split at h
  · obtain ⟨u, rfl, r1⟩ := rvs1 rs
    obtain ⟨yd, ω2, xs, hf, ec, hl, h⟩ := h
    obtain ⟨W2, e2, rp2, r2⟩ := rp.freeze r1 hf
    obtain ⟨_, rfl⟩ := r.ext e2
    obtain ⟨us, ea, ra⟩ := rp2.cell _ _ ec
    refine ⟨_, us, u, rfl, rfl, ea, line_lt (by rw [ra.len]; exact hl), ?_⟩
    exact q W2 _ (.dat .non) _ _ e2 (rp2.write (c' := .lst (xs ++ [yd])) ec rfl rfl ⟨_, upd_same, ra.app (.cons r2 .nil)⟩) RD.non h
  · exact h.elim
theorem de_append {K : PySem.W.Frag} {apos cpos : Pos} (ho : DE X o wo) (ha : DA X [e] ws) (hK : ∀ i, (X i).K = K := by intro _; rfl) (hbase : ∀ i, attributeBase o "append" (X i).env (eval o (X i).env) = eval o (X i).env := by intro _; rfl)
    (hfew : ∀ i, ((backTo cpos (starEach [e] (X i).env)).all (fun x => !x.1) && (backToKw cpos (keywordEach [] (X i).env)).all (fun x => x.1.isSome) && decide ([e].length + ([] : List Keyword).length + (if ([] : List Keyword).isEmpty then 0 else 1) < 30)) = true := by intro _; rfl)
    (hline : (apos.endLine == cpos.line) = true := by rfl) (hst : ∀ i, starEach [e] (X i).env = (false, eval e (X i).env) :: starEach [] (X i).env := by intro _; rfl) (hpl : ∀ i, (backTo cpos (starEach [] (X i).env)).any (·.1) = false := by intro _; rfl) :
    DE X (.Call (.Attribute o "append" apos) [e] [] cpos) (wBm "list" rAppendD wo ws) := de_bm (K := K) PySem.F.plainAttrs_list PySem.F.slot_list_append PySem.F.type_list_append (fun _ => mt_append) lift_append ho ha hK hbase hfew hline hst hpl
def rPopD : WM := fun d ds ω Q => match d, ds with
  | .ptr l, [.dat (.int i)] => ∃ xs k y, ω[l]? = some (some (.lst xs)) ∧ xs.length ≤ 7000 ∧ seqIndex? i xs.length = some k ∧ xs[k]? = some y ∧ Q (.dat y) (ω.set l (some (.lst (xs.eraseIdx k))))
  | _, _ => False
theorem seqIndex_in {i : Int} {n k : Nat} (h : seqIndex? i n = some k) (hn : n ≤ 7000) : -(2 ^ 63) ≤ i ∧ i < 2 ^ 63 := by
  unfold seqIndex? at h
  dsimp only at h
  split at h <;> split at h
  all_goals first
    | (rename_i hc; rw [Bool.and_eq_true, decide_eq_true_eq, decide_eq_true_eq] at hc; omega)
    | cases h
theorem lift_pop : LiftM rPopAt rPopD := by
  intro W F ω H v vs d ds Q R rp r rs h q
  unfold rPopD at h
  split at h
  · obtain ⟨u, rfl, r1⟩ := rvs1 rs
    cases r1
    obtain ⟨xs, k, y, ec, hl, hi, hy, h⟩ := h
    obtain ⟨_, rfl⟩ := r
    obtain ⟨us, ea, ra⟩ := rp.cell _ _ ec
    obtain ⟨yv, ey, ry⟩ := ra.get hy
    obtain ⟨b1, b2⟩ := seqIndex_in hi hl
    refine ⟨_, us, _, k, yv, rfl, rfl, ea, b1, b2, by rw [ra.len]; exact hi, ey, ?_⟩
    exact q W _ (.dat y) _ _ (Ext.refl W) (rp.write (c' := .lst (xs.eraseIdx k)) ec rfl rfl ⟨_, upd_same, ra.erase k⟩) ry h
  · exact h.elim
theorem de_pop {K : PySem.W.Frag} {apos cpos : Pos} (ho : DE X o wo) (ha : DA X [e] ws) (hK : ∀ i, (X i).K = K := by intro _; rfl) (hbase : ∀ i, attributeBase o "pop" (X i).env (eval o (X i).env) = eval o (X i).env := by intro _; rfl)
    (hfew : ∀ i, ((backTo cpos (starEach [e] (X i).env)).all (fun x => !x.1) && (backToKw cpos (keywordEach [] (X i).env)).all (fun x => x.1.isSome) && decide ([e].length + ([] : List Keyword).length + (if ([] : List Keyword).isEmpty then 0 else 1) < 30)) = true := by intro _; rfl)
    (hline : (apos.endLine == cpos.line) = true := by rfl) (hst : ∀ i, starEach [e] (X i).env = (false, eval e (X i).env) :: starEach [] (X i).env := by intro _; rfl) (hpl : ∀ i, (backTo cpos (starEach [] (X i).env)).any (·.1) = false := by intro _; rfl) :
    DE X (.Call (.Attribute o "pop" apos) [e] [] cpos) (wBm "list" rPopD wo ws) := de_bm (K := K) PySem.F.plainAttrs_list PySem.F.slot_list_pop PySem.F.type_list_pop (fun _ => mt_popAt) lift_pop ho ha hK hbase hfew hline hst hpl
def rIndexDt : WM := fun d ds ω Q => ∃ xs y yd j z, ds = [y] ∧ view ω d = some (.lst xs) ∧ view ω y = some yd ∧ Sh 60 yd ∧ (∀ x ∈ xs, Sh 59 x) ∧ xs[j]? = some z ∧ eqb z yd = true ∧ (∀ (m : Nat) z', m < j → xs[m]? = some z' → eqb z' yd = false) ∧ Q (dI (j : Nat)) ω
theorem lift_index {K : PySem.W.Frag} : LiftM (rIndexD K) rIndexDt := by
  rintro W F ω H v vs d ds Q R rp r rs ⟨xs, y, yd, j, z, rfl, hv, hy, s1, s2, hz, hq, hn, h⟩ q
  obtain ⟨u, rfl, r1⟩ := rvs1 rs
  obtain ⟨a, us, rfl, ea, ra⟩ := view_lst rp r hv
  refine ⟨a, u, py yd, pys xs, j, py z, rfl, rfl, rd_dp (.lst xs) (view_rd rp r hv) (Sh.lst s2).p, rd_dp yd (view_rd rp r1 hy) s1.p, (Sh.lst s2).shaped, s1.shaped, ?_, hq, fun m z' hm hz' => ?_, give rp q (d := dI _) (.int _) h⟩
  · rw [pys_map, List.getElem?_map, hz]
    rfl
  · rw [pys_map, List.getElem?_map] at hz'
    obtain ⟨w', h1, rfl⟩ := Option.map_eq_some_iff.mp hz'
    exact hn m w' hm h1
theorem de_index {K : PySem.W.Frag} {apos cpos : Pos} (hu : ∀ i, (X i).A.units + 65 < cLine) (ho : DE X o wo) (ha : DA X [e] ws) (hK : ∀ i, (X i).K = K := by intro _; rfl) (hbase : ∀ i, attributeBase o "index" (X i).env (eval o (X i).env) = eval o (X i).env := by intro _; rfl)
    (hfew : ∀ i, ((backTo cpos (starEach [e] (X i).env)).all (fun x => !x.1) && (backToKw cpos (keywordEach [] (X i).env)).all (fun x => x.1.isSome) && decide ([e].length + ([] : List Keyword).length + (if ([] : List Keyword).isEmpty then 0 else 1) < 30)) = true := by intro _; rfl)
    (hline : (apos.endLine == cpos.line) = true := by rfl) (hst : ∀ i, starEach [e] (X i).env = (false, eval e (X i).env) :: starEach [] (X i).env := by intro _; rfl) (hpl : ∀ i, (backTo cpos (starEach [] (X i).env)).any (·.1) = false := by intro _; rfl) :
    DE X (.Call (.Attribute o "index" apos) [e] [] cpos) (wBm "list" rIndexDt wo ws) := de_bm (K := K) PySem.F.plainAttrs_list PySem.F.slot_list_index (by rfl) (fun i => hK i ▸ mt_indexD (hu i)) (lift_index (K := K)) ho ha hK hbase hfew hline hst hpl
/-! ### isinstance, one built-in type -/
def tyn : Dt → String
  | .non => "NoneType"
  | .bl _ => "bool"
  | .int _ => "int"
  | .str _ => "str"
  | .lst _ => "list"
  | .tup _ => "tuple"
  | .dic _ _ => "dict"
  | .obj _ _ _ => "object"
def isObj : Dt → Bool
  | .obj _ _ _ => true
  | _ => false
/-- T is the type whose instances f tells -/
def IsT (T : String) (f : Dt → Bool) : Prop := ∀ x, isObj x = false → kitB (tyn x) T = some (f x)
def isI : Dt → Bool
  | .int _ | .bl _ => true
  | _ => false
def isBl : Dt → Bool
  | .bl _ => true
  | _ => false
def isS : Dt → Bool
  | .str _ => true
  | _ => false
def isL : Dt → Bool
  | .lst _ => true
  | _ => false
def isT : Dt → Bool
  | .tup _ => true
  | _ => false
def isDc : Dt → Bool
  | .dic _ _ => true
  | _ => false
theorem ist_int : IsT "int" isI := fun x h => by cases x <;> first | (cases h; done) | (simp only [tyn, isI]; decide +kernel)
theorem ist_bool : IsT "bool" isBl := fun x h => by cases x <;> first | (cases h; done) | (simp only [tyn, isBl]; decide +kernel)
theorem ist_str : IsT "str" isS := fun x h => by cases x <;> first | (cases h; done) | (simp only [tyn, isS]; decide +kernel)
theorem ist_list : IsT "list" isL := fun x h => by cases x <;> first | (cases h; done) | (simp only [tyn, isL]; decide +kernel)
theorem ist_tuple : IsT "tuple" isT := fun x h => by cases x <;> first | (cases h; done) | (simp only [tyn, isT]; decide +kernel)
theorem ist_dict : IsT "dict" isDc := fun x h => by cases x <;> first | (cases h; done) | (simp only [tyn, isDc]; decide +kernel)
theorem rd_ty {K : PySem.W.Frag} {H : Hp} {v : V} {x : Dt} (h : RD H v x) (n : isObj x = false) : TyX K H v (.type (tyn x)) := by
  cases h with
  | non => exact .base .non
  | bl b => exact .base (.bl b)
  | int i => exact .base (.int i)
  | str z => exact .base (.str z)
  | lst e r => exact .base (.lst e)
  | tup e r => exact .base (.tup e)
  | dic e k r => exact .base (.dK e)
  | obj e k r => cases n
def wIsi (f : Dt → Bool) (we : WE) : WE := fun ρ ω Q => we ρ ω fun d ω1 => ∃ x, view ω1 d = some x ∧ isObj x = false ∧ Q (dB (f x)) ω1
theorem de_isi {K : PySem.W.Frag} {n : Str} {f : Dt → Bool} (T : String) (it : IsT T f) (hm : ∀ i, (X i).mg "isinstance" = none) (mn : ∀ i, (X i).mg n = none) (he : DE X e we) (hv : bootBuiltins n = some (.type T) := by decide +kernel) {q : Pos} (hg : ∀ i, Gl (X i) "isinstance" := by intro _; rfl) (gn : ∀ i, Gl (X i) n := by intro _; rfl) (hK : ∀ i, (X i).K = K := by intro _; rfl)
    (hn : n ≠ "__name__" := by decide) (hd : (n == ("__debug__" : Str)) = false := by decide) (hst : ∀ i, starEach [e, .Name n q] (X i).env = (false, eval e (X i).env) :: starEach [.Name n q] (X i).env := by intro _; rfl) (hpl : ∀ i, (backTo pos (starEach [.Name n q] (X i).env)).any (·.1) = false := by intro _; rfl) : DE X (.Call (.Name "isinstance" p) [e, .Name n q] [] pos) (wIsi f we) := by
  obtain ⟨t, pe, qe⟩ := he.ex
  refine ⟨tCB (rIsi K) (tCons t (tCons (tC (.ty T)) tNil)), fun i => hK i ▸ pe_callB call_isi (hg i) (hm i) (by decide +kernel) (pa_cons (pe i) (pa_cons (pe_bltn (gn i) (mn i) hv rfl hn hd) pa_nil) (hst i)) (by decide) (by decide) (hst i) (hpl i), fun W F ρ ω σ H Q R s rp h c => ?_⟩
  refine qe W F ρ ω σ H _ _ s rp h fun W1 ω1 d v H1 e1 rp1 r1 h1 => ?_
  obtain ⟨x, hv1, ho, h1⟩ := h1
  exact ⟨v, .ty T, _, _, f x, rfl, .ty T, rd_ty (view_rd rp1 r1 hv1) ho, kit_ty (it x ho), c W1 ω1 (dB _) _ H1 e1 rp1 (RD.bl _) h1⟩
/-- .. two built-in types -/
theorem de_isi2 {K : PySem.W.Frag} {n n2 : Str} {f f2 : Dt → Bool} (T T2 : String) (it : IsT T f) (it2 : IsT T2 f2) (hm : ∀ i, (X i).mg "isinstance" = none) (mn : ∀ i, (X i).mg n = none) (mn2 : ∀ i, (X i).mg n2 = none) (he : DE X e we) (hv : bootBuiltins n = some (.type T) := by decide +kernel) (hv2 : bootBuiltins n2 = some (.type T2) := by decide +kernel)
    {q q2 tp : Pos} {k : Nat} (hg : ∀ i, Gl (X i) "isinstance" := by intro _; rfl) (gn : ∀ i, Gl (X i) n := by intro _; rfl) (gn2 : ∀ i, Gl (X i) n2 := by intro _; rfl) (hK : ∀ i, (X i).K = K := by intro _; rfl)
    (hn : n ≠ "__name__" := by decide) (hd : (n == ("__debug__" : Str)) = false := by decide) (hn2 : n2 ≠ "__name__" := by decide) (hd2 : (n2 == ("__debug__" : Str)) = false := by decide)
    (hst : ∀ i, starEach [e, .Tuple [.Name n q, .Name n2 q2] k tp] (X i).env = (false, eval e (X i).env) :: starEach [.Tuple [.Name n q, .Name n2 q2] k tp] (X i).env := by intro _; rfl) (hpl : ∀ i, (backTo pos (starEach [.Tuple [.Name n q, .Name n2 q2] k tp] (X i).env)).any (·.1) = false := by intro _; rfl) :
    DE X (.Call (.Name "isinstance" p) [e, .Tuple [.Name n q, .Name n2 q2] k tp] [] pos) (wIsi (fun x => f x || f2 x) we) := by
  obtain ⟨t, pe, qe⟩ := he.ex
  refine ⟨tCB (rIsiT K) (tCons t (tCons (tTup (tCons (tC (.ty T)) (tCons (tC (.ty T2)) tNil))) tNil)), fun i => hK i ▸ pe_callB call_isiT (hg i) (hm i) (by decide +kernel) (pa_cons (pe i) (pa_cons (pe_tup (pa_cons (pe_bltn (gn i) (mn i) hv rfl hn hd) (pa_cons (pe_bltn (gn2 i) (mn2 i) hv2 rfl hn2 hd2) pa_nil))) pa_nil) (hst i)) (by decide) (by decide) (hst i) (hpl i), fun W F ρ ω σ H Q R s rp h c => ?_⟩
  refine qe W F ρ ω σ H _ _ s rp h fun W1 ω1 d v H1 e1 rp1 r1 h1 => ?_
  obtain ⟨x, hv1, ho, h1⟩ := h1
  refine ⟨by show 2 ≤ sizeLine; exact line_le (by decide), fun tpa htp => ?_⟩
  have rp2 := rp1.more (o := .tup [.ty T, .ty T2]) htp
  refine ⟨v, tpa, _, _, _, f x || f2 x, rfl, upd_same, .cons (.ty T) (.cons (.ty T2) .nil), rd_ty (view_rd rp2 r1 hv1) ho, ?_, c W1 ω1 (dB _) _ _ e1 rp2 (RD.bl _) h1⟩
  refine kitAny_cons (kit_ty (it x ho)) (fun e => ?_) (fun e => by rw [e]; rfl)
  rw [e, Bool.false_or]
  refine kitAny_cons (kit_ty (it2 x ho)) (fun e => ?_) (fun e => e)
  rw [e]
  exact kitAny_nil
end
/-! ### o[i] = v, v a list's new item -/
section
variable {X : Cx} {e o i : Expr} {we wo wi : WE} {pos pos' : Pos}
def wSetIx (we wo wi : WE) : WS := fun D ρ ω => we ρ ω fun y ω1 => ∃ yd ω2, freeze ω1 y = some (yd, ω2) ∧ wo ρ ω2 fun d ω3 => wi ρ ω3 fun k ω4 => match d, k with
  | .ptr l, .dat (.int n) => ∃ xs j, ω4[l]? = some (some (.lst xs)) ∧ ixN xs.length n = some j ∧ D.nx ρ (ω4.set l (some (.lst (xs.set j yd))))
  | _, _ => False
theorem ds_setIx (he : DE (One X) e we) (ho : DE (One X) o wo) (hi : DE (One X) i wi) (hs : swapsWithSole [.Subscript o i pos'] e pos.line X.env = pure false := by rfl) (hw : swappedStores [.Subscript o i pos'] e X.env = pure none := by rfl) (h1 : (assignEach [.Subscript o i pos'] X.env).map (·.2) = [assign (.Subscript o i pos') X.env] := by rfl)
    (ha : ∀ v, assign (.Subscript o i pos') X.env v = (do
      let x1 ← holding [v] (eval o X.env)
      let x2 ← holding [v, x1] (eval i X.env)
      standAt pos'
      holding [v, x1, x2] (setItem x1 x2 v)
      release [v, x1, x2] []) := by intro _; rfl) : DS X (.Assign [.Subscript o i pos'] e pos) (wSetIx we wo wi) := by
  obtain ⟨te, pe, qe⟩ := he.ex
  obtain ⟨to, po, qo⟩ := ho.ex
  obtain ⟨ti, pi', qi⟩ := hi.ex
  refine ⟨tAsg te (gSub to ti rSetL), ps_asg (pe ()) (pg_sub (po ()) (pi' ()) set_list ha) hs hw h1, fun W F ρ ω σ H D E s rp h l => ?_⟩
  refine qe W F ρ ω σ H _ _ s rp h fun W1 ω1 y v H1 e1 rp1 r1 h1 => ?_
  obtain ⟨yd, ω2, hf, h1⟩ := h1
  obtain ⟨W2, e2, rp2, r2⟩ := rp1.freeze r1 hf
  refine qo W2 F ρ ω2 σ H1 _ _ (s.ext (e1.trans e2)) rp2 h1 fun W3 ω3 d u H3 e3 rp3 r3 h3 => ?_
  refine qi W3 F ρ ω3 σ H3 _ _ (s.ext (e1.trans (e2.trans e3))) rp3 h3 fun W4 ω4 k w H4 e4 rp4 r4 h4 => ?_
  split at h4
  · obtain ⟨xs, j, ec, hj, h4⟩ := h4
    obtain ⟨_, rfl⟩ := r3.ext e4
    cases r4
    obtain ⟨us, ea, ra⟩ := rp4.cell _ _ ec
    refine ⟨_, us, _, j, rfl, rfl, ea, by rw [ra.len]; exact hj, ?_⟩
    exact l.nx W4 ρ _ σ _ (e1.trans (e2.trans (e3.trans e4))) (s.ext (e1.trans (e2.trans (e3.trans e4)))) (rp4.write (c' := .lst (xs.set j yd)) ec rfl rfl ⟨_, upd_same, ra.set j (RD.mono (e3.trans e4).j _ r2)⟩) h4
  · exact h4.elim
end
end Dl
set_option Elab.async false
set_option linter.all false
set_option maxRecDepth 100000
set_option maxHeartbeats 2000000
/-! DB: stars, own operators, instances made by positional promises, instances called, str of one, assignments of two. -/
namespace Dl
open PySem PySem.Spec PyProof.Rows L2 G StX
/-! ### stars in displays and calls -/
section
variable {ι : Type} {X : ι → Cx} {a b c e o fe : Expr} {es : List Expr} {wa wb wc we wo : WE} {ws : WA} {pos p : Pos} {x : Str} {wt : WT}
def waStar (we : WE) (ws : WA) : WA := fun ρ ω Q => we ρ ω fun d ω1 => ∃ xs, (view ω1 d = some (.lst xs) ∨ view ω1 d = some (.tup xs)) ∧ ws ρ ω1 fun ds ω2 => Q (xs.map D.dat ++ ds) ω2
theorem rds_rvs {W : Wd} : ∀ {xs : List Dt} {vs : List V}, RDs W.J vs xs → RVs W vs (xs.map D.dat)
  | [], _, h => by
    cases h
    exact .nil
  | x :: xs, _, h => by
    cases h with
    | cons a b => exact .cons a (rds_rvs b)
theorem rvs_app {W : Wd} : ∀ {xs ys : List D} {vs us : List V}, RVs W vs xs → RVs W us ys → RVs W (vs ++ us) (xs ++ ys)
  | _, _, _, _, .nil, h => h
  | _, _, _, _, .cons a b, h => .cons a (rvs_app b h)
theorem da_star {K : PySem.W.Frag} (he : DE X e we) (hs : DA X es ws) (hK : ∀ i, (X i).K = K := by intro _; rfl) (hst : ∀ i, starEach (.Starred e p :: es) (X i).env = (true, eval e (X i).env) :: starEach es (X i).env := by intro _; rfl) : DA X (.Starred e p :: es) (waStar we ws) := by
  obtain ⟨t, p1, q⟩ := he.ex
  obtain ⟨u, p', q'⟩ := hs.ex
  refine ⟨StX.tStar K t u, fun i => hK i ▸ StX.pa_star (p1 i) (p' i) (hst i), fun W F ρ ω σ H Q R s rp h c => ?_⟩
  refine q W F ρ ω σ H _ _ s rp h fun W1 ω1 d v H1 e1 rp1 r1 h1 => ?_
  obtain ⟨xs, hv, h1⟩ := h1
  rcases hv with hv | hv
  · obtain ⟨a, vs, rfl, ea, ra⟩ := view_lst rp1 r1 hv
    refine ⟨a, vs, rfl, .inr (.of ea), q' W1 F ρ ω1 σ H1 _ _ (s.ext e1) rp1 h1 fun W2 ω2 ds us H2 e2 rp2 r2 h2 => ?_⟩
    exact c W2 ω2 _ _ H2 (e1.trans e2) rp2 (rvs_app (RVs.ext e2 (rds_rvs ra)) r2) h2
  · obtain ⟨a, vs, rfl, ea, ra⟩ := view_tup rp1 r1 hv
    refine ⟨a, vs, rfl, .inl (.of ea), q' W1 F ρ ω1 σ H1 _ _ (s.ext e1) rp1 h1 fun W2 ω2 ds us H2 e2 rp2 r2 h2 => ?_⟩
    exact c W2 ω2 _ _ H2 (e1.trans e2) rp2 (rvs_app (RVs.ext e2 (rds_rvs ra)) r2) h2
end

/-! ### what an instance of an own class asks of its class -/
theorem ins_at {X : Cx} {pins : List (Addr × Obj)} {σ : L2.St} {H : Hp} {s : Shared} {a C dx : Addr} {fs : List (Str × V)} (I : Inv X pins σ H s) (h : H a = some (.ins C dx fs)) : ∃ ox od, PySem.W.InstAt s.heap a ox C od := insX_at I h
/-- + of the class at C: its __add__ at f, its __radd__ at g -/
structure AddO (K : PySem.W.Frag) (C f g : Addr) : Prop where
  first : PySem.W.selfFirst K C = true
  add : PySem.W.findIn K (.ref C) (PySem.dunder "add") = some (some (.ref f))
  fn : PySem.W.isFn K (.ref f) = true
  radd : PySem.W.findIn K (.ref C) (dunderR "add") = some (some (.ref g))
  rfn : PySem.W.isFn K (.ref g) = true
  sAdd : PySem.W.findIn K (.type "str") (PySem.dunder "add") = some (some (.builtin "str.__add__"))
  sRadd : PySem.W.findIn K (.type "str") (dunderR "add") = some none
  sSub : PySem.W.subIn K (.type "str") (.ref C) = some false
  noI : ∃ cd, PySem.W.clsIn K C = some cd ∧ ∀ c ∈ cd.mro, PySem.W.findIn K c (dunderI "add") = some none
section
variable {prog : Program} {w : World} {A : Around} {E : Value → Shared → Prop} {s : Shared} {K : PySem.W.Frag} {x y C f g : Addr} {ox oy : Obj} {od od2 : Option Obj} {Q : Value → Shared → Prop}
theorem add_same1 (X : K.In s.heap) (I : PySem.W.InstAt s.heap x ox C od) (J : PySem.W.InstAt s.heap y oy C od2) (o : AddO K C f g) (h : wpAny (model prog w) A (call (.ref f) [.ref x, .ref y]) (PySem.W.CmpBack Q) E s) :
    wpAny (model prog w) A (binaryOp1 "add" (.ref x) (.ref y)) (fun r s' => ∃ v, r = some v ∧ Q v s') E s := by
  obtain ⟨cd1, rest1, hc1, hm1⟩ := PySem.W.ksp_first o.first
  have one := PySem.W.ksp_try X I o.add o.fn h
  obtain ⟨hh, gs, d, tt, os⟩ := s
  have L1 : PySem.W.Looks (model prog w) hh (typeOf (.ref x)) (.ref C) := I.type
  have L2 : PySem.W.Looks (model prog w) hh (typeOf (.ref y)) (.ref C) := J.type
  have L3 : PySem.W.Looks (model prog w) hh (fillsNumberSlot (.ref C) "add") true := PySem.W.fills_K X hc1 hm1 o.add
  have hne : (Value.ref C == Value.ref C) = true := beq_self_eq_true _
  unfold binaryOp1
  refine wpAny_bind (L1.at (wpAny_bind (L2.at (wpAny_bind (L3.at ?_)))))
  simp only [hne, if_true]
  ksp_lk
  refine wpAny_mono one (fun r s' hr' => ?_) fun _ _ z => z
  obtain ⟨v, rfl, hq⟩ := hr'
  ksp_lk
  exact ⟨v, rfl, hq⟩
theorem add_right1 {T : String} {b : Value} {fo ro : Option Value} (X : K.In s.heap) (I : PySem.W.InstAt s.heap x ox C od) (hb : typeOf b = pure (.type T)) (o : AddO K C f g) (h1 : PySem.W.findIn K (.type T) (PySem.dunder "add") = some fo) (h2 : PySem.W.findIn K (.type T) (dunderR "add") = some ro)
    (hsub : PySem.W.subIn K (.type T) (.ref C) = some false) (h : wpAny (model prog w) A (call (.ref f) [.ref x, b]) (PySem.W.CmpBack Q) E s) : wpAny (model prog w) A (binaryOp1 "add" (.ref x) b) (fun r s' => ∃ v, r = some v ∧ Q v s') E s := by
  obtain ⟨cd, rest, hcd, hm⟩ := PySem.W.ksp_first o.first
  have one := PySem.W.ksp_try X I o.add o.fn h
  obtain ⟨hh, gs, d, tt, os⟩ := s
  have L1 : PySem.W.Looks (model prog w) hh (typeOf (.ref x)) (.ref C) := I.type
  have L2 : PySem.W.Looks (model prog w) hh (typeOf b) (.type T) := PySem.W.Looks.of_pure hb
  have L3 : PySem.W.Looks (model prog w) hh (fillsNumberSlot (.ref C) "add") true := PySem.W.fills_K X hcd hm o.add
  have L4 : PySem.W.Looks (model prog w) hh (fillsNumberSlot (.type T) "add") ((fo.isSome && !isSeqSlot fo) || (ro.isSome && !isSeqSlot ro)) := PySem.W.ksp_fillsT X h1 h2
  have L5 : PySem.W.Looks (model prog w) hh (isSubtype (.type T) (.ref C)) false := PySem.W.looks_subIn X hsub
  have L6 : PySem.W.Looks (model prog w) hh (numberSlotInPython (.ref C) "add") true := PySem.W.ksp_inPy X o.add o.radd (.inr ⟨g, rfl⟩)
  have L7 : PySem.W.Looks (model prog w) hh (numberSlotInPython (.type T) "add") false := PySem.W.Looks.of_pure rfl
  have L8 : PySem.W.Looks (model prog w) hh (typeLookup (.type T) (dunderR "add")) ro := PySem.W.looks_findIn X h2
  generalize ((fo.isSome && !isSeqSlot fo) || (ro.isSome && !isSeqSlot ro)) = right at L4
  have hne : (Value.ref C == Value.type T) = false := Bool.eq_false_iff.mpr fun q => by cases beq_iff_eq.mp q
  unfold binaryOp1
  refine wpAny_bind (L1.at (wpAny_bind (L2.at (wpAny_bind (L3.at ?_)))))
  simp only [hne, Bool.false_eq_true, if_false]
  cases right with
  | false =>
    ksp_lk
    refine wpAny_mono one (fun r s' hr' => ?_) fun _ _ e => e
    obtain ⟨v, rfl, hq⟩ := hr'
    ksp_lk
    exact ⟨v, rfl, hq⟩
  | true =>
    ksp_lk
    refine wpAny_mono one (fun r s' hr' => ?_) fun _ _ e => e
    obtain ⟨v, rfl, hq⟩ := hr'
    ksp_lk
    exact ⟨v, rfl, hq⟩
/-- a text on the left -/
theorem add_left1 {z : Str} {t : Tok} (X : K.In s.heap) (J : PySem.W.InstAt s.heap y oy C od2) (o : AddO K C f g) (h : wpAny (model prog w) A (call (.ref g) [.ref y, .str z t]) (PySem.W.CmpBack Q) E s) :
    wpAny (model prog w) A (binaryOp1 "add" (.str z t) (.ref y)) (fun r s' => ∃ v, r = some v ∧ Q v s') E s := by
  obtain ⟨cd, rest, hcd, hm⟩ := PySem.W.ksp_first o.first
  have one := PySem.W.ksp_try X J o.radd o.rfn h
  obtain ⟨hh, gs, d, tt, os⟩ := s
  have L1 : PySem.W.Looks (model prog w) hh (typeOf (.str z t)) (.type "str") := PySem.W.Looks.of_pure rfl
  have L2 : PySem.W.Looks (model prog w) hh (typeOf (.ref y)) (.ref C) := J.type
  have L3 : PySem.W.Looks (model prog w) hh (fillsNumberSlot (.type "str") "add") false := PySem.W.ksp_fillsT X o.sAdd o.sRadd
  have L4 : PySem.W.Looks (model prog w) hh (fillsNumberSlot (.ref C) "add") true := PySem.W.fills_K X hcd hm o.add
  have hne : (Value.type "str" == Value.ref C) = false := Bool.eq_false_iff.mpr fun q => by cases beq_iff_eq.mp q
  unfold binaryOp1
  refine wpAny_bind (L1.at (wpAny_bind (L2.at (wpAny_bind (L3.at ?_)))))
  simp only [hne, Bool.false_eq_true, if_false]
  ksp_lk
  refine wpAny_mono one (fun r s' hr' => ?_) fun _ _ e => e
  obtain ⟨v, rfl, hq⟩ := hr'
  ksp_lk
  exact ⟨v, rfl, hq⟩
theorem bin_of {a b : Value} (h : wpAny (model prog w) A (binaryOp1 "add" a b) (fun r s' => ∃ v, r = some v ∧ Q v s') E s) : wpAny (model prog w) A (binaryOp .Add a b) Q E s := by
  simp only [binaryOp]
  refine wpAny_holding (wpAny_bind (wpAny_mono h (fun r s' hr => ?_) fun _ _ e => e))
  obtain ⟨v, rfl, hq⟩ := hr
  exact wpAny_pure hq
theorem noI_looks {M : Model} {h : Heap} {add : Bool} (X : K.In h) (o : AddO K C f g) : PySem.W.Looks M h (fillsInplaceSlot (.ref C) "add" add) false := by
  obtain ⟨cd, hc, hall⟩ := o.noI
  intro A Q E s k q
  unfold fillsInplaceSlot
  refine wpAny_bind ((PySem.W.looks_clsIn X hc).andThen (f := fun cd => pure cd.mro) .now A _ E s k ?_)
  generalize cd.mro = l at hall
  induction l with
  | nil => exact wpAny_pure q
  | cons c l ih =>
    rw [List.anyM_cons]
    refine wpAny_bind (wpAny_bind (PySem.W.looks_findIn X (hall c List.mem_cons_self) A _ E s k ?_))
    refine wpAny_pure ?_
    exact ih fun c' h' => hall c' (List.mem_cons_of_mem _ h')
theorem inp_of {b : Value} (hl : PySem.W.Looks (model prog w) s.heap (typeOf (.ref x)) (.ref C)) (X : K.In s.heap) (o : AddO K C f g) (h : wpAny (model prog w) A (binaryOp1 "add" (.ref x) b) (fun r s' => ∃ v, r = some v ∧ Q v s') E s) : wpAny (model prog w) A (inplaceOp .Add (.ref x) b) Q E s := by
  unfold inplaceOp
  refine wpAny_holding ?_
  refine wpAny_bind (hl.here (wpAny_bind ((noI_looks X o).here ?_)))
  refine wpAny_bind (wpAny_mono h (fun r s' hr => ?_) fun _ _ e => e)
  obtain ⟨v, rfl, hq⟩ := hr
  exact wpAny_pure hq
end
end Dl
set_option Elab.async false
set_option linter.all false
set_option maxRecDepth 100000
set_option maxHeartbeats 2000000
/-! DC: own operators over data, instances made by positional promises, called; assignments of two and three. -/
namespace Dl
open PySem PySem.Spec PyProof.Rows L2 G StX
section
variable {X : Cx} {C f g : Addr} {fdf fdg : FuncData} {pf pg : List Str} {kf kg : Nat} {spF spG : Sp}
def rAddO (C : Addr) (spF spG : Sp) : R2 := fun x y H Q =>
  (∃ a b dx dy fs gs, x = .ref a ∧ y = .ref b ∧ H a = some (.ins C dx fs) ∧ H b = some (.ins C dy gs) ∧ spF [x, y] H (fun v H' => (∃ r, v = .ref r) ∧ Q v H') E0) ∨
  (∃ a dx fs z, x = .ref a ∧ y = .str z ∧ H a = some (.ins C dx fs) ∧ spF [x, y] H (fun v H' => (∃ r, v = .ref r) ∧ Q v H') E0) ∨
  ∃ b dy gs z, y = .ref b ∧ x = .str z ∧ H b = some (.ins C dy gs) ∧ spG [y, x] H (fun v H' => (∃ r, v = .ref r) ∧ Q v H') E0
theorem back_of {pins : List (Addr × Obj)} {σ : L2.St} {Q : VK} {r : Value} {s' : Shared} (z : EP X pins σ (fun v H' => (∃ r, v = .ref r) ∧ Q v H') r s') : PySem.W.CmpBack (EP X pins σ Q) r s' := by
  obtain ⟨v, H', I', rv, ⟨p, rfl⟩, q'⟩ := z
  obtain rfl : r = Value.ref p := rv
  exact ⟨V.ref p, H', I', rfl, q'⟩
theorem op_addO1 (o : AddO X.K C f g) (F : FnOk X.prog X.w X.K X.mg X.base CX0 kf f fdf pf spF) (G : FnOk X.prog X.w X.K X.mg X.base CX0 kg g fdg pg spG) (hf : Binds X.K fdf pf []) (hg : Binds X.K fdg pg []) (rf : Room kf X.A) (rg : Room kg X.A)
    {pins : List (Addr × Obj)} {s : Shared} {σ : L2.St} {H : Hp} {x y : V} {v u : Value} {Q : VK} (I : Inv X pins σ H s) (rx : RelV x v) (ry : RelV y u) (h : rAddO C spF spG x y H Q) :
    wpAny (model X.prog X.w) X.A (binaryOp1 "add" v u) (fun r s' => ∃ w, r = some w ∧ EP X pins σ Q w s') X.xe s := by
  rcases h with ⟨a, b, dx, dy, fs, gs, rfl, rfl, ha, hb, q⟩ | ⟨a, dx, fs, z, rfl, rfl, ha, q⟩ | ⟨b, dy, gs, z, rfl, rfl, hb, q⟩
  · obtain rfl : v = Value.ref a := rx
    obtain rfl : u = Value.ref b := ry
    obtain ⟨ox, od, J1⟩ := ins_at I ha
    obtain ⟨oy, od2, J2⟩ := ins_at I hb
    exact add_same1 I.kIn J1 J2 o (thn (run_fn (us := [.ref a, .ref b]) (vs := [.ref a, .ref b]) F rf hf .nil pass0 I (.cons rfl (.cons rfl .nil)) q) fun r s' z => back_of z)
  · obtain rfl : v = Value.ref a := rx
    obtain ⟨t, rfl⟩ := ry
    obtain ⟨ox, od, J1⟩ := ins_at I ha
    exact add_right1 (T := "str") I.kIn J1 rfl o o.sAdd o.sRadd o.sSub (thn (run_fn (us := [.ref a, .str z t]) (vs := [.ref a, .str z]) F rf hf .nil pass0 I (.cons rfl (.cons ⟨t, rfl⟩ .nil)) q) fun r s' z => back_of z)
  · obtain rfl : u = Value.ref b := ry
    obtain ⟨t, rfl⟩ := rx
    obtain ⟨oy, od2, J2⟩ := ins_at I hb
    exact add_left1 I.kIn J2 o (thn (run_fn (us := [.ref b, .str z t]) (vs := [.ref b, .str z]) G rg hg .nil pass0 I (.cons rfl (.cons ⟨t, rfl⟩ .nil)) q) fun r s' z => back_of z)
theorem op_addO (o : AddO X.K C f g) (F : FnOk X.prog X.w X.K X.mg X.base CX0 kf f fdf pf spF) (G : FnOk X.prog X.w X.K X.mg X.base CX0 kg g fdg pg spG) (hf : Binds X.K fdf pf []) (hg : Binds X.K fdg pg []) (rf : Room kf X.A) (rg : Room kg X.A) : OpR X (binaryOp .Add) (rAddO C spF spG) :=
  fun _ _ _ _ _ _ _ _ _ I rx ry h => bin_of (op_addO1 o F G hf hg rf rg I rx ry h)
def ipAddO (C : Addr) (spF spG : Sp) : TIp := fun x y H Q => (∃ a dx fs, x = .ref a ∧ H a = some (.ins C dx fs)) ∧ rAddO C spF spG x y H Q
theorem ip_addO (o : AddO X.K C f g) (F : FnOk X.prog X.w X.K X.mg X.base CX0 kf f fdf pf spF) (G : FnOk X.prog X.w X.K X.mg X.base CX0 kg g fdg pg spG) (hf : Binds X.K fdf pf []) (hg : Binds X.K fdg pg []) (rf : Room kf X.A) (rg : Room kg X.A) : PIp X .Add (ipAddO C spF spG) := by
  rintro pins s σ H x y v u Q I rx ry ⟨⟨a, dx, fs, rfl, ha⟩, h⟩
  have e := op_addO1 o F G hf hg rf rg I rx ry h
  obtain rfl : v = Value.ref a := rx
  obtain ⟨ox, od, J1⟩ := ins_at I ha
  exact inp_of J1.type I.kIn o e
def rNegO (C : Addr) (sp : Sp) : V → Hp → VK → Prop := fun x H Q => ∃ a dx fs, x = .ref a ∧ H a = some (.ins C dx fs) ∧ sp [x] H Q E0
theorem un_negO (hs : PySem.W.findIn X.K (.ref C) "__neg__" = some (some (.ref f))) (hi : PySem.W.isFn X.K (.ref f) = true) (F : FnOk X.prog X.w X.K X.mg X.base CX0 kf f fdf pf spF) (hf : Binds X.K fdf pf []) (rf : Room kf X.A) : UnR X (unaryOp .USub) (rNegO C spF) := by
  rintro pins s σ H x v Q I rx ⟨a, dx, fs, rfl, ha, q⟩
  obtain rfl : v = Value.ref a := rx
  obtain ⟨ox, od, J1⟩ := ins_at I ha
  obtain ⟨m, hF⟩ := I.fr
  exact PySem.W.ksp_neg hF I.ok.mod.kin J1 hs hi (run_fn (us := [.ref a]) (vs := [.ref a]) F rf hf .nil pass0 I (.cons rfl .nil) q)
end
/-! ### over data -/
def isOb (d : D) : Prop := ∃ C ns xs, d = .dat (.obj C ns xs)
def rAddOD (C : Addr) (dF dG : Dsp) : W2 := fun a b ω Q => (∃ ns xs ns' xs', a = .dat (.obj C ns xs) ∧ b = .dat (.obj C ns' xs') ∧ dF [a, b] [] (backN ω fun d ω' => isOb d ∧ Q d ω')) ∨
  (∃ ns xs z, a = .dat (.obj C ns xs) ∧ b = dS z ∧ dF [a, b] [] (backN ω fun d ω' => isOb d ∧ Q d ω')) ∨ ∃ ns xs z, b = .dat (.obj C ns xs) ∧ a = dS z ∧ dG [b, a] [] (backN ω fun d ω' => isOb d ∧ Q d ω')
theorem ob_cont {W : Wd} {F : Hp} {Q : DK} {R : VK} (q : Cont W F Q R) : Cont W F (fun d ω' => isOb d ∧ Q d ω') (fun v H' => (∃ r, v = .ref r) ∧ R v H') := fun W' ω' d v H' e rp r h => by
  obtain ⟨⟨C, ns, xs, rfl⟩, h⟩ := h
  refine ⟨?_, q W' ω' _ v H' e rp r h⟩
  obtain ⟨a, dx, fs, rfl, _⟩ := obj_inv r
  exact ⟨a, rfl⟩
theorem lift_addO {C : Addr} {dF dG : Dsp} : Lift2 (rAddO C (spD dF) (spD dG)) (rAddOD C dF dG) := by
  intro W F ω H x y dx dy Q R rp rx ry h q
  rcases h with ⟨ns, xs, ns', xs', rfl, rfl, h⟩ | ⟨ns, xs, z, rfl, rfl, h⟩ | ⟨ns, xs, z, rfl, rfl, h⟩
  · obtain ⟨a, d1, fs, rfl, ea, _⟩ := obj_inv rx
    obtain ⟨b, d2, gs, rfl, eb, _⟩ := obj_inv ry
    exact .inl ⟨a, b, d1, d2, fs, gs, rfl, rfl, rp.sj _ _ ea, rp.sj _ _ eb, call_frame rp (.cons rx (.cons ry .nil)) (show callK dF [.dat (.obj C ns xs), .dat (.obj C ns' xs')] ω _ from h) (ob_cont q)⟩
  · obtain ⟨a, d1, fs, rfl, ea, _⟩ := obj_inv rx
    cases ry
    exact .inr (.inl ⟨a, d1, fs, z, rfl, rfl, rp.sj _ _ ea, call_frame rp (.cons rx (.cons (show RV W (.str z) (dS z) from RD.str z) .nil)) (show callK dF [.dat (.obj C ns xs), dS z] ω _ from h) (ob_cont q)⟩)
  · obtain ⟨b, d1, fs, rfl, eb, _⟩ := obj_inv ry
    cases rx
    exact .inr (.inr ⟨b, d1, fs, z, rfl, rfl, rp.sj _ _ eb, call_frame rp (.cons ry (.cons (show RV W (.str z) (dS z) from RD.str z) .nil)) (show callK dG [.dat (.obj C ns xs), dS z] ω _ from h) (ob_cont q)⟩)
section
variable {ι : Type} {X : ι → Cx} {a b c e o fe : Expr} {es : List Expr} {wa wb wc we wo wf : WE} {ws : WA} {pos p : Pos} {x : Str} {wt : WT} {C f g : Addr} {fdf fdg fd : FuncData} {pf pg ps : List Str} {kf kg k : Nat} {dF dG dsp : Dsp}
theorem de_addO (oo : ∀ i, AddO (X i).K C f g) (F : ∀ i, FnOk (X i).prog (X i).w (X i).K (X i).mg (X i).base CX0 kf f fdf pf (spD dF)) (G : ∀ i, FnOk (X i).prog (X i).w (X i).K (X i).mg (X i).base CX0 kg g fdg pg (spD dG)) (hf : ∀ i, Binds (X i).K fdf pf []) (hg : ∀ i, Binds (X i).K fdg pg [])
    (rf : ∀ i, Room kf (X i).A) (rg : ∀ i, Room kg (X i).A) (ha : DE X a wa) (hb : DE X b wb) : DE X (.BinOp a .Add b pos) (wOp (rAddOD C dF dG) wa wb) := de_op (fun i => op_addO (oo i) (F i) (G i) (hf i) (hg i) (rf i) (rg i)) lift_addO ha hb
def rNegOD (C : Addr) (dF : Dsp) : W1 := fun d ω Q => ∃ ns xs, d = .dat (.obj C ns xs) ∧ dF [d] [] (backN ω Q)
theorem de_negO (hs : ∀ i, PySem.W.findIn (X i).K (.ref C) "__neg__" = some (some (.ref f))) (hi : ∀ i, PySem.W.isFn (X i).K (.ref f) = true) (F : ∀ i, FnOk (X i).prog (X i).w (X i).K (X i).mg (X i).base CX0 kf f fdf pf (spD dF)) (hf : ∀ i, Binds (X i).K fdf pf []) (rf : ∀ i, Room kf (X i).A) (ha : DE X a wa) :
    DE X (.UnaryOp .USub a pos) (wUn (rNegOD C dF) wa) := by
  refine de_un (fun i => un_negO (hs i) (hi i) (F i) (hf i) (rf i)) (fun W F' ω H x d Q R rp rx h q => ?_) ha
  obtain ⟨ns, xs, rfl, h⟩ := h
  obtain ⟨a, d1, fs, rfl, ea, _⟩ := obj_inv rx
  exact ⟨a, d1, fs, rfl, rp.sj _ _ ea, call_frame rp (.cons rx .nil) (show callK dF [.dat (.obj C ns xs)] ω _ from h) q⟩
/-! ### == and != by an own __eq__ -/
structure NfD (K : PySem.W.Frag) (C : Addr) : Prop where
  n : PySem.W.notFirst K C (.type "NoneType") = true
  i : PySem.W.notFirst K C (.type "int") = true
  s : PySem.W.notFirst K C (.type "str") = true
  l : PySem.W.notFirst K C (.type "list") = true
  t : PySem.W.notFirst K C (.type "tuple") = true
/-- what may stand on the right: an object of the same class, or data of these kinds -/
def okRight (C : Addr) : Dt → Bool
  | .non | .int _ | .str _ | .lst _ | .tup _ => true
  | .obj C' _ _ => decide (C' = C)
  | _ => false
theorem nf_refl (K : PySem.W.Frag) (C : Addr) : PySem.W.notFirst K C (.ref C) = true := by
  unfold PySem.W.notFirst
  rw [beq_self_eq_true]
  rfl
theorem right_oth {K : PySem.W.Frag} {H : Hp} {v : V} {y : Dt} (nf : NfD K C) (r : RD H v y) (h : okRight C y = true) : ∃ t, G.Oth H v t ∧ PySem.W.notFirst K C t = true := by
  cases r with
  | non => exact ⟨_, .non, nf.n⟩
  | int i => exact ⟨_, .int i, nf.i⟩
  | str z => exact ⟨_, .str z, nf.s⟩
  | lst e r => exact ⟨_, .lst e, nf.l⟩
  | tup e r => exact ⟨_, .tup e, nf.t⟩
  | obj e k r =>
    obtain rfl := of_decide_eq_true h
    exact ⟨_, .ins e, nf_refl _ _⟩
  | bl b => cases h
  | dic e k r => cases h
def rEqOD (C : Addr) (dF : Dsp) (pos : Bool) : W2 := fun a b ω Q => ∃ ns xs y, a = .dat (.obj C ns xs) ∧ view ω b = some y ∧ okRight C y = true ∧ wPass dF [a, b] ω fun d ω' => ∃ k, d = dB k ∧ Q (dB (cond pos k (!k))) ω'
theorem lift_eqO {K : PySem.W.Frag} {dF : Dsp} {pos : Bool} (nf : NfD K C) : Lift2 (rEqB K C (spD dF) E0 pos) (rEqOD C dF pos) := by
  rintro W F ω H x y dx dy Q R rp rx ry ⟨ns, xs, y', rfl, hv, ho, h⟩ q
  obtain ⟨a, d1, fs, rfl, ea, _⟩ := obj_inv rx
  obtain ⟨t, o1, o2⟩ := right_oth nf (view_rd rp ry hv) ho
  refine ⟨a, d1, fs, t, rfl, rp.sj _ _ ea, o1, o2, pass_sp rp (.cons rx (.cons ry .nil)) h fun W' ω' d v H' e rp' r hk => ?_⟩
  obtain ⟨k, rfl, hk⟩ := hk
  cases r
  exact ⟨k, rfl, q W' ω' (dB _) _ H' e rp' (RD.bl _) hk⟩
theorem de_eqO {K : PySem.W.Frag} (nf : NfD K C) (e : EqO K C f) (F : ∀ i, FnOk (X i).prog (X i).w (X i).K (X i).mg (X i).base CX0 kf f fdf pf (spD dF)) (hf : ∀ i, Binds (X i).K fdf pf []) (rf : ∀ i, Room kf (X i).A) (ha : DE X a wa) (hb : DE X b wb) (hK : ∀ i, (X i).K = K := by intro _; rfl) :
    DE X (.Compare a [.Eq] [b] pos) (wOp (rEqOD C dF true) wa wb) := de_cmp (fun i => hK i ▸ op_eqB (hK i ▸ e) (hf i) (F i) (rf i) pass0) (lift_eqO (K := K) nf) ha hb (nobehind b (by decide) (by decide))
theorem dt_eqO {K : PySem.W.Frag} (nf : NfD K C) (e : EqO K C f) (F : ∀ i, FnOk (X i).prog (X i).w (X i).K (X i).mg (X i).base CX0 kf f fdf pf (spD dF)) (hf : ∀ i, Binds (X i).K fdf pf []) (rf : ∀ i, Room kf (X i).A) (ha : DE X a wa) (hb : DE X b wb) (hK : ∀ i, (X i).K = K := by intro _; rfl) :
    DT X (.Compare a [.Eq] [b] pos) (wB (wOp (rEqOD C dF true) wa wb)) := dt_cmp (fun i => hK i ▸ op_eqB (hK i ▸ e) (hf i) (F i) (rf i) pass0) (lift_eqO (K := K) nf) ha hb (nobehind b (by decide) (by decide))
theorem de_neO {K : PySem.W.Frag} (nf : NfD K C) (e : EqO K C f) (F : ∀ i, FnOk (X i).prog (X i).w (X i).K (X i).mg (X i).base CX0 kf f fdf pf (spD dF)) (hf : ∀ i, Binds (X i).K fdf pf []) (rf : ∀ i, Room (kf + 1) (X i).A) (ha : DE X a wa) (hb : DE X b wb) (hK : ∀ i, (X i).K = K := by intro _; rfl) :
    DE X (.Compare a [.NotEq] [b] pos) (wOp (rEqOD C dF false) wa wb) := de_cmp (fun i => hK i ▸ op_neB (hK i ▸ e) (hf i) (F i) (rf i)) (lift_eqO (K := K) nf) ha hb (nobehind b (by decide) (by decide))
theorem dt_neO {K : PySem.W.Frag} (nf : NfD K C) (e : EqO K C f) (F : ∀ i, FnOk (X i).prog (X i).w (X i).K (X i).mg (X i).base CX0 kf f fdf pf (spD dF)) (hf : ∀ i, Binds (X i).K fdf pf []) (rf : ∀ i, Room (kf + 1) (X i).A) (ha : DE X a wa) (hb : DE X b wb) (hK : ∀ i, (X i).K = K := by intro _; rfl) :
    DT X (.Compare a [.NotEq] [b] pos) (wB (wOp (rEqOD C dF false) wa wb)) := dt_cmp (fun i => hK i ▸ op_neB (hK i ▸ e) (hf i) (F i) (rf i)) (lift_eqO (K := K) nf) ha hb (nobehind b (by decide) (by decide))
end
end Dl
set_option Elab.async false
set_option linter.all false
set_option maxRecDepth 100000
set_option maxHeartbeats 2000000
/-! DD: defs with *names, instances made by them, instances called; assignments of two and three; op=. -/
namespace Dl
open PySem PySem.Spec PyProof.Rows L2 G StX
section
variable {P : Program} {w : World} {K : PySem.W.Frag} {mg : Str → Option Value} {base : Heap}
/-- a method with one parameter ahead of *names -/
def spRest (dsp : Dsp) : Dsp := fun ds ω Q => ∃ s rest, ds = s :: rest.map D.dat ∧ rest.length ≤ 7000 ∧ dsp [s, .dat (.tup rest)] ω Q
theorem rest_rds {W : Wd} : ∀ {rest : List Dt} {us : List V}, RVs W us (rest.map D.dat) → RDs W.J us rest
  | [], _, h => by
    cases h
    exact .nil
  | x :: r, _, h => by
    cases h with
    | cons a b => exact .cons a (rest_rds b)
theorem fndR_ok {x qual : Str} {st : Stmt} {f : Addr} {fd : FuncData} {N : List Str} {s0 pv : Str} {k : Nat} {dsp : Dsp} (F : Fun K x qual st f fd) (S : FnScope N ([s0] ++ [pv]) (defScope st))
    (hb : ∀ (kV doc pm : Value) (an : Option Addr) (cdv ct : Value) (us rest : List Value), us.length = [s0].length → bindArgs (PySem.W.fnOf x qual (defArgs st) (defBody st) (defScope st) .none kV doc pm an cdv ct) ⟨us ++ rest, []⟩ = (newTuple rest >>= fun t => pure ([s0].zip us ++ [(pv, t)])))
    (body : ∀ (cdv : Value) (A : Around) (outer : List Env) (s : Shared) (H : Hp) (E : XK), Room k (A.deeper (envOfC qual (defScope st) s.heap.objs.size f cdv)) →
      ∃ t, DSs (cxOf CX0 P w K mg base N qual (defScope st) f cdv A outer s H E).nox (defBody st) t ∧ ∀ ds ω Q, dsp ds ω Q → t (fnEnds ω.length Q) (startD N ds) ω) : FnR P w K mg base CX0 (k + 1) f (spD (spRest dsp)) := by
  obtain ⟨oc, od, kV, doc, pm, an, cdv, ct, osl, rfl, lk, hcd⟩ := F.ex
  refine (fn_star (ps := [s0]) (pv := pv) (k := k) (sp := spD dsp) lk hcd S cxUp_none (hb kV doc pm an cdv ct) (fun A outer s H vs R E hr h => ?_)).imp fun vs H R E h => ?_
  · obtain ⟨W, F', ω, ds, Q, rp, r, h1, q⟩ := h
    obtain ⟨t, ht, hb'⟩ := body cdv A outer s H E hr
    obtain ⟨t', p, sm⟩ := ht.ex
    exact ⟨t', p.nox, sm W F' _ ω _ H _ _ (start_sl r) rp (hb' ds ω Q h1) (ends_ok rp q)⟩
  · obtain ⟨W, F', ω, ds, Q, rp, r, ⟨s, rest, rfl, hl, h1⟩, q⟩ := h
    cases r with
    | @cons v _ us _ rv rr =>
      have rr' := rest_rds rr
      refine ⟨[v], us, rfl, rfl, line_le (by rw [rr'.len]; exact hl), fun p hp => ?_⟩
      obtain ⟨e1, rp1⟩ := rp.laid (o := .tup us) hp
      exact ⟨_, F', ω, [s, .dat (.tup rest)], Q, rp1, .cons (rv.ext e1) (.cons (show RV ⟨upd W.J p (.tup us), W.loc, W.n⟩ (.ref p) (.dat (.tup rest)) from .tup upd_same (RDs.mono e1.j _ rr')) .nil), h1, q.ext e1⟩
theorem raw0 {k : Nat} {f : Addr} {fd : FuncData} {ps : List Str} {dsp : Dsp} (F : FnOk P w K mg base CX0 k f fd ps (spD dsp)) (hb : Binds K fd ps []) : FnR P w K mg base CX0 k f (spD dsp) := (F.raw hb .nil).imp fun vs H Q E h => by
  rw [List.append_nil]
  exact h
end
section
variable {ι : Type} {X : ι → Cx} {k : Nat} {f C : Addr} {fd : FuncData} {ps : List Str} {dsp : Dsp} {x : Str} {p pos sp_ : Pos} {e fe : Expr} {es : List Expr} {we wf : WE} {ws : WA}
theorem de_makeR (M : ∀ i, Mk (X i).K C f) (F : ∀ i, FnR (X i).prog (X i).w (X i).K (X i).mg (X i).base CX0 k f (spD dsp)) (hr : ∀ i, Room (k + 1) (X i).A) (hm : ∀ i, (X i).mg x = some (.ref C))
    (ha : DA X (e :: es) ws) (hg : ∀ i, Gl (X i) x := by intro _; rfl) (hdb : (x == ("__debug__" : Str)) = false := by decide) (he : ∀ i, starEach (e :: es) (X i).env = (false, eval e (X i).env) :: starEach es (X i).env := by intro _; rfl)
    (hpl : ∀ i, (backTo pos (starEach es (X i).env)).any (·.1) = false := by intro _; rfl) : DE X (.Call (.Name x p) (e :: es) [] pos) (wMake C dsp ws) := by
  obtain ⟨t, pa, q⟩ := ha.ex
  refine ⟨tMakeR C (spD dsp) E0 t, fun i => pe_makeR (M i) (F i) (hr i) (hg i) (hm i) pass0 (pa i) hdb (he i) (hpl i), fun W F' ρ ω σ H Q R s rp h c => ?_⟩
  refine q W F' ρ ω σ H _ _ s rp h fun W1 ω1 ds vs H1 e1 rp1 r1 h1 a dx n1 n2 n3 => ?_
  obtain ⟨ds', ω2, h2, h3, h4⟩ := h1
  obtain ⟨W2, e2, rp2, r2⟩ := pass_ok rp1 r1 h2
  exact make_sp rp2 r2 h3 h4 (c.ext (e1.trans e2)) n1 n2 n3
/-- C(*y) -/
def tMakeS (K : PySem.W.Frag) (C : Addr) (sp : Sp) (te : TE) : TE := fun σ H Q => te σ H fun y H1 => ∃ a xs, y = V.ref a ∧ (SqT K H1 a xs ∨ SqL K H1 a xs) ∧ ∀ x dx, H1 x = none → H1 dx = none → dx ≠ x → sp (V.ref x :: xs) (upd (upd H1 dx (.own x)) x (.ins C dx [])) (fun v H2 => v = .non ∧ Q (.ref x) H2) E0
theorem pe_makeS {Y : Cx} {sp : Sp} {te : TE} (M : Mk Y.K C f) (F : FnR Y.prog Y.w Y.K Y.mg Y.base CX0 k f sp) (hr : Room (k + 1) Y.A) (hg : Gl Y x) (hm : Y.mg x = some (.ref C)) (he : PE Y e te) (hd : (x == ("__debug__" : Str)) = false := by decide) (hst : starEach [.Starred e sp_] Y.env = [(true, eval e Y.env)] := by rfl) :
    PE Y (.Call (.Name x p) [.Starred e sp_] [] pos) (tMakeS Y.K C sp te) := by
  refine ⟨fun pins s σ H Q I h => wpAny_Call_Name_kw (ld_glob I hg hm (PySem.W.callWith_S (h₀ := Y.base) I.ok.mod.kin M.kp (thn (he.run pins s σ H _ I h) fun v s1 ⟨y, H1, I1, ry, a, xs, ey, hxs, q⟩ => ?_) hst) hd)⟩
  subst ey
  obtain rfl : v = Value.ref a := ry
  exact star_any I1 hxs fun us s2 I2 rv => ⟨I2.kIn, run_makeR M F hr pass0 I2 rv q⟩
def wMakeS (C : Addr) (dsp : Dsp) (we : WE) : WE := fun ρ ω Q => we ρ ω fun d ω1 => ∃ xs, (view ω1 d = some (.lst xs) ∨ view ω1 d = some (.tup xs)) ∧
  dsp (.ptr 0 :: xs.map D.dat) [some (.ins C [] [])] fun d ω' => d = .dat .non ∧ ∃ ns xs, ω' = [some (.ins C ns xs)] ∧ Q (.dat (.obj C ns xs)) ω1
theorem boxOf_dat : ∀ xs : List Dt, boxOf (xs.map D.dat) = none
  | [] => rfl
  | _ :: xs => boxOf_dat xs
theorem de_makeS {K : PySem.W.Frag} (M : ∀ i, Mk (X i).K C f) (F : ∀ i, FnR (X i).prog (X i).w (X i).K (X i).mg (X i).base CX0 k f (spD dsp)) (hr : ∀ i, Room (k + 1) (X i).A) (hm : ∀ i, (X i).mg x = some (.ref C)) (he : DE X e we) (hK : ∀ i, (X i).K = K := by intro _; rfl)
    (hg : ∀ i, Gl (X i) x := by intro _; rfl) (hdb : (x == ("__debug__" : Str)) = false := by decide) (hst : ∀ i, starEach [.Starred e sp_] (X i).env = [(true, eval e (X i).env)] := by intro _; rfl) : DE X (.Call (.Name x p) [.Starred e sp_] [] pos) (wMakeS C dsp we) := by
  obtain ⟨t, pa, q⟩ := he.ex
  refine ⟨tMakeS K C (spD dsp) t, fun i => hK i ▸ pe_makeS (M i) (F i) (hr i) (hg i) (hm i) (pa i) hdb (hst i), fun W F' ρ ω σ H Q R s rp h c => ?_⟩
  refine q W F' ρ ω σ H _ _ s rp h fun W1 ω1 d v H1 e1 rp1 r1 h1 => ?_
  obtain ⟨xs, hv, h1⟩ := h1
  rcases hv with hv | hv
  · obtain ⟨a, vs, rfl, ea, ra⟩ := view_lst rp1 r1 hv
    exact ⟨a, vs, rfl, .inr (.of ea), fun a dx n1 n2 n3 => make_sp rp1 (rds_rvs ra) (boxOf_dat xs) h1 (c.ext e1) n1 n2 n3⟩
  · obtain ⟨a, vs, rfl, ea, ra⟩ := view_tup rp1 r1 hv
    exact ⟨a, vs, rfl, .inl (.of ea), fun a dx n1 n2 n3 => make_sp rp1 (rds_rvs ra) (boxOf_dat xs) h1 (c.ext e1) n1 n2 n3⟩
/-- o(e, ..), an object that is data -/
def tCallI (C : Addr) (sp : Sp) (tf : TE) (t : TA) : TE := fun σ H Q => tf σ H fun y H1 => ∃ a, y = V.ref a ∧ t σ H1 fun vs H2 => (∃ dx fs, H2 a = some (.ins C dx fs)) ∧ sp (V.ref a :: vs) H2 Q E0
theorem pe_callI {Y : Cx} {sp : Sp} {tf : TE} {t : TA} {g : Addr} (hf : PE Y fe tf) (c : CallO Y.K C g) (F : FnR Y.prog Y.w Y.K Y.mg Y.base CX0 k g sp) (hr : Room k Y.A) (ha : PA Y (e :: es) t)
    (ht : eval (.Call fe (e :: es) [] pos) Y.env = (eval fe Y.env >>= fun g => callWith pos g [] (backTo pos (starEach (e :: es) Y.env)) (backToKw pos (keywordEach [] Y.env))) := by rfl)
    (he : starEach (e :: es) Y.env = (false, eval e Y.env) :: starEach es Y.env := by rfl) (hpl : (backTo pos (starEach es Y.env)).any (·.1) = false := by rfl) : PE Y (.Call fe (e :: es) [] pos) (tCallI C sp tf t) := by
  refine ⟨fun pins s σ H Q I h => Call_ (thn (hf.run pins s σ H _ I h) fun u s1 ⟨y, H1, I1, ry, a, ey, q⟩ => ?_) ht⟩
  subst ey
  obtain rfl : u = Value.ref a := ry
  refine callO_with (thn (ha.run pos pins s1 σ H1 _ I1 q) fun us s2 ⟨vs, H2, I2, r, hi, q2⟩ => ?_) he hpl
  have hi' : InsC Y H2 a C := .inr hi
  obtain ⟨ox, od, J, hd⟩ := insC_at I2 hi'
  exact ⟨⟨C, ox, od, J, hd⟩, run_callO c F hr pass0 I2 hi' r q2⟩
def wCallO (C : Addr) (dsp : Dsp) (wf : WE) (ws : WA) : WE := fun ρ ω Q => wf ρ ω fun d ω1 => ∃ ns xs, d = .dat (.obj C ns xs) ∧ ws ρ ω1 fun ds ω2 => wPass dsp (d :: ds) ω2 Q
theorem de_callO {g : Addr} (hf : DE X fe wf) (c : ∀ i, CallO (X i).K C g) (F : ∀ i, FnR (X i).prog (X i).w (X i).K (X i).mg (X i).base CX0 k g (spD dsp)) (hr : ∀ i, Room k (X i).A) (ha : DA X (e :: es) ws)
    (ht : ∀ i, eval (.Call fe (e :: es) [] pos) (X i).env = (eval fe (X i).env >>= fun g => callWith pos g [] (backTo pos (starEach (e :: es) (X i).env)) (backToKw pos (keywordEach [] (X i).env))) := by intro _; rfl)
    (he : ∀ i, starEach (e :: es) (X i).env = (false, eval e (X i).env) :: starEach es (X i).env := by intro _; rfl) (hpl : ∀ i, (backTo pos (starEach es (X i).env)).any (·.1) = false := by intro _; rfl) : DE X (.Call fe (e :: es) [] pos) (wCallO C dsp wf ws) := by
  obtain ⟨tf, pf, qf⟩ := hf.ex
  obtain ⟨t, pa, q⟩ := ha.ex
  refine ⟨tCallI C (spD dsp) tf t, fun i => pe_callI (pf i) (c i) (F i) (hr i) (pa i) (ht i) (he i) (hpl i), fun W F' ρ ω σ H Q R s rp h c => ?_⟩
  refine qf W F' ρ ω σ H _ _ s rp h fun W1 ω1 d v H1 e1 rp1 r1 h1 => ?_
  obtain ⟨ns, xs, rfl, h1⟩ := h1
  obtain ⟨a, dx, fs, rfl, ea, k1, _⟩ := obj_inv r1
  refine ⟨a, rfl, q W1 F' ρ ω1 σ H1 _ _ (s.ext e1) rp1 h1 fun W2 ω2 ds vs H2 e2 rp2 r2 h2 => ?_⟩
  exact ⟨⟨dx, fs, rp2.sj _ _ (e2.j _ _ ea)⟩, pass_sp rp2 (.cons (RV.ext e2 r1) r2) h2 (c.ext (e1.trans e2))⟩
/-- str(o), by its own __str__ -/
def wStrO (C : Addr) (dsp : Dsp) (we : WE) : WE := fun ρ ω Q => we ρ ω fun d ω1 => ∃ ns xs, d = .dat (.obj C ns xs) ∧ dsp [d] [] (backN ω1 fun r ω' => ∃ y, r = dS y ∧ Q r ω')
theorem de_strO {g : Addr} (hs : ∀ i, PySem.W.findIn (X i).K (.ref C) "__str__" = some (some (.ref g))) (hf : ∀ i, PySem.W.isFn (X i).K (.ref g) = true) (hb : ∀ i, Binds (X i).K fd ps []) (F : ∀ i, FnOk (X i).prog (X i).w (X i).K (X i).mg (X i).base CX0 k g fd ps (spD dsp)) (hr : ∀ i, Room (k + 2) (X i).A) (hm : ∀ i, (X i).mg "str" = none) (ha : DE X e we)
    (hg : ∀ i, Gl (X i) "str" := by intro _; rfl) (he : ∀ i, starEach [e] (X i).env = (false, eval e (X i).env) :: starEach [] (X i).env := by intro _; rfl) (hpl : ∀ i, (backTo pos (starEach [] (X i).env)).any (·.1) = false := by intro _; rfl) : DE X (.Call (.Name "str" p) [e] [] pos) (wStrO C dsp we) := by
  obtain ⟨t, pa, q⟩ := ha.ex
  refine ⟨tCB (rStrB C (spD dsp) E0) (tCons t tNil), fun i => pe_callTy (call_strB (hs i) (hf i) (hb i) (F i) (hr i)) (hg i) (hm i) (by decide +kernel) (pa_cons (pa i) pa_nil (he i)) (by decide) (by decide) (he i) (hpl i), fun W F' ρ ω σ H Q R s rp h c => ?_⟩
  refine q W F' ρ ω σ H _ _ s rp h fun W1 ω1 d v H1 e1 rp1 r1 h1 => ?_
  obtain ⟨ns, xs, rfl, h1⟩ := h1
  obtain ⟨a, dx, fs, rfl, ea, k1, _⟩ := obj_inv r1
  refine ⟨a, dx, fs, rfl, rp1.sj _ _ ea, call_frame rp1 (.cons r1 .nil) (show callK dsp [.dat (.obj C ns xs)] ω1 _ from h1) fun W2 ω2 r u H2 e2 rp2 r2 h2 => ?_⟩
  obtain ⟨y, rfl, h2⟩ := h2
  cases r2
  exact ⟨y, rfl, c W2 ω2 (dS y) _ H2 (e1.trans e2) rp2 (RD.str y) h2⟩
end
/-! ### assignments -/
section
variable {X : Cx} {a b c e : Expr} {we : WE} {ws : WA} {pos : Pos}
def wPar (i j : Nat) (ws : WA) : WS := fun D ρ ω => ws ρ ω fun ds ω1 => match ds with
  | [u, v] => D.nx ((ρ.set i (some u)).set j (some v)) ω1
  | _ => False
theorem ds_par {i j : Nat} {x y : Str} {px py pt : Pos} {kt k2 pt2} (hc : X.calm = true) (hN : X.N.Nodup) (hij : i ≠ j) (ha : DA (One X) [a, b] ws) (hw : swappedStores [.Tuple [.Name x px, .Name y py] kt pt] (.Tuple [a, b] k2 pt2) X.env = pure (some [x, y]) := by rfl)
    (hi : X.N[i]? = some x := by rfl) (hj : X.N[j]? = some y := by rfl) (hx : X.env.scope.names.lookup x = some .local := by rfl) (hy : X.env.scope.names.lookup y = some .local := by rfl)
    (hs : swapsWithSole [.Tuple [.Name x px, .Name y py] kt pt] (.Tuple [a, b] k2 pt2) pos.line X.env = pure false := by rfl) : DS X (.Assign [.Tuple [.Name x px, .Name y py] kt pt] (.Tuple [a, b] k2 pt2) pos) (wPar i j ws) := by
  obtain ⟨t, pa, q⟩ := ha.ex
  refine ⟨tPar i j t, ps_par hc hN hi hj hij hx hy (pa ()) hw hs, fun W F ρ ω σ H D E s rp h l => ?_⟩
  refine q W F ρ ω σ H _ _ s rp h fun W1 ω1 ds vs H1 e1 rp1 r1 h1 => ?_
  split at h1
  · obtain ⟨u, v, rfl, ru, rv⟩ := rvs2 r1
    exact ⟨u, v, rfl, l.nx W1 _ ω1 _ H1 e1 (((s.ext e1).set ru i).set rv j) rp1 h1⟩
  · exact h1.elim
def wPar3 (i j k : Nat) (ws : WA) : WS := fun D ρ ω => ws ρ ω fun ds ω1 => match ds with
  | [u, v, w] => D.nx (((ρ.set i (some u)).set j (some v)).set k (some w)) ω1
  | _ => False
theorem ds_par3 {i j k : Nat} {x y z : Str} {px py pz pt : Pos} {kt k2 pt2} (hc : X.calm = true) (hN : X.N.Nodup) (hij : i ≠ j) (hik : i ≠ k) (hjk : j ≠ k) (ha : DA (One X) [a, b, c] ws) (hw : swappedStores [.Tuple [.Name x px, .Name y py, .Name z pz] kt pt] (.Tuple [a, b, c] k2 pt2) X.env = pure (some [x, y, z]) := by rfl)
    (hi : X.N[i]? = some x := by rfl) (hj : X.N[j]? = some y := by rfl) (hk : X.N[k]? = some z := by rfl) (hx : X.env.scope.names.lookup x = some .local := by rfl) (hy : X.env.scope.names.lookup y = some .local := by rfl) (hz : X.env.scope.names.lookup z = some .local := by rfl)
    (hs : swapsWithSole [.Tuple [.Name x px, .Name y py, .Name z pz] kt pt] (.Tuple [a, b, c] k2 pt2) pos.line X.env = pure false := by rfl) : DS X (.Assign [.Tuple [.Name x px, .Name y py, .Name z pz] kt pt] (.Tuple [a, b, c] k2 pt2) pos) (wPar3 i j k ws) := by
  obtain ⟨t, pa, q⟩ := ha.ex
  refine ⟨tPar3 i j k t, ps_par3 hc hN hi hj hk hij hik hjk hx hy hz (pa ()) hw hs, fun W F ρ ω σ H D E s rp h l => ?_⟩
  refine q W F ρ ω σ H _ _ s rp h fun W1 ω1 ds vs H1 e1 rp1 r1 h1 => ?_
  split at h1
  · cases r1 with
    | cons ru r2 =>
      obtain ⟨v, w, rfl, rv, rw'⟩ := rvs2 r2
      exact ⟨_, v, w, rfl, l.nx W1 _ ω1 _ H1 e1 ((((s.ext e1).set ru i).set rv j).set rw' k) rp1 h1⟩
  · exact h1.elim
/-- name += e -/
def wAug (i : Nat) (we : WE) (rd : W2) : WS := fun D ρ ω => match ρ[i]? with
  | some (some d) => we ρ ω fun y ω1 => rd d y ω1 fun z ω2 => D.nx (ρ.set i (some z)) ω2
  | _ => False
theorem ds_aug {i : Nat} {x : Str} {op : Operator} {ti : TIp} {rd : W2} {pos' : Pos} (hN : X.N.Nodup) (he : DE (One X) e we) (ho : PIp X op ti) (lf : ∀ W F ω H x y dx dy Q R, Rep W F ω H → RV W x dx → RV W y dy → rd dx dy ω Q → Cont W F Q R → ti x y H R)
    (hi : X.N[i]? = some x := by rfl) (hx : Loc X.env.scope x := by first | exact Or.inl rfl | exact Or.inr rfl) (hf : X.fn x = true ∨ X.env.scope.names.lookup x = some .local := by first | exact .inl rfl | exact .inr rfl) : DS X (.AugAssign (.Name x pos') op e pos) (wAug i we rd) := by
  obtain ⟨t, pe, q⟩ := he.ex
  refine ⟨tAug i t ti, ps_aug hN hi hx (pe ()) ho hf, fun W F ρ ω σ H D E s rp h l => ?_⟩
  have h' : (match ρ[i]? with
    | some (some d) => we ρ ω fun y ω1 => rd d y ω1 fun z ω2 => D.nx (ρ.set i (some z)) ω2
    | _ => False) := h
  cases e0 : ρ[i]? with
  | none =>
    rw [e0] at h'
    exact h'.elim
  | some o =>
    cases o with
    | none =>
      rw [e0] at h'
      exact h'.elim
    | some d =>
      rw [e0] at h'
      obtain ⟨v, h1, h2⟩ := s.at_ i d e0
      refine ⟨v, h1, q W F ρ ω σ H _ _ s rp h' fun W1 ω1 y u H1 e1 rp1 r1 h3 => ?_⟩
      refine lf W1 F ω1 H1 v u d y _ _ rp1 (h2.ext e1) r1 h3 fun W2 ω2 z w H2 e2 rp2 r2 h4 => ?_
      exact l.nx W2 _ ω2 _ H2 (e1.trans e2) ((s.ext (e1.trans e2)).set r2 i) rp2 h4
end
/-- o += .., by the own + -/
def rAugOD (C : Addr) (dF dG : Dsp) : W2 := fun a b ω Q => (∃ ns xs, a = .dat (.obj C ns xs)) ∧ rAddOD C dF dG a b ω Q
theorem lift_augO {C : Addr} {dF dG : Dsp} : ∀ W F ω H x y dx dy Q R, Rep W F ω H → RV W x dx → RV W y dy → rAugOD C dF dG dx dy ω Q → Cont W F Q R → ipAddO C (spD dF) (spD dG) x y H R := by
  rintro W F ω H x y dx dy Q R rp rx ry ⟨⟨ns, xs, rfl⟩, h⟩ q
  obtain ⟨a, d1, fs, e1, ea, _⟩ := obj_inv rx
  exact ⟨⟨a, d1, fs, e1, rp.sj _ _ ea⟩, lift_addO W F ω H x y _ dy Q R rp rx ry h q⟩
end Dl
set_option Elab.async false
set_option linter.all false
set_option maxRecDepth 100000
set_option maxHeartbeats 4000000
/-! DE: t[::k] of a tuple, list * int, repr of truth values, isinstance of an own class. -/
namespace Dl
open PySem PySem.Spec PyProof.Rows L2 G StX HT
/-! ### t[::1], t[::-1] -/
section
variable {prog : Program} {w : World} {A : Around} {E : Value → Shared → Prop} {s : Shared}
theorem step_adjust (n : Nat) : Builtin.Slice.sliceAdjust none none (-1) (n : Int) = ((n : Int) - 1, -1) := by
  unfold Builtin.Slice.sliceAdjust
  simp
theorem step_places (n : Nat) : Builtin.Slice.slicePlaces ((n : Int) - 1) (-1) (-1) = n := by
  unfold Builtin.Slice.slicePlaces
  rw [if_neg (by decide)]
  split
  · rw [show (-(-1) : Int) = 1 by decide, Int.ediv_one]
    omega
  · omega
theorem step_adjust1 (n : Nat) : Builtin.Slice.sliceAdjust none none 1 (n : Int) = (0, (n : Int)) := by
  unfold Builtin.Slice.sliceAdjust
  simp
theorem step_places1 (n : Nat) : Builtin.Slice.slicePlaces 0 (n : Int) 1 = n := by
  unfold Builtin.Slice.slicePlaces
  rw [if_pos (by decide)]
  split
  · rw [Int.ediv_one]
    omega
  · omega
theorem sliceApplied_step {sl : Addr} {k lo hi : Int} {t : Tok} {n : Nat} {Q : Int × Int × Nat → Shared → Prop} (hs : s.heap.IsSliceOf sl .none .none (.int k t)) (h0 : (k == 0) = false) (ha : Builtin.Slice.sliceAdjust none none k (n : Int) = (lo, hi))
    (h : Q (lo, k, Builtin.Slice.slicePlaces lo hi k) s) : wpAny (model prog w) A (Builtin.Slice.sliceApplied (.ref sl) (pure (n : Int))) Q E s := by
  obtain ⟨os, hos, hcs, hds⟩ := id hs
  unfold Builtin.Slice.sliceApplied Builtin.Slice.sliceFields
  refine wpAny_bind (wpAny_bind (wpAny_field hos hds (x := .none) rfl (wpAny_bind (wpAny_field hos hds (x := .none) rfl (wpAny_bind (wpAny_field hos hds (x := .int k t) rfl (wpAny_pure ?_)))))))
  refine wpAny_bind (slicePart_int ?_)
  show wpAny _ _ (if (k == 0) = true then _ else _) _ _ s
  rw [h0, if_neg (by decide)]
  refine wpAny_bind (slicePart_none (wpAny_bind (slicePart_none (wpAny_bind (wpAny_pure ?_)))))
  show wpAny _ _ (match Builtin.Slice.sliceAdjust none none k (n : Int) with | (lo, hi) => pure (lo, k, Builtin.Slice.slicePlaces lo hi k)) _ _ s
  rw [ha]
  exact wpAny_pure h
theorem pick_back (xs : Array Value) : ((List.range xs.size).filterMap fun (m : Nat) => xs[(((xs.size : Nat) : Int) - 1 + (m : Int) * (-1)).toNat]?) = xs.toList.reverse := by
  apply List.ext_getElem?
  intro i
  have e : ∀ k, k ≤ xs.size → ((List.range k).filterMap fun (m : Nat) => xs[(((xs.size : Nat) : Int) - 1 + (m : Int) * (-1)).toNat]?) = xs.toList.reverse.take k := by
    intro k
    induction k with
    | zero => intro _; simp
    | succ k ih =>
      intro hk
      rw [List.range_succ, List.filterMap_append, ih (by omega), List.take_add_one]
      congr 1
      have e1 : (((xs.size : Nat) : Int) - 1 + (k : Int) * (-1)).toNat = xs.size - 1 - k := by omega
      have hk2 : xs.size - 1 - k < xs.size := by omega
      simp only [List.filterMap_cons, List.filterMap_nil]
      rw [e1, Array.getElem?_eq_getElem hk2, List.getElem?_reverse (by simpa using (show k < xs.size by omega))]
      simp [hk2]
  rw [e xs.size (Nat.le_refl _), List.take_of_length_le (by simp)]
theorem getItem_tuple_step1 {t sl : Addr} {items : Array Value} {u : Tok} {Q : Value → Shared → Prop} (ht : IsTup s.heap t items) (hs : s.heap.IsSliceOf sl .none .none (.int 1 u)) (h : Q (.ref t) s) : wpAny (model prog w) A (getItem (.ref t) (.ref sl)) Q E s := by
  obtain ⟨os, hos, hcs, hds⟩ := id hs
  have hTs : s.TypeIs (.ref sl) "slice" := ⟨os, hos, hcs⟩
  unfold getItem
  try with_reducible refine wpAny_holding ?_
  first | refine wpAny_bind (wpAny_pure ?_) | skip
  refine wpAny_bind (wpAny_sequenceKey ht.typeIs (by decide) ?_)
  refine wpAny_bind (wpAny_callSpecial?_slot (name := Str.ofString "__getitem__") ht.typeIs PyProof.Rows.slot_tuple_getitem
    (wpAny_call_entry PyProof.Rows.slot_tuple_getitem ht.typeIs entry_tuple_getitem ?_ (args_tuple_getitem _ _)))
  show wpAny _ _ (Builtin.Tuple.tupleItemsOf (.ref t) >>= _) _ _ s
  refine wpAny_bind (tupleItemsOf_ ht ?_)
  refine wpAny_bind (wpAny_typeOf hTs ?_)
  rw [if_pos (by decide)]
  refine wpAny_bind (sliceApplied_step hs rfl (step_adjust1 _) ?_)
  rw [step_places1]
  have hyes : ((0 : Int) == 0 && (1 : Int) == 1 && items.size == items.size) = true := by simp
  show wpAny _ _ (if ((0 : Int) == 0 && (1 : Int) == 1 && items.size == items.size) = true then _ else _) _ _ s
  rw [if_pos hyes]
  refine wpAny_bind ?_
  show wpAny _ _ (typeOf (.ref t) >>= fun T => pure (T == .type "tuple")) _ _ s
  refine wpAny_bind (wpAny_typeOf ht.typeIs (wpAny_pure ?_))
  first
    | rw [if_pos (by decide)]
    | simp only [beq_self_eq_true, if_true]
  first
    | exact wpAny_bind (wpAny_rule (wpAny_pure ⟨_, rfl, wpAny_pure h⟩))
    | exact wpAny_bind (wpAny_rule (wpAny_bind (wpAny_pure (wpAny_pure ⟨_, rfl, wpAny_pure h⟩))))
theorem getItem_tuple_back {t sl : Addr} {items : Array Value} {u : Tok} {Q : Value → Shared → Prop} (ht : IsTup s.heap t items) (hs : s.heap.IsSliceOf sl .none .none (.int (-1) u))
    (h : Q (.ref s.heap.objs.size) { s with heap := s.heap.push { cls := .type "tuple", data := .seq items.toList.reverse.toArray } }) (hsz : items.size ≤ sizeLine) : wpAny (model prog w) A (getItem (.ref t) (.ref sl)) Q E s := by
  have hok : sizeOk (.seq items.toList.reverse.toArray) := by
    show items.toList.reverse.toArray.size ≤ sizeLine
    rw [List.size_toArray, List.length_reverse, Array.length_toList]
    exact hsz
  obtain ⟨os, hos, hcs, hds⟩ := id hs
  have hTs : s.TypeIs (.ref sl) "slice" := ⟨os, hos, hcs⟩
  unfold getItem
  try with_reducible refine wpAny_holding ?_
  first | refine wpAny_bind (wpAny_pure ?_) | skip
  refine wpAny_bind (wpAny_sequenceKey ht.typeIs (by decide) ?_)
  refine wpAny_bind (wpAny_callSpecial?_slot (name := Str.ofString "__getitem__") ht.typeIs PyProof.Rows.slot_tuple_getitem
    (wpAny_call_entry PyProof.Rows.slot_tuple_getitem ht.typeIs entry_tuple_getitem ?_ (args_tuple_getitem _ _)))
  show wpAny _ _ (Builtin.Tuple.tupleItemsOf (.ref t) >>= _) _ _ s
  refine wpAny_bind (tupleItemsOf_ ht ?_)
  refine wpAny_bind (wpAny_typeOf hTs ?_)
  rw [if_pos (by decide)]
  refine wpAny_bind (sliceApplied_step hs rfl (step_adjust _) ?_)
  rw [step_places]
  have hno : ¬ ((((items.size : Nat) : Int) - 1 == 0 && (-1 : Int) == 1 && items.size == items.size) = true) := by
    rw [show ((-1 : Int) == 1) = false by decide, Bool.and_false, Bool.false_and]
    exact Bool.false_ne_true
  show wpAny _ _ (if (((items.size : Nat) : Int) - 1 == 0 && (-1 : Int) == 1 && items.size == items.size) = true then _ else _) _ _ s
  rw [if_neg hno, pick_back items]
  first
    | exact wpAny_bind (m := Builtin.Tuple.tupleExact _) (wpAny_newObj_type (wpAny_pure ⟨_, rfl, wpAny_pure h⟩) hok)
    | exact wpAny_bind (m := Builtin.Tuple.tupleExact _) (wpAny_newObj_type (wpAny_bind (wpAny_pure (wpAny_pure ⟨_, rfl, wpAny_pure h⟩))) hok)
    | exact wpAny_bind (wpAny_bind (m := Builtin.Tuple.tupleExact _) (wpAny_newObj_type (wpAny_pure (wpAny_pure ⟨_, rfl, wpAny_pure h⟩)) hok))
    | exact wpAny_bind (wpAny_bind (m := Builtin.Tuple.tupleExact _) (wpAny_newObj_type (wpAny_pure ⟨_, rfl, wpAny_pure h⟩) hok))
end
def tStepT (K : PySem.W.Frag) (te : TE) (tp : TO) : TE := fun σ H Q => te σ H fun x H1 => tp σ H1 fun o H2 => ∃ a xs, x = .ref a ∧ SqT K H2 a xs ∧ ((o = some 1 ∧ Q (.ref a) H2) ∨ (o = some (-1) ∧ ∀ p, H2 p = none → Q (.ref p) (upd H2 p (.tup xs.reverse))))
theorem pe_stepT {X : Cx} {e st : Expr} {te : TE} {tp : TO} {p3 pos : Pos} (he : PE X e te) (hst : PO X (some st) tp) (hsub : ∀ a l : Addr, subscripted (.Slice none none (some st) p3) false (.ref a) (.ref l) = operate [.ref a, .ref l] (getItem (.ref a) (.ref l)) := by intro _ _; with_unfolding_all rfl) :
    PE X (.Subscript e (.Slice none none (some st) p3) pos) (tStepT X.K te tp) := by
  refine ⟨fun pins s σ H Q I h => ?_⟩
  refine Subscript_ (thn (he.run pins s σ H _ I h) fun v s1 ⟨x, H1, I1, r1, q1⟩ => ?_)
  refine wpAny_Slice (thn (po_none.run pins s1 σ H1 (fun o H2 => o = none ∧ H2 = H1) I1 ⟨rfl, rfl⟩) fun vl s2 ⟨l, H2, I2, pl, el, e2⟩ => ?_)
  subst el e2
  refine thn (po_none.run pins s2 σ H2 (fun o H3 => o = none ∧ H3 = H2) I2 ⟨rfl, rfl⟩) fun vu s3 ⟨u, H3, I3, pu, eu, e3⟩ => ?_
  subst eu e3
  refine thn (hst.run pins s3 σ H3 _ I3 q1) fun vs s4 ⟨o, H4, I4, ps, a, xs, ex, hx, q⟩ => ?_
  subst ex
  cases r1
  cases pl
  cases pu
  have I5 : Inv X pins σ H4 { s4 with heap := s4.heap.push { cls := .type "slice", data := .fields #[.none, .none, vs] } } := I4.kept (t' := s4.toks) fun b ob q => Heap.get?_push_of_some _ q
  obtain ⟨its, r, ht, hz⟩ := I5.tuple hx
  have hlen : its.toArray.size = xs.length := by rw [List.size_toArray]; exact r.length.symm
  show wpAny (model X.prog X.w) X.A (subscriptTail e (.Slice none none (some st) p3) (.ref a) (.ref s4.heap.objs.size)) (EP X pins σ Q) X.xe { s4 with heap := s4.heap.push { cls := .type "slice", data := .fields #[.none, .none, vs] } }
  refine tail_any (ops := [.ref a, .ref s4.heap.objs.size]) ht.typeIs (PyProof.Rows.slot_tuple_getitem.lookup) ?_ (hsub _ _)
  rcases q with ⟨rfl, q⟩ | ⟨rfl, q⟩
  · cases ps with
    | int i t =>
      exact getItem_tuple_step1 ht (Heap.IsSliceOf.new _ _ _ _) ⟨.ref a, H4, I5, rfl, q⟩
  · cases ps with
    | int i t =>
      refine getItem_tuple_back ht (Heap.IsSliceOf.new _ _ _ _) ?_ (by rw [hlen]; exact hz)
      refine ⟨.ref _, _, I5.laid (t' := s4.toks) (o := .tup xs.reverse) (fun b ob q => Heap.get?_push_of_some _ q) (Nat.le_refl _) ?_, rfl, q _ (I5.hok.fresh (Nat.le_refl _))⟩
      exact ⟨by rw [List.length_reverse]; exact hz, _, r.reverse, IsTup.new _ _⟩
section
variable {ι : Type} {X : ι → Cx} {a b e o st : Expr} {es : List Expr} {wa wb we wo : WE} {ws : WA} {pos p : Pos} {x : Str} {wp : WO}
def wStepT (we : WE) (wp : WO) : WE := fun ρ ω Q => we ρ ω fun d ω1 => wp ρ ω1 fun k ω2 => ∃ xs, view ω2 d = some (.tup xs) ∧ ((k = some 1 ∧ Q (.dat (.tup xs)) ω2) ∨ (k = some (-1) ∧ Q (.dat (.tup xs.reverse)) ω2))
theorem de_stepT {K : PySem.W.Frag} {p3 : Pos} (he : DE X e we) (hp : DO X (some st) wp) (hK : ∀ i, (X i).K = K := by intro _; rfl)
    (hsub : ∀ a l : Addr, subscripted (.Slice none none (some st) p3) false (.ref a) (.ref l) = operate [.ref a, .ref l] (getItem (.ref a) (.ref l)) := by intro _ _; with_unfolding_all rfl) : DE X (.Subscript e (.Slice none none (some st) p3) pos) (wStepT we wp) := by
  obtain ⟨t, p, q⟩ := he.ex
  obtain ⟨tp, pp, qp⟩ := hp.ex
  refine ⟨tStepT K t tp, fun i => hK i ▸ pe_stepT (p i) (pp i) hsub, fun W F ρ ω σ H Q R s rp h c => ?_⟩
  refine q W F ρ ω σ H _ _ s rp h fun W1 ω1 d v H1 e1 rp1 r1 h1 => ?_
  refine qp W1 F ρ ω1 σ H1 _ _ (s.ext e1) rp1 h1 fun W2 ω2 k H2 e2 rp2 h2 => ?_
  obtain ⟨xs, hv, h2⟩ := h2
  have r2 := r1.ext e2
  have c2 := c.ext (e1.trans e2)
  obtain ⟨a, vs, rfl, ea, ra⟩ := view_tup rp2 r2 hv
  refine ⟨a, vs, rfl, .of ea, ?_⟩
  rcases h2 with ⟨rfl, h2⟩ | ⟨rfl, h2⟩
  · exact .inl ⟨rfl, give rp2 c2 (d := .dat (.tup xs)) (tup_self rp2 r2 hv) h2⟩
  · exact .inr ⟨rfl, newT rp2 c2 ra.rev h2⟩
/-! ### list * int -/
def rRepD : W2 := fun a b ω Q => ∃ xs k, view ω a = some (.lst xs) ∧ b = dI k ∧ 0 ≤ k ∧ k ≤ 1000 ∧ xs.length * k.toNat ≤ 7000 ∧ Q (.ptr ω.length) (ω ++ [some (.lst (List.replicate k.toNat xs).flatten)])
theorem rds_rep {J : Hp} {vs : List V} {ds : List Dt} (r : RDs J vs ds) : ∀ n : Nat, RDs J (List.replicate n vs).flatten (List.replicate n ds).flatten
  | 0 => .nil
  | n + 1 => by
    rw [List.replicate_succ, List.replicate_succ, List.flatten_cons, List.flatten_cons]
    exact r.app (rds_rep r n)
theorem lift_rep : Lift2 rRep rRepD := by
  rintro W F ω H x y dx dy Q R rp rx ry ⟨xs, k, hv, rfl, k0, k1, hz, h⟩ q
  obtain ⟨a, vs, rfl, ea, ra⟩ := view_lst rp rx hv
  cases ry
  exact ⟨a, k, vs, rfl, rfl, ea, by omega, by omega, by rw [ra.len]; exact line_le hz, newL rp q (rds_rep ra _) h⟩
theorem de_rep (ha : DE X a wa) (hb : DE X b wb) : DE X (.BinOp a .Mult b pos) (wOp rRepD wa wb) := de_op (fun _ => op_rep) lift_rep ha hb
/-! ### repr of a list of truth values -/
def bText (bs : List Bool) : Str := listText (PyData.shownAll (bs.map PyData.bool))
def rReprBs : WN := fun ds ω Q => ∃ (d : D) (bs : List Bool), ds = [d] ∧ view ω d = some (.lst (bs.map Dt.bl)) ∧ bs.length ≤ 100 ∧ Q (dS (bText bs)) ω
theorem bools_show : ∀ bs : List Bool, PyData.showableAll (bs.map PyData.bool) = true ∧ PyData.hasDictAll (bs.map PyData.bool) = false ∧ PyData.depthAll (bs.map PyData.bool) = 0 ∧ massAll (bs.map PyData.bool) ≤ 20 * bs.length
  | [] => ⟨rfl, rfl, rfl, Nat.le_refl _⟩
  | b :: bs => by
    obtain ⟨h1, h2, h3, h4⟩ := bools_show bs
    refine ⟨?_, ?_, ?_, ?_⟩
    · show (true && PyData.showableAll (bs.map PyData.bool)) = true
      rw [h1]
      rfl
    · show (false || PyData.hasDictAll (bs.map PyData.bool)) = false
      rw [h2]
      rfl
    · show max 0 (PyData.depthAll (bs.map PyData.bool)) = 0
      rw [h3]
      rfl
    · rw [List.map_cons, List.length_cons]
      have e : massAll (PyData.bool b :: bs.map PyData.bool) = 5 + 2 + massAll (bs.map PyData.bool) := rfl
      rw [e]
      omega
theorem rp_bools {K : PySem.W.Frag} {H : Hp} : ∀ bs : List Bool, RpAll K H (bs.map V.bl) (bs.map PyData.bool)
  | [] => .nil
  | b :: bs => .cons (.bl b) (rp_bools bs)
theorem lift_reprBs {K : PySem.W.Frag} : LiftN (rRepr K) rReprBs := by
  rintro W F ω H vs ds Q R rp rs ⟨d, bs, rfl, hv, hl, h⟩ q
  obtain ⟨v, rfl, rv⟩ := rvs1 rs
  obtain ⟨a, us, rfl, ea, ra⟩ := view_lst rp rv hv
  cases ra.bls_inv
  obtain ⟨h1, h2, h3, h4⟩ := bools_show bs
  refine ⟨a, _, bs.map PyData.bool, rfl, ea, rp_bools bs, h1, (fun z => by rw [h2] at z; cases z), ?_, ?_, give rp q (d := dS _) (.str _) h⟩
  · show PyData.depthAll (bs.map PyData.bool) + 1 ≤ 20
    rw [h3]
    decide
  · exact line_le (by omega)
theorem de_reprBs {K : PySem.W.Frag} (hg : ∀ i, (X i).A.guards = some []) (hu : ∀ i, (X i).A.units + 64 < cLine) (hm : ∀ i, (X i).mg "repr" = none) (ha : DA X [e] ws) (hgl : ∀ i, Gl (X i) "repr" := by intro _; rfl) (hK : ∀ i, (X i).K = K := by intro _; rfl)
    (he : ∀ i, starEach [e] (X i).env = (false, eval e (X i).env) :: starEach [] (X i).env := by intro _; rfl) (hpl : ∀ i, (backTo pos (starEach [] (X i).env)).any (·.1) = false := by intro _; rfl) :
    DE X (.Call (.Name "repr" p) [e] [] pos) (wCB rReprBs ws) := de_callB (fun i => hK i ▸ call_repr (hg i) (hu i)) (lift_reprBs (K := K)) hm ha (by decide +kernel) hgl (by decide) (by decide) he hpl
/-! ### isinstance of an own class -/
structure IsO (K : PySem.W.Frag) (C : Addr) : Prop where
  cl : Cls K C
  ha : PySem.W.findIn K (.ref C) "__class__" = some (some (.builtin "object.__class__"))
  hn : PySem.W.specialIn K (.builtin "object.__class__") "__get__" = some (some (.builtin "getset_descriptor.__get__"))
  htk : PySem.W.takesIn K (.builtin "object.__class__") = some true
  hm : PySem.W.mroIn K C (.type "object") = some true
  kit : PySem.W.kitOne K (.ref C) (.ref C) = some true
  kN : PySem.W.kitOne K (.type "NoneType") (.ref C) = some false
  kI : PySem.W.kitOne K (.type "int") (.ref C) = some false
  kS : PySem.W.kitOne K (.type "str") (.ref C) = some false
  kL : PySem.W.kitOne K (.type "list") (.ref C) = some false
  kT : PySem.W.kitOne K (.type "tuple") (.ref C) = some false
def isiO (C : Addr) : Dt → Option Bool
  | .non | .int _ | .str _ | .lst _ | .tup _ => some false
  | .obj C' _ _ => if C' = C then some true else none
  | _ => none
theorem iso_ty {K : PySem.W.Frag} {C : Addr} (i : IsO K C) {H : Hp} {v : V} {x : Dt} {b : Bool} (r : RD H v x) (h : isiO C x = some b) : ∃ t, TyX K H v t ∧ PySem.W.kitOne K t (.ref C) = some b := by
  cases r with
  | non => cases h; exact ⟨_, .base .non, i.kN⟩
  | int j => cases h; exact ⟨_, .base (.int j), i.kI⟩
  | str z => cases h; exact ⟨_, .base (.str z), i.kS⟩
  | lst e r => cases h; exact ⟨_, .base (.lst e), i.kL⟩
  | tup e r => cases h; exact ⟨_, .base (.tup e), i.kT⟩
  | bl b => cases h
  | dic e k r => cases h
  | @obj a C' dx fs ns ds e k r =>
    have h' : (if C' = C then some true else none) = some b := h
    split at h'
    · rename_i e2
      subst e2
      cases h'
      exact ⟨_, .base (.ins e i.cl i.ha i.hn i.htk i.hm), i.kit⟩
    · cases h'
def wIsiO (C : Addr) (we : WE) : WE := fun ρ ω Q => we ρ ω fun d ω1 => ∃ x b, view ω1 d = some x ∧ isiO C x = some b ∧ Q (dB b) ω1
theorem de_isiO {K : PySem.W.Frag} {n : Str} {C : Addr} (io : IsO K C) (hm : ∀ i, (X i).mg "isinstance" = none) (mn : ∀ i, (X i).mg n = some (.ref C)) (he : DE X e we) {q : Pos} (hg : ∀ i, Gl (X i) "isinstance" := by intro _; rfl) (gn : ∀ i, Gl (X i) n := by intro _; rfl) (hK : ∀ i, (X i).K = K := by intro _; rfl)
    (hd : (n == ("__debug__" : Str)) = false := by decide) (hst : ∀ i, starEach [e, .Name n q] (X i).env = (false, eval e (X i).env) :: starEach [.Name n q] (X i).env := by intro _; rfl) (hpl : ∀ i, (backTo pos (starEach [.Name n q] (X i).env)).any (·.1) = false := by intro _; rfl) : DE X (.Call (.Name "isinstance" p) [e, .Name n q] [] pos) (wIsiO C we) := by
  obtain ⟨t, pe, qe⟩ := he.ex
  refine ⟨tCB (rIsi K) (tCons t (tCons (tC (.ref C)) tNil)), fun i => hK i ▸ pe_callB call_isi (hg i) (hm i) (by decide +kernel) (pa_cons (pe i) (pa_cons (pe_glob (v := .ref C) (gn i) (mn i) rfl hd) pa_nil) (hst i)) (by decide) (by decide) (hst i) (hpl i), fun W F ρ ω σ H Q R s rp h c => ?_⟩
  refine qe W F ρ ω σ H _ _ s rp h fun W1 ω1 d v H1 e1 rp1 r1 h1 => ?_
  obtain ⟨x, b, hv1, ho, h1⟩ := h1
  obtain ⟨ty, t1, t2⟩ := iso_ty io (view_rd rp1 r1 hv1) ho
  exact ⟨v, .ref C, _, _, b, rfl, .own C, t1, t2, c W1 ω1 (dB _) _ H1 e1 rp1 (RD.bl _) h1⟩
end
end Dl
set_option Elab.async false
set_option linter.all false
set_option maxRecDepth 100000
set_option maxHeartbeats 2000000
/-! DF: zip of two lists; comprehensions and loops that change no cell; equal data. -/
namespace Dl
open PySem PySem.Spec PyProof.Rows L2 G StX
section
variable {ι : Type} {X : ι → Cx} {e e2 : Expr} {p pos : Pos}
def wiZip (ws : WA) : WI := fun ρ ω Q => ws ρ ω fun ds ω1 => ∃ d d' xs ys, ds = [d, d'] ∧ view ω1 d = some (.lst xs) ∧ view ω1 d' = some (.lst ys) ∧ xs.length = ys.length ∧
  Q (List.zipWith (fun x y => Dt.tup [x, y]) xs ys) (fun ω2 => view ω2 d = view ω1 d ∧ view ω2 d' = view ω1 d') ω1
theorem di_zip {K : PySem.W.Frag} {elts : List Expr} {kk : Nat} {tpos : Pos} {ws : WA} (hm : ∀ i, (X i).mg "zip" = none) (ha : DA X [e, e2] ws) (hg : ∀ i, Gl (X i) "zip" := by intro _; rfl) (hK : ∀ i, (X i).K = K := by intro _; rfl)
    (hs : ∀ i, starEach [e, e2] (X i).env = (false, eval e (X i).env) :: starEach [e2] (X i).env := by intro _; rfl) (hpl : ∀ i, (backTo pos (starEach [e2] (X i).env)).any (·.1) = false := by intro _; rfl) :
    DI X (.Tuple elts kk tpos) (.Call (.Name "zip" p) [e, e2] [] pos) (wiZip ws) := by
  obtain ⟨t, pa, q⟩ := ha.ex
  refine ⟨iZip K t, fun i => hK i ▸ pi_zip (hg i) (hm i) (pa i) (hs i) (hpl i), fun W F ρ ω σ H Q R s rp h c => ?_⟩
  refine q W F ρ ω σ H _ _ s rp h fun W1 ω1 ds vs H1 e1 rp1 r1 h1 => ?_
  obtain ⟨d, d', xs, ys, rfl, hv, hv', hxy, h1⟩ := h1
  obtain ⟨v, v', rfl, ra, rb⟩ := rvs2 r1
  obtain ⟨a, us, rfl, ea, r2⟩ := view_lst rp1 ra hv
  obtain ⟨b, us2, rfl, eb, r3⟩ := view_lst rp1 rb hv'
  refine ⟨a, b, us, us2, rfl, .of ea, .of eb, c W1 ω1 _ _ H1 _ e1 rp1 h1 ?_⟩
  have getA : ∀ {W2 : Wd} {F ω H}, Ext W1 W2 → Rep W2 F ω H → view ω d = view ω1 d → ∃ us', H a = some (.lst us') ∧ RDs W2.J us' xs := fun e2 rp2 k => by
    obtain ⟨a', us', e3, e4, r3⟩ := view_lst rp2 (ra.ext e2) (k.trans hv)
    cases e3
    exact ⟨us', e4, r3⟩
  have getB : ∀ {W2 : Wd} {F ω H}, Ext W1 W2 → Rep W2 F ω H → view ω d' = view ω1 d' → ∃ us', H b = some (.lst us') ∧ RDs W2.J us' ys := fun e2 rp2 k => by
    obtain ⟨a', us', e3, e4, r3⟩ := view_lst rp2 (rb.ext e2) (k.trans hv')
    cases e3
    exact ⟨us', e4, r3⟩
  refine itr_pair (G := fun H => ∃ us' us2', H a = some (.lst us') ∧ H b = some (.lst us2') ∧ us'.length = xs.length ∧ us2'.length = ys.length) (fx := fun H i => match H a with
    | some (.lst us') => us'[i]?
    | _ => none) (fy := fun H i => match H b with
    | some (.lst us') => us'[i]?
    | _ => none) hxy ⟨fun i H hi ⟨us', us2', e, e', l, l'⟩ => ?_, fun H ⟨us', us2', e, e', l, l'⟩ => ⟨us', us2', .of e, .of e', by omega⟩, fun i H v H' hi ⟨us', us2', e, e', l, l'⟩ y => ?_⟩ (fun W2 F2 ω2 H2 e2 rp2 k => ?_) (fun i x v W2 F2 ω2 H2 e2 rp2 k ex ev => ?_) (fun i x v W2 F2 ω2 H2 e2 rp2 k ex ev => ?_)
  · exact ⟨us', us2', us'[i]'(by omega), us2'[i]'(by omega), .of e, .of e', List.getElem?_eq_getElem _, List.getElem?_eq_getElem _⟩
  · obtain ⟨T, x, z, g1, g2, g3, g4, g5⟩ := y
    exact ⟨T, x, z, g1, g2, g3, by rw [e]; exact g4 us' (.of e), by rw [e']; exact g5 us2' (.of e')⟩
  · obtain ⟨us', e3, r3⟩ := getA e2 rp2 k.1
    obtain ⟨us2', e4, r4⟩ := getB e2 rp2 k.2
    exact ⟨us', us2', e3, e4, r3.len, r4.len⟩
  · obtain ⟨us', e3, r3⟩ := getA e2 rp2 k.1
    rw [e3] at ev
    obtain ⟨x', ex', rx⟩ := r3.at ev
    rw [ex] at ex'
    cases ex'
    exact rx
  · obtain ⟨us', e3, r3⟩ := getB e2 rp2 k.2
    rw [e3] at ev
    obtain ⟨x', ex', rx⟩ := r3.at ev
    rw [ex] at ex'
    cases ex'
    exact rx
end
/-! ### comprehensions, loops that leave the cells as they are -/
theorem wLc_map {we te : WE} {k : Nat} {vs : List Nat} {ρ : Rho} {ω : Om} {Q : DK} {d : D} {xs : List Dt} (F : Dt → Dt) (hv : ∀ R : DK, R d ω → we ρ ω R) (hx : view ω d = some (.lst xs) ∨ view ω d = some (.tup xs)) (hl : xs.length ≤ 7000)
    (h : ∀ x ∈ xs, ∀ R : DK, R (.dat (F x)) ω → te ((wipeD ρ vs).set k (some (.dat x))) ω R) (q : Q (.ptr ω.length) (ω ++ [some (.lst (xs.map F))])) : wLc (wiSeq we) (wgName k) (fun _ ω Q => Q true ω) te vs ρ ω Q := by
  refine hv _ ⟨xs, hx, line_lt hl, fun i acc ω' => ω' = ω ∧ acc = (xs.take i).map F, ⟨rfl, rfl⟩, ?_, ?_, ?_⟩
  · rintro i acc ω' hi ⟨rfl, rfl⟩
    refine ⟨rfl, ?_⟩
    rw [List.length_map, List.length_take]
    omega
  · rintro i x acc ω' hm ⟨rfl, rfl⟩
    refine h x (List.mem_of_getElem? hm) _ ⟨_, _, rfl, rfl, ?_⟩
    rw [List.take_add_one, hm, List.map_append]
    rfl
  · rintro acc ω' ⟨rfl, rfl⟩
    rw [List.take_length]
    exact q
/-- .. with a test -/
theorem wLc_filter {we te : WE} {tt : WT} {k : Nat} {vs : List Nat} {ρ : Rho} {ω : Om} {Q : DK} {d : D} {xs : List Dt} (f : Dt → Bool) (F : Dt → Dt) (hv : ∀ R : DK, R d ω → we ρ ω R) (hx : view ω d = some (.lst xs) ∨ view ω d = some (.tup xs)) (hl : xs.length ≤ 7000)
    (ht : ∀ x ∈ xs, ∀ R : Bool → Om → Prop, R (f x) ω → tt ((wipeD ρ vs).set k (some (.dat x))) ω R) (h : ∀ x ∈ xs, ∀ R : DK, R (.dat (F x)) ω → te ((wipeD ρ vs).set k (some (.dat x))) ω R)
    (q : Q (.ptr ω.length) (ω ++ [some (.lst ((xs.filter f).map F))])) : wLc (wiSeq we) (wgName k) tt te vs ρ ω Q := by
  refine hv _ ⟨xs, hx, line_lt hl, fun i acc ω' => ω' = ω ∧ acc = ((xs.take i).filter f).map F, ⟨rfl, rfl⟩, ?_, ?_, ?_⟩
  · rintro i acc ω' hi ⟨rfl, rfl⟩
    refine ⟨rfl, ?_⟩
    rw [List.length_map]
    refine Nat.le_trans (List.length_filter_le _ _) ?_
    rw [List.length_take]
    omega
  · rintro i x acc ω' hm ⟨rfl, rfl⟩
    refine ht x (List.mem_of_getElem? hm) _ ?_
    have e0 : xs.take (i + 1) = xs.take i ++ [x] := by
      rw [List.take_add_one, hm]
      rfl
    cases hf : f x with
    | true =>
      rw [if_pos rfl]
      refine h x (List.mem_of_getElem? hm) _ ⟨_, _, rfl, rfl, ?_⟩
      rw [e0, List.filter_append, List.map_append, List.filter_cons_of_pos hf]
      rfl
    | false =>
      rw [if_neg Bool.false_ne_true]
      refine ⟨rfl, ?_⟩
      rw [e0, List.filter_append, List.filter_cons_of_neg (by rw [hf]; exact Bool.false_ne_true)]
      simp
  · rintro acc ω' ⟨rfl, rfl⟩
    rw [List.take_length]
    exact q
/-- the same names but two -/
def Off (ρ : Rho) (i j : Nat) (ρ' : Rho) : Prop := ∃ a b, ρ' = (ρ.set i a).set j b
theorem off_set {ρ : Rho} {i j : Nat} {a b x y : Option D} (h : i ≠ j) : Off ρ i j ((((ρ.set i a).set j b).set i x).set j y) := by
  refine ⟨x, y, ?_⟩
  rw [List.set_comm _ _ h.symm (l := ρ.set i a), List.set_set, List.set_set]
theorem wFor_pairs {ws : WA} {g : WG} {tb : WS} {D0 : DEnds} {ρ : Rho} {ω : Om} {i j : Nat} {d d' : D} {xs ys : List Dt} (hi : i < ρ.length) (hj : j < ρ.length) (hv : ∀ R : List D → Om → Prop, R [d, d'] ω → ws ρ ω R) (hx : view ω d = some (.lst xs)) (hy : view ω d' = some (.lst ys)) (hl : xs.length = ys.length)
    (h : ∀ (m : Nat) x y ρ', xs[m]? = some x → ys[m]? = some y → Off ρ i j ρ' → g (.dat (.tup [x, y])) ρ' ω fun ρ2 ω2 => tb { D0 with nx := fun ρ3 ω3 => ω3 = ω ∧ Off ρ i j ρ3, ct := fun ρ3 ω3 => ω3 = ω ∧ Off ρ i j ρ3, bk := D0.nx } ρ2 ω2)
    (q : ∀ ρ', Off ρ i j ρ' → D0.nx ρ' ω) : wFor (wiZip ws) g tb D0 ρ ω := by
  refine hv _ ⟨d, d', xs, ys, rfl, hx, hy, hl, fun _ ρ' ω' => ω' = ω ∧ Off ρ i j ρ', ⟨rfl, ρ[i], ρ[j], ?_⟩, ?_, ?_, ?_⟩
  · apply List.ext_getElem?
    intro m
    by_cases h1 : m = j
    · subst h1
      rw [List.getElem?_set_self (by rw [List.length_set]; exact hj), List.getElem?_eq_getElem hj]
    · rw [List.getElem?_set_ne (Ne.symm h1)]
      by_cases h2 : m = i
      · subst h2
        rw [List.getElem?_set_self hi, List.getElem?_eq_getElem hi]
      · rw [List.getElem?_set_ne (Ne.symm h2)]
  · rintro _ ρ' ω' _ ⟨rfl, _⟩
    exact ⟨rfl, rfl⟩
  · rintro m x ρ' ω' hx' ⟨rfl, ho⟩
    rw [List.getElem?_zipWith] at hx'
    cases q1 : xs[m]? with
    | none =>
      rw [q1] at hx'
      cases hx'
    | some a =>
      cases q2 : ys[m]? with
      | none =>
        rw [q1, q2] at hx'
        cases hx'
      | some b =>
        rw [q1, q2] at hx'
        cases Option.some.inj hx'
        exact h m a b ρ' q1 q2 ho
  · rintro ρ' ω' ⟨rfl, ho⟩
    exact q ρ' ho
/-! ### equal data -/
theorem eqT {a b : D} {ω : Om} {Q : DK} {x y : Dt} (hx : view ω a = some x) (hy : view ω b = some y) (sx : Sh 60 x) (nb : noB x = true) (e : y = x) (q : Q (dB true) ω) : rEqDt true a b ω Q := by
  subst e
  refine ⟨y, y, hx, hy, sx, sx, ?_⟩
  show Q (dB (eqb y y)) ω
  rw [eqb_self nb]
  exact q
theorem neF {a b : D} {ω : Om} {Q : DK} {x y : Dt} (hx : view ω a = some x) (hy : view ω b = some y) (sx : Sh 60 x) (nb : noB x = true) (e : y = x) (q : Q (dB false) ω) : rEqDt false a b ω Q := by
  subst e
  refine ⟨y, y, hx, hy, sx, sx, ?_⟩
  show Q (dB (!eqb y y)) ω
  rw [eqb_self nb]
  exact q
theorem eqX {a b : D} {ω : Om} {Q : DK} {x y : Dt} (hx : view ω a = some x) (hy : view ω b = some y) (sx : Sh 60 x) (sy : Sh 60 y) (nx : noB x = true) (ny : noB y = true) (q : ∀ k : Bool, (k = true ↔ x = y) → Q (dB k) ω) : rEqDt true a b ω Q :=
  ⟨x, y, hx, hy, sx, sy, q _ (eqb_iff x y nx ny)⟩
theorem sh_lst {xs : List Dt} (h : ∀ x ∈ xs, Sh 50 x) : Sh 60 (.lst xs) := (Sh.lst h).mono (by decide)
theorem noB_lst {xs : List Dt} (h : ∀ x ∈ xs, noB x = true) : noB (.lst xs) = true := noBs_of h
end Dl
set_option Elab.async false
set_option linter.all false
set_option maxRecDepth 100000
set_option maxHeartbeats 2000000
/-! G3: a cell, its box, a draw from it. -/
namespace G
open PySem PySem.Spec PyProof.Rows L2
def topS (i : Nat) : Stmt := PySem.Challenge.pw_listviews_k15_orders_joined_and_turned.main.body.getD i (.Pass ⟨0, 0, 0, 0⟩)
abbrev sCell : Stmt := topS 31
abbrev sBox : Stmt := topS 32
abbrev sTake : Stmt := topS 33
theorem scCell : FnScope ["_law_script", "_law_k"] ["_law_script", "_law_k"] (defScope sCell) := ⟨rfl, rfl, rfl, by decide +kernel, rfl, by decide +kernel, by decide +kernel⟩
theorem scBox : FnScope ["_law_cell_here"] ["_law_cell_here"] (defScope sBox) := ⟨rfl, rfl, rfl, by decide +kernel, rfl, by decide +kernel, by decide +kernel⟩
theorem scTake : FnScope ["_law_box_here", "_law_many", "_law_digit", "_law_mixed_here"] ["_law_box_here", "_law_many"] (defScope sTake) := ⟨rfl, rfl, rfl, by decide +kernel, rfl, by decide +kernel, by decide +kernel⟩
/-- all but b stands as it stood -/
def But (b : Addr) (H H' : Hp) : Prop := ∀ c o, c ≠ b → H c = some o → H' c = some o
theorem But.refl (b : Addr) (H : Hp) : But b H H := fun _ _ _ h => h
theorem But.trans {b : Addr} {H H1 H2 : Hp} (x : But b H H1) (y : But b H1 H2) : But b H H2 := fun c o n h => y c o n (x c o n h)
theorem But.upd {b : Addr} {H : Hp} {o : HO} : But b H (upd H b o) := fun c u n h => by
  rw [upd_ne n]
  exact h
theorem But.new {b p : Addr} {H : Hp} {o : HO} (h : H p = none) : But b H (L2.upd H p o) := fun c u n e => by
  rw [upd_ne (ne_of_none e h)]
  exact e
theorem But.same {b : Addr} {H H' : Hp} (h : Same H H') : But b H H' := fun c o _ e => h c o e
theorem Same.new {p : Addr} {H : Hp} {o : HO} (h : H p = none) : Same H (upd H p o) := fun c u e => by
  rw [upd_ne (ne_of_none e h)]
  exact e
/-- a box from which at most n draws were made -/
def BoxAt (H : Hp) (b : Addr) (n : Nat) : Prop := ∃ x y z : Int, H b = some (.lst [.int x, .int y, .int z]) ∧ 0 ≤ x ∧ 0 ≤ y ∧ y < 2147483629 ∧ 0 ≤ z ∧ z ≤ n
theorem BoxAt.mono {H : Hp} {b : Addr} {n m : Nat} (h : BoxAt H b n) (le : n ≤ m) : BoxAt H b m := by
  obtain ⟨x, y, z, e, h1, h2, h3, h4, h5⟩ := h
  exact ⟨x, y, z, e, h1, h2, h3, h4, by omega⟩
theorem BoxAt.keep {H H' : Hp} {b : Addr} {n : Nat} (h : BoxAt H b n) (s : ∀ o, H b = some o → H' b = some o) : BoxAt H' b n := by
  obtain ⟨x, y, z, e, r⟩ := h
  exact ⟨x, y, z, s _ e, r⟩
/-- a draw is one of so many -/
theorem draw_at {r m : Int} {n : Nat} (h0 : 0 ≤ r) (h1 : r < m) (e : m = n) : ∃ j : Nat, r = j ∧ j < n := ⟨r.toNat, by omega, by omega⟩
def spCell' (K : PySem.W.Frag) : Sp := fun vs H Q _ => ∃ (a : Addr) (ns : List Int) (z : Int), vs = [.ref a, .int z] ∧ SqL K H a (ns.map V.int) ∧ 0 ≤ z ∧ z < 1000 ∧ ∀ i : Int, Q (.int i) H
def spBox : Sp := fun vs H Q _ => ∃ i : Int, vs = [.int i] ∧ ∀ (b : Addr) (H' : Hp), H b = none → Same H H' → BoxAt H' b 0 → Q (.ref b) H'
def spTake : Sp := fun vs H Q _ => ∃ (b : Addr) (m : Int) (n : Nat), vs = [.ref b, .int m] ∧ BoxAt H b n ∧ n ≤ 100000 ∧ 0 < m ∧ m < 2 ^ 200 ∧
  ∀ (r : Int) (H' : Hp), 0 ≤ r → r < m → BoxAt H' b (n + 1) → But b H H' → Q (.int r) H'
section
variable {P : Program} {w : World} {K : PySem.W.Frag} {mg : Str → Option Value} {base : Heap}
theorem ok_cell {f : Addr} {fd : FuncData} (F : Fun K "_law_cell" "_law_cell" sCell f fd) (ml : mg "len" = none) : FnOk P w K mg base CX0 1 f fd ["_law_script", "_law_k"] (spCell' K) := by
  refine F.ok scCell (fun vs H Q E h => ?_) (fun cdv A outer s H vs Q E hr h => ?_)
  · obtain ⟨a, ns, j, rfl, _⟩ := h
    rfl
  · obtain ⟨a, ns, z, rfl, hS, z0, z1, q⟩ := h
    obtain ⟨j, rfl, hj⟩ := draw_at (n := 1000) z0 z1 rfl
    refine ⟨_, pss_cons (ps_if (pt_cmpR op_lt (pv 1) (pe_callB call_len_seq (by rfl) ml PySem.boot_len (pa_cons (pv 0) pa_nil)) (nomark _))
        (pss_one (ps_ret (pe_ix ix_list (pv 0) (pv 1) (fun _ _ => rfl)))) pss_nil)
      (pss_one (ps_ret (pe_op op_add (pe_op op_mul pe_int (pv 1)) pe_int))), ?_⟩
    refine ⟨_, rfl, _, rfl, a, _, rfl, .inl hS, _, _, rfl, rfl, _, rfl, ite2 (fun e => ?_) (fun _ => ?_)⟩
    · have e1 : (j : Int) < ((ns.map V.int).length : Nat) := of_decide_eq_true e
      have e2 : j < ns.length := by
        rw [List.length_map] at e1
        omega
      exact ⟨_, rfl, _, rfl, a, _, _, .int ns[j], rfl, rfl, hS, atI_nat (by rw [List.getElem?_map, List.getElem?_eq_getElem e2] <;> rfl), q _⟩
    · exact ⟨_, rfl, _, _, rfl, rfl, .inl ⟨by decide, by decide⟩, _, _, rfl, rfl, q _⟩
theorem ok_box {f : Addr} {fd : FuncData} (F : Fun K "_law_box" "_law_box" sBox f fd) (mm : mg "max" = none) : FnOk P w K mg base CX0 1 f fd ["_law_cell_here"] spBox := by
  refine F.ok scBox (fun vs H Q E h => ?_) (fun cdv A outer s H vs Q E hr h => ?_)
  · obtain ⟨i, rfl, _⟩ := h
    rfl
  · obtain ⟨i, rfl, q⟩ := h
    refine ⟨_, pss_one (ps_ret (pe_lst (pa_cons (pe_callB (call_max2 rfl) (by rfl) mm (by decide +kernel) (pa_cons pe_int (pa_cons (pe_op op_sub (pv 0) (pe_op op_pow pe_int pe_int)) pa_nil)))
      (pa_cons (pe_op op_mod (pv 0) pe_int) (pa_cons pe_int pa_nil))))), ?_⟩
    refine ⟨_, rfl, _, _, rfl, rfl, ⟨by decide, by decide, by decide⟩, _, _, rfl, rfl, _, _, rfl, _, rfl, _, _, rfl, rfl, (by show (0 : Int) < 2147483629; decide), (by show 3 ≤ sizeLine; decide), fun b hb => ?_⟩
    refine q b _ hb (Same.new hb) ⟨_, _, _, upd_same, ?_, Int.emod_nonneg _ (by decide), Int.emod_lt_of_pos _ (by decide), Int.le_refl _, Int.le_refl _⟩
    split <;> omega
theorem emod_in (a m : Int) (h : 0 < m) : 0 ≤ a % m ∧ a % m < m := ⟨Int.emod_nonneg _ (by omega), Int.emod_lt_of_pos _ h⟩
theorem ok_take {f : Addr} {fd : FuncData} (F : Fun K "_law_take" "_law_take" sTake f fd) : FnOk P w K mg base CX0 1 f fd ["_law_box_here", "_law_many"] spTake := by
  refine F.ok scTake (fun vs H Q E h => ?_) (fun cdv A outer s H vs Q E hr h => ?_)
  · obtain ⟨b, m, n, rfl, _⟩ := h
    rfl
  · obtain ⟨b, m, n, rfl, ⟨x, y, z, hb, hx, hy, hy2, hz, hzn⟩, hn, hm, hm2, q⟩ := h
    refine ⟨_, pss_cons (ps_if (pt_cmpR op_gt (pe_ix ix_list (pv 0) pe_int (fun _ _ => rfl)) pe_int (nomark _))
        (pss_cons (ps_set (i := 2) scTake.nd rfl (.inl rfl) (pe_op op_mod (pe_ix ix_list (pv 0) pe_int (fun _ _ => rfl)) (pv 1)))
        (pss_cons (ps_asg (pe_op op_fdivW (pe_ix ix_list (pv 0) pe_int (fun _ _ => rfl)) (pv 1)) (pg_sub (pv 0) pe_int set_list))
        (pss_one (ps_ret (pv 2))))) pss_nil)
      (pss_cons (ps_asg (pe_op op_add (pe_ix ix_list (pv 0) pe_int (fun _ _ => rfl)) pe_int) (pg_sub (pv 0) pe_int set_list))
      (pss_cons (ps_set (i := 3) scTake.nd rfl (.inl rfl) (pe_op op_mod (pe_op op_pow (pe_op op_add (pe_op op_add (pe_ix ix_list (pv 0) pe_int (fun _ _ => rfl)) (pe_op op_mul pe_int (pe_ix ix_list (pv 0) pe_int (fun _ _ => rfl)))) pe_int) pe_int) pe_int))
      (pss_cons (ps_set (i := 3) scTake.nd rfl (.inl rfl) (pe_op op_mod (pe_op op_pow (pe_op op_add (pv 3) (pe_op op_mul pe_int (pe_ix ix_list (pv 0) pe_int (fun _ _ => rfl)))) pe_int) pe_int))
      (pss_one (ps_ret (pe_op op_mod (pe_op op_fdivW (pv 3) pe_int) (pv 1))))))), ?_⟩
    -- if box[0] > 0
    refine ⟨_, rfl, b, _, 0, .int x, rfl, rfl, .of hb, rfl, _, _, rfl, rfl, _, rfl, ite2 (fun e => ?_) (fun _ => ?_)⟩
    · refine ⟨_, rfl, b, _, 0, .int x, rfl, rfl, .of hb, rfl, _, rfl, _, _, rfl, rfl, hm, ?_⟩
      refine ⟨_, rfl, b, _, 0, .int x, rfl, rfl, .of hb, rfl, _, rfl, _, _, rfl, rfl, wide_div hm (b := 200) (by omega) (by decide) (by decide), ?_⟩
      refine ⟨_, rfl, b, _, 0, 0, rfl, rfl, hb, rfl, _, rfl, ?_⟩
      have r := emod_in x m hm
      exact q _ _ r.1 r.2 ⟨_, _, _, upd_same, Int.ediv_nonneg hx (by omega), hy, hy2, hz, by omega⟩ But.upd
    · refine ⟨_, rfl, b, _, 2, .int z, rfl, rfl, .of hb, rfl, _, _, rfl, rfl, ?_⟩
      refine ⟨_, rfl, b, _, 2, 2, rfl, rfl, hb, rfl, ?_⟩
      have hb' : (upd H b (.lst [.int x, .int y, .int (z + 1)])) b = some (.lst [.int x, .int y, .int (z + 1)]) := upd_same
      refine ⟨_, rfl, b, _, 1, .int y, rfl, rfl, .of hb', rfl, _, rfl, b, _, 2, .int (z + 1), rfl, rfl, .of hb', rfl, _, _, rfl, rfl, .inl ⟨by decide, by decide⟩, _, _, rfl, rfl, _, _, rfl, rfl,
        _, _, rfl, rfl, ⟨by decide, by decide, by omega⟩, _, _, rfl, rfl, (by show (0 : Int) < 2147483647; decide), ?_⟩
      generalize h1 : ((y + 7481 * (z + 1) + 211) ^ (5 : Int).toNat : Int) = t1
      have r1 := emod_in t1 2147483647 (by decide)
      refine ⟨_, rfl, _, rfl, b, _, 2, .int (z + 1), rfl, rfl, .of hb', rfl, _, _, rfl, rfl, .inl ⟨by decide, by decide⟩, _, _, rfl, rfl, _, _, rfl, rfl, ⟨by decide, by decide, by omega⟩, _, _, rfl, rfl, (by show (0 : Int) < 2147483587; decide), ?_⟩
      generalize h2 : ((t1 % 2147483647 + 104729 * (z + 1)) ^ (3 : Int).toNat : Int) = t2
      refine ⟨_, rfl, _, _, rfl, rfl, wide_div (by decide) (b := 200) (by decide) (by decide) (by decide), _, rfl, _, _, rfl, rfl, hm, ?_⟩
      have r := emod_in (t2 % 2147483587 / 16) m hm
      exact q _ _ r.1 r.2 ⟨_, _, _, upd_same, hx, hy, hy2, by omega, by omega⟩ But.upd
end
end G
set_option Elab.async false
set_option linter.all false
set_option maxRecDepth 100000
set_option maxHeartbeats 2000000
/-! G5: what data in the heap keeps, its type, == of it. -/
namespace G
open PySem PySem.Spec PyProof.Rows L2
section
variable {K : PySem.W.Frag} {H H' : Hp}
mutual
theorem rp_same (s : Same H H') : ∀ (d : PyData) (v : V), Rp K H v d → Rp K H' v d
  | .none, _, h => by
    cases h
    exact .non
  | .bool b, _, h => by
    cases h
    exact .bl b
  | .int i, _, h => by
    cases h
    exact .int i
  | .str x, _, h => by
    cases h
    exact .str x
  | .list ds, _, h => by
    cases h with
    | lst e r => exact .lst (s _ _ e) (rp_sameAll s ds _ r)
  | .tuple ds, _, h => by
    cases h with
    | tup e r => exact .tup (s _ _ e) (rp_sameAll s ds _ r)
  | .dict ds, _, h => by
    cases h with
    | dic e r q => exact .dic (s _ _ e) (rp_sameK s ds _ r) (rp_sameV s ds _ q)
theorem rp_sameAll (s : Same H H') : ∀ (ds : List PyData) (vs : List V), RpAll K H vs ds → RpAll K H' vs ds
  | [], _, h => by
    cases h
    exact .nil
  | d :: ds, _, h => by
    cases h with
    | cons a b => exact .cons (rp_same s d _ a) (rp_sameAll s ds _ b)
theorem rp_sameK (s : Same H H') : ∀ (ds : List (PyData × PyData)) (vs : List V), RpAll K H vs (ds.map (·.1)) → RpAll K H' vs (ds.map (·.1))
  | [], _, h => by
    cases h
    exact .nil
  | (d, _) :: ds, _, h => by
    cases h with
    | cons a b => exact .cons (rp_same s d _ a) (rp_sameK s ds _ b)
theorem rp_sameV (s : Same H H') : ∀ (ds : List (PyData × PyData)) (vs : List V), RpAll K H vs (ds.map (·.2)) → RpAll K H' vs (ds.map (·.2))
  | [], _, h => by
    cases h
    exact .nil
  | (_, d) :: ds, _, h => by
    cases h with
    | cons a b => exact .cons (rp_same s d _ a) (rp_sameV s ds _ b)
end
theorem rp_len : ∀ {ds : List PyData} {vs : List V}, RpAll K H vs ds → vs.length = ds.length
  | [], _, h => by
    cases h
    rfl
  | _ :: ds, _, h => by
    cases h with
    | cons a b =>
      rw [List.length_cons, List.length_cons, rp_len b]
theorem rp_at : ∀ {ds : List PyData} {vs : List V} {i : Nat} {v : V}, RpAll K H vs ds → vs[i]? = some v → ∃ d, ds[i]? = some d ∧ Rp K H v d
  | [], _, i, v, h, e => by
    cases h
    simp at e
  | d :: ds, _, i, v, h, e => by
    cases h with
    | cons a b =>
      cases i with
      | zero =>
        have e' := Option.some.inj e
        subst e'
        exact ⟨d, rfl, a⟩
      | succ j => exact rp_at (ds := ds) (i := j) b (by simpa using e)
theorem rp_app : ∀ {ds : List PyData} {vs : List V} {v : V} {d : PyData}, RpAll K H vs ds → Rp K H v d → RpAll K H (vs ++ [v]) (ds ++ [d])
  | [], _, _, _, h, r => by
    cases h
    exact .cons r .nil
  | _ :: ds, _, _, _, h, r => by
    cases h with
    | cons a b => exact .cons a (rp_app b r)
theorem rp_set : ∀ {ds : List PyData} {vs : List V} {v : V} {d : PyData} (i : Nat), RpAll K H vs ds → Rp K H v d → RpAll K H (vs.set i v) (ds.set i d)
  | [], _, _, _, _, h, r => by
    cases h
    exact .nil
  | _ :: ds, _, _, _, i, h, r => by
    cases h with
    | cons a b =>
      cases i with
      | zero => exact .cons r b
      | succ j => exact .cons a (rp_set j b r)
theorem rp_ints : ∀ (is : List Int), RpAll K H (is.map V.int) (is.map PyData.int)
  | [] => .nil
  | i :: is => .cons (.int i) (rp_ints is)
mutual
theorem rp_dp : ∀ (d : PyData) (v : V), d.hasDict = false → Rp K H v d → Dp K H v d
  | .none, _, _, h => by
    cases h
    exact .non
  | .bool b, _, _, h => by
    cases h
    exact .bl b
  | .int i, _, _, h => by
    cases h
    exact .int i
  | .str x, _, _, h => by
    cases h
    exact .str x
  | .list ds, _, n, h => by
    cases h with
    | lst e r => exact .lst (.of e) (rp_dpAll ds _ (by simpa [PyData.hasDict] using n) r)
  | .tuple ds, _, n, h => by
    cases h with
    | tup e r => exact .tup (.of e) (rp_dpAll ds _ (by simpa [PyData.hasDict] using n) r)
  | .dict ds, _, n, h => by simp [PyData.hasDict] at n
theorem rp_dpAll : ∀ (ds : List PyData) (vs : List V), PyData.hasDictAll ds = false → RpAll K H vs ds → DpAll K H vs ds
  | [], _, _, h => by
    cases h
    exact .nil
  | d :: ds, _, n, h => by
    simp only [PyData.hasDictAll, Bool.or_eq_false_iff] at n
    cases h with
    | cons a b => exact .cons (rp_dp d _ n.1 a) (rp_dpAll ds _ n.2 b)
end
/-- the name of a thing's type -/
def tyN : PyData → String
  | .none => "NoneType"
  | .bool _ => "bool"
  | .int _ => "int"
  | .str _ => "str"
  | .list _ => "list"
  | .tuple _ => "tuple"
  | .dict _ => "dict"
theorem rp_ty {v : V} {d : PyData} (h : Rp K H v d) : TyX K H v (.type (tyN d)) := by
  cases h with
  | non => exact .base .non
  | bl b => exact .base (.bl b)
  | int i => exact .base (.int i)
  | str x => exact .base (.str x)
  | lst e r => exact .base (.lst e)
  | tup e r => exact .base (.tup e)
  | dic e r q => exact .base (.dK e)
end
/-- H without what stands at b -/
def hide (b : Addr) (H : Hp) : Hp := fun a => if a = b then none else H a
theorem hide_same (b : Addr) (H : Hp) : Same (hide b H) H := fun a o e => by
  by_cases h : a = b
  · rw [show hide b H a = none from if_pos h] at e
    cases e
  · rwa [show hide b H a = H a from if_neg h] at e
theorem hide_ne {b a : Addr} {H : Hp} (h : a ≠ b) : hide b H a = H a := if_neg h
theorem hide_at {b : Addr} {H : Hp} : hide b H b = none := if_pos rfl
theorem hide_but {b : Addr} {H H' : Hp} (h : But b H H') : Same (hide b H) (hide b H') := fun a o e => by
  have n : a ≠ b := fun z => by
    rw [z, hide_at] at e
    cases e
  rw [hide_ne n] at e ⊢
  exact h a o n e
theorem hide_upd {b : Addr} {H : Hp} {o : HO} : hide b (upd H b o) = hide b H := by
  funext a
  by_cases h : a = b
  · rw [h, hide_at, hide_at]
  · rw [hide_ne h, hide_ne h, upd_ne h]
/-- what is new is not in what stood -/
theorem hide_new {b : Addr} {H : Hp} (h : H b = none) : Same H (hide b H) := fun a o e => by
  rw [hide_ne (ne_of_none e h)]
  exact e
theorem hide_mono {b : Addr} {H H' : Hp} (h : Same H H') : Same (hide b H) (hide b H') := hide_but fun c o _ e => h c o e
theorem hide_hide {b c : Addr} {H : Hp} : hide b (hide c H) = hide c (hide b H) := by
  funext a
  unfold hide
  split <;> split <;> rfl
end G
set_option Elab.async false
set_option linter.all false
set_option maxRecDepth 100000
set_option maxHeartbeats 2000000
/-! V3: the items of a list, in a drawn order. -/
namespace G
open PySem PySem.Spec PyProof.Rows L2
abbrev sMixed : Stmt := topS 34
theorem scMixed : FnScope ["_law_box_here", "_law_some", "_law_left", "_law_found"] ["_law_box_here", "_law_some"] (defScope sMixed) := ⟨rfl, rfl, rfl, by decide +kernel, rfl, by decide +kernel, by decide +kernel⟩
/-- data that == takes: no dict, texts that can be compared, not too deep -/
def lay (d : PyData) : Prop := d.hasDict = false ∧ d.canLay0 = true ∧ d.depth ≤ 60
theorem lay_all : ∀ {ds : List PyData}, (∀ d ∈ ds, lay d) → PyData.hasDictAll ds = false ∧ PyData.canLayAll0 ds = true ∧ PyData.depthAll ds ≤ 60
  | [], _ => ⟨rfl, rfl, Nat.zero_le _⟩
  | d :: ds, h => by
    obtain ⟨a1, a2, a3⟩ := h d List.mem_cons_self
    obtain ⟨b1, b2, b3⟩ := lay_all (ds := ds) fun e he => h e (List.mem_cons_of_mem _ he)
    refine ⟨?_, ?_, ?_⟩
    · rw [PyData.hasDictAll, a1, b1]
      rfl
    · rw [PyData.canLayAll0, a2, b2]
      rfl
    · rw [PyData.depthAll]
      exact Nat.max_le.mpr ⟨a3, b3⟩
theorem lay_shaped {d : PyData} (h : lay d) : SeqAt.shaped d = true := by
  unfold SeqAt.shaped
  rw [h.2.1, decide_eq_true (Nat.le_trans h.2.2 (by decide))]
  rfl
theorem lay_list {ds : List PyData} (h : ∀ d ∈ ds, lay d) : SeqAt.shaped (.list ds) = true := by
  obtain ⟨_, b2, b3⟩ := lay_all h
  unfold SeqAt.shaped
  rw [PyData.canLay0, b2, decide_eq_true (show (PyData.list ds).depth ≤ 64 by rw [PyData.depth]; omega)]
  rfl
/-- values and what they show -/
abbrev Vd := V × PyData
theorem rp_pairs {K : PySem.W.Frag} {H : Hp} : ∀ {qs : List Vd}, (∀ p ∈ qs, Rp K H p.1 p.2) → RpAll K H (qs.map (·.1)) (qs.map (·.2))
  | [], _ => .nil
  | p :: qs, h => .cons (h p List.mem_cons_self) (rp_pairs fun q hq => h q (List.mem_cons_of_mem _ hq))
theorem dp_pairs {K : PySem.W.Frag} {H : Hp} {qs : List Vd} (h : ∀ p ∈ qs, Rp K H p.1 p.2) (l : ∀ p ∈ qs, lay p.2) : DpAll K H (qs.map (·.1)) (qs.map (·.2)) :=
  rp_dpAll _ _ (lay_all (ds := qs.map (·.2)) fun d hd => by
    obtain ⟨p, hp, rfl⟩ := List.mem_map.mp hd
    exact l p hp).1 (rp_pairs h)
theorem erase_map {α β : Type} (f : α → β) : ∀ (l : List α) (j : Nat), (l.map f).eraseIdx j = (l.eraseIdx j).map f
  | [], _ => rfl
  | _ :: _, 0 => rfl
  | x :: l, j + 1 => by
    show f x :: (l.map f).eraseIdx j = f x :: (l.eraseIdx j).map f
    rw [erase_map f l j]
theorem erase_perm {α : Type} : ∀ {l : List α} {j : Nat} (h : j < l.length), ([l[j]] ++ l.eraseIdx j).Perm l
  | _ :: _, 0, _ => .refl _
  | x :: l, j + 1, h => by
    have hj : j < l.length := by simpa using h
    have ih := erase_perm hj
    show (l[j] :: x :: l.eraseIdx j).Perm (x :: l)
    exact (List.Perm.swap x _ _).trans (List.Perm.cons x ih)
/-- some: any order of its items, in a new list -/
def spMixed (K : PySem.W.Frag) : Sp := fun vs H Q _ => ∃ (b a : Addr) (n : Nat) (ps : List Vd), vs = [.ref b, .ref a] ∧ BoxAt H b n ∧ n + ps.length ≤ 100000 ∧ (SqL K H a (ps.map (·.1)) ∨ SqT K H a (ps.map (·.1))) ∧
  (∀ p ∈ ps, lay p.2 ∧ ∀ H', But b H H' → Rp K H' p.1 p.2) ∧
  ∀ (p : Addr) (H' : Hp) (qs : List Vd), qs.Perm ps → H p = none → H' p = some (.lst (qs.map (·.1))) → BoxAt H' b (n + ps.length) → But b H H' → Q (.ref p) H'
theorem eqv_nil (ds : List PyData) : PyData.eqv (.list ds) (.list []) = ds.isEmpty := by
  cases ds with
  | nil => rfl
  | cons d ds => rfl
section
variable {P : Program} {w : World} {K : PySem.W.Frag} {mg : Str → Option Value} {base : Heap}
theorem ok_mixed {f fT : Addr} {fd fdT : FuncData} (F : Fun K "_law_mixed" "_law_mixed" sMixed f fd) (T : Fun K "_law_take" "_law_take" sTake fT fdT) (bT : Binds K fdT ["_law_box_here", "_law_many"] []) (gT : mg "_law_take" = some (.ref fT))
    (ml : mg "len" = none) (mL : mg "list" = none) : FnOk P w K mg base CX0 2 f fd ["_law_box_here", "_law_some"] (spMixed K) := by
  refine F.ok scMixed (fun vs H Q E h => ?_) (fun cdv A outer s H vs Q E hr h => ?_)
  · obtain ⟨b, a, n, ps, rfl, _⟩ := h
    rfl
  · obtain ⟨b, a, n, ps, rfl, B, hn, hS, hp, q⟩ := h
    have big : ∀ {k : Nat}, k ≤ 100000 → k < sizeLine := fun {k} h => by
      rw [sizeLine_eq]
      omega
    refine ⟨_, pss_cons (ps_par (i := 2) (j := 3) (by rfl) scMixed.nd rfl rfl (by decide) rfl rfl (pa_cons (pe_callTy call_list_of (by rfl) mL (by decide +kernel) (pa_cons (pv 1) pa_nil)) (pa_cons (pe_lst pa_nil) pa_nil)) (by rfl))
      (pss_cons (ps_while PassesOwn.never (pt_cmpR (op_neD hr.units) (pv 2) (pe_lst pa_nil) (nomark _))
        (pss_one (ps_expr (pe_bm PySem.F.plainAttrs_list PySem.F.slot_list_append PySem.F.type_list_append mt_append (pv 3) (pa_cons
          (pe_bm PySem.F.plainAttrs_list PySem.F.slot_list_pop PySem.F.type_list_pop mt_popAt (pv 2)
            (pa_cons (pe_call (ok_take T) hr rfl gT T.kp bT .nil pass0 (pa_cons (pv 0) (pa_cons (pe_callB call_len_seq (by rfl) ml PySem.boot_len (pa_cons (pv 2) pa_nil)) pa_nil))) pa_nil)) pa_nil)))))
      (pss_one (ps_ret (pv 3)))), ?_⟩
    refine ⟨_, rfl, a, _, rfl, hS, fun l hl => ⟨by decide, fun p hp0 => ⟨_, _, rfl, ?_⟩⟩⟩
    have nlp : l ≠ p := fun z => by
      rw [z, upd_same] at hp0
      cases hp0
    have hpn : H p = none := (upd_ne nlp.symm).symm.trans hp0
    have nbl : b ≠ l := by
      obtain ⟨_, _, _, e, _⟩ := B
      exact ne_of_none e hl
    have nbp : b ≠ p := by
      obtain ⟨_, _, _, e, _⟩ := B
      exact ne_of_none e hpn
    refine ⟨fun m σ H1 => ∃ qs rs : List Vd, m = qs.length ∧ σ = [some (.ref b), some (.ref a), some (.ref l), some (.ref p)] ∧ H1 l = some (.lst (qs.map (·.1))) ∧ H1 p = some (.lst (rs.map (·.1))) ∧
        (rs ++ qs).Perm ps ∧ BoxAt H1 b (n + rs.length) ∧ But b H H1, ⟨ps.length, ps, [], rfl, rfl, ?_, upd_same, .refl _, ?_, ?_⟩, ?_⟩
    · rw [upd_ne nlp, upd_same]
    · exact (B.keep fun o e => by rw [upd_ne nbp, upd_ne nbl]; exact e).mono (Nat.le_add_right _ _)
    · exact (But.new hl).trans (But.new hp0)
    · rintro m σ H1 ⟨qs, rs, rfl, rfl, el, ep, pm, B1, s1⟩
      have hq : ∀ x ∈ qs, x ∈ ps := fun x hx => pm.mem_iff.mp (List.mem_append_right _ hx)
      have hlen : rs.length + qs.length = ps.length := by
        rw [← List.length_append]
        exact pm.length_eq
      refine ⟨_, rfl, by decide, fun t ht => ?_⟩
      have nlt : l ≠ t := ne_of_none el ht
      have s2 : But b H (upd H1 t (.lst [])) := s1.trans (But.new ht)
      refine ⟨.list (qs.map fun x : Vd => x.2), .list [], .lst (xs := qs.map fun x : Vd => x.1) (.of (by rw [upd_ne nlt]; exact el)) (dp_pairs (fun x hx => (hp x (hq x hx)).2 _ s2) fun x hx => (hp x (hq x hx)).1), .lst (.of upd_same) .nil, lay_list (fun d hd => ?_), by rfl, _, rfl, ?_⟩
      · obtain ⟨x, hx, rfl⟩ := List.mem_map.mp hd
        exact (hp x (hq x hx)).1
      · rw [eqv_nil]
        cases qs with
        | nil =>
          refine iteF ?_
          refine ⟨_, rfl, ?_⟩
          rw [List.append_nil] at pm
          refine q p _ rs pm hpn ?_ ?_ s2
          · rw [upd_ne (ne_of_none ep ht)]
            exact ep
          · have e : rs.length = ps.length := pm.length_eq
            rw [← e]
            exact B1.keep fun o e => by rw [upd_ne (ne_of_none e ht)]; exact e
        | cons y ys =>
          refine iteT ?_
          have hlen' : rs.length + (ys.length + 1) = ps.length := hlen
          refine ⟨fun σ' H' => ∃ m', m' < (y :: ys).length ∧ ∃ qs rs : List Vd, m' = qs.length ∧ σ' = [some (.ref b), some (.ref a), some (.ref l), some (.ref p)] ∧ H' l = some (.lst (qs.map (·.1))) ∧ H' p = some (.lst (rs.map (·.1))) ∧
            (rs ++ qs).Perm ps ∧ BoxAt H' b (n + rs.length) ∧ But b H H', fun _ _ h => h, ?_⟩
          have ep2 : upd H1 t (.lst []) p = some (.lst (rs.map (·.1))) := by
            rw [upd_ne (ne_of_none ep ht)]
            exact ep
          have el2 : upd H1 t (.lst []) l = some (.lst ((y :: ys).map (·.1))) := by
            rw [upd_ne nlt]
            exact el
          have B2 : BoxAt (upd H1 t (.lst [])) b (n + rs.length) := B1.keep fun o e => by rw [upd_ne (ne_of_none e ht)]; exact e
          refine ⟨_, rfl, .inl ⟨rfl, _, .of ep2⟩, _, rfl, .inl ⟨rfl, _, .of el2⟩, _, rfl, _, rfl, l, _, rfl, .inl (.of el2), b, _, n + rs.length, rfl, B2, by omega, ?_, ?_, fun r H3 r0 r1 B3 s3 => ?_⟩
          · rw [List.length_map]
            show (0 : Int) < ((ys.length + 1 : Nat) : Int)
            omega
          · rw [List.length_map]
            show ((ys.length + 1 : Nat) : Int) < _
            have : ys.length + 1 ≤ 100000 := by omega
            omega
          · obtain ⟨j, rfl, hj⟩ := draw_at r0 r1 (n := (y :: ys).length) (by rw [List.length_map])
            have el3 : H3 l = some (.lst ((y :: ys).map (·.1))) := s3 _ _ nbl.symm el2
            have ep3 : H3 p = some (.lst (rs.map (·.1))) := s3 _ _ nbp.symm ep2
            have hjm : j < ((y :: ys).map (·.1)).length := by
              rw [List.length_map]
              exact hj
            have hj5 : j < 100000 := by
              have e : (y :: ys).length = ys.length + 1 := rfl
              omega
            refine ⟨l, _, (j : Int), j, ((y :: ys)[j]).1, rfl, rfl, el3, by omega, by omega, ?_, ?_, ?_⟩
            · have := PySem.seqIndex_of (k := (j : Int)) (n := ((y :: ys).map (·.1)).length) (by omega) (by omega)
              rw [this]
              rfl
            · rw [List.getElem?_map, List.getElem?_eq_getElem hj]
              rfl
            · refine ⟨p, _, _, rfl, rfl, by rw [upd_ne nlp.symm]; exact ep3, ?_, ?_⟩
              · rw [List.length_map]
                exact big (by omega)
              · refine ⟨((y :: ys).eraseIdx j).length, ?_, (y :: ys).eraseIdx j, rs ++ [(y :: ys)[j]], rfl, rfl, ?_, ?_, ?_, ?_, ?_⟩
                · rw [List.length_eraseIdx, if_pos hj]
                  show (ys.length + 1) - 1 < ys.length + 1
                  omega
                · rw [upd_ne nlp, upd_same, erase_map]
                · rw [upd_same, List.map_append]
                  rfl
                · rw [List.append_assoc]
                  refine List.Perm.trans (List.Perm.append_left rs ?_) pm
                  exact erase_perm hj
                · rw [List.length_append, List.length_singleton]
                  exact B3.keep fun o e => by rw [upd_ne nbp, upd_ne nbl]; exact e
                · intro c o nc e
                  have e3 := (s2.trans s3) c o nc e
                  rw [upd_ne (ne_of_none e hpn), upd_ne (ne_of_none e hl)]
                  exact e3
end
end G
set_option Elab.async false
set_option linter.all false
set_option maxRecDepth 100000
set_option maxHeartbeats 2000000
/-! V4: drawn names. -/
namespace G
open PySem PySem.Spec PyProof.Rows L2
abbrev sNames : Stmt := topS 35
abbrev nNames : List Str := ["_law_box_here", "_law_many", "_law_letters", "_law_way", "_law_cut", "_law_begin", "_law_step", "_law_stem", "_law_k", "_law_found", "_law_letter", "_law_name"]
theorem scNames : FnScope nNames ["_law_box_here", "_law_many"] (defScope sNames) := ⟨rfl, rfl, rfl, by decide +kernel, rfl, by decide +kernel, by decide +kernel⟩
abbrev cs (z : Str) : List Nat := z.cps.toList
theorem cs_len (z : Str) : (cs z).length = z.length := by simp [cs, Str.length]
theorem cs_app (a b : Str) : cs (a ++ b) = cs a ++ cs b := TL.tl_append a b
theorem app_len (a b : Str) : (a ++ b).length = a.length + b.length := strLen_append a b
theorem small_size {n : Nat} (h : n ≤ 7000) : n ≤ sizeLine := by
  rw [sizeLine_eq]
  omega
theorem box_new {H : Hp} {b p : Addr} {n : Nat} {o : HO} (B : BoxAt H b n) (h : H p = none) : BoxAt (upd H p o) b n := B.keep fun o' e => Same.new h b o' e
theorem box_ne {H : Hp} {b p : Addr} {n : Nat} (B : BoxAt H b n) (h : H p = none) : p ≠ b := fun z => by
  obtain ⟨_, _, _, e, _⟩ := B
  rw [← z, h] at e
  cases e
theorem box_upd {H : Hp} {b p : Addr} {n : Nat} {o : HO} (B : BoxAt H b n) (h : p ≠ b) : BoxAt (upd H p o) b n := by
  obtain ⟨x, y, z, e, r⟩ := B
  exact ⟨x, y, z, (upd_ne h.symm).trans e, r⟩
/-- a store at what was new -/
theorem but_upd {b p : Addr} {H H1 : Hp} {o : HO} (k : But b H H1) (h : H p = none) : But b H (upd H1 p o) := fun c u n e => by
  rw [upd_ne (ne_of_none e h)]
  exact k c u n e
theorem free_of {b p : Addr} {H H' : Hp} (k : But b H H') (n : p ≠ b) (h : H' p = none) : H p = none := by
  cases e : H p with
  | none => rfl
  | some o =>
    rw [k p o n e] at h
    cases h
/-! ### names -/
def LowZ (z : Str) : Prop := ∀ c ∈ cs z, 97 ≤ c ∧ c ≤ 122
def NameZ (z : Str) : Prop := LowZ z ∧ 1 ≤ z.length ∧ z.length ≤ 8
def NameI (y : Str) (i : Nat) : Prop := LowZ y ∧ 1 ≤ y.length ∧ y.length ≤ 8 ∧ (26 ≤ i → y.length ≤ 7)
theorem LowZ.app {a b : Str} (h1 : LowZ a) (h2 : LowZ b) : LowZ (a ++ b) := fun c hc => by
  rw [cs_app] at hc
  rcases List.mem_append.mp hc with h | h
  · exact h1 c h
  · exact h2 c h
theorem LowZ.cut {a : Str} (h : LowZ a) (lo hi : Option Int) : LowZ (cutS a lo hi) := fun c hc => by
  have hc' : c ∈ ((cs a).drop _).take _ := hc
  exact h c (List.mem_of_mem_drop (List.mem_of_mem_take hc'))
theorem low_one {c : Nat} (h : 97 ≤ c ∧ c ≤ 122) : LowZ ⟨#[c]⟩ := fun x hx => by
  have : x ∈ [c] := hx
  rw [List.mem_singleton.mp this]
  exact h
theorem LowZ.lay {z : Str} (h : LowZ z) : lay (.str z) := by
  refine ⟨rfl, ?_, Nat.zero_le _⟩
  show z.cps.all (· < 0x110000) = true
  rw [Array.all_eq_true]
  intro i hi
  have := h z.cps[i] (by simp [cs])
  exact decide_eq_true (by omega)
abbrev abc : Str := "abcdefghijklmnopqrstuvwxyz"
theorem abc_low : LowZ abc := by
  have h : ((cs abc).all fun c => decide (97 ≤ c ∧ c ≤ 122)) = true := by decide +kernel
  exact fun c hc => of_decide_eq_true (List.all_eq_true.mp h c hc)
theorem abc_at {j : Nat} (hj : j < 26) : ∃ c, abc.cps[j]? = some c ∧ 97 ≤ c ∧ c ≤ 122 := by
  have h1 : j < abc.cps.size := hj
  refine ⟨abc.cps[j], by simp [h1], abc_low _ ?_⟩
  simp [cs]
theorem cut_first (z : Str) (k : Nat) : cs (cutS z none (some (k : Int))) = (cs z).take k := by
  show ((cs z).drop (HT.sIx z.length 0 none)).take (HT.sIx z.length z.length (some (k : Int)) - HT.sIx z.length 0 none) = _
  rw [HT.sIx_none, HT.sIx_nat z.length z.length k, List.drop_zero, ← cs_len, Nat.sub_zero]
  by_cases h : k ≤ (cs z).length
  · rw [Nat.min_eq_left h]
  · rw [Nat.min_eq_right (by omega), List.take_length, List.take_of_length_le (by omega)]
theorem cut_len (z : Str) (k : Nat) : (cutS z none (some (k : Int))).length = min k z.length := by
  rw [← cs_len, cut_first, List.length_take, cs_len]
def spNames : Sp := fun vs H Q _ => ∃ (b : Addr) (m n : Nat), vs = [.ref b, .int (m : Int)] ∧ BoxAt H b n ∧ n ≤ 50000 ∧ m ≤ 100 ∧
  ∀ (p : Addr) (H' : Hp) (zs : List Str), zs.length = m → (∀ z ∈ zs, NameZ z) → H p = none → H' p = some (.lst (zs.map V.str)) → BoxAt H' b (n + 11 + m) → But b H H' → Q (.ref p) H'
section
variable {P : Program} {w : World} {K : PySem.W.Frag} {mg : Str → Option Value} {base : Heap}
theorem ok_names {f fT fM : Addr} {fd fdT fdM : FuncData} (F : Fun K "_law_names" "_law_names" sNames f fd) (T : Fun K "_law_take" "_law_take" sTake fT fdT) (bT : Binds K fdT ["_law_box_here", "_law_many"] []) (gT : mg "_law_take" = some (.ref fT))
    (M : Fun K "_law_mixed" "_law_mixed" sMixed fM fdM) (bM : Binds K fdM ["_law_box_here", "_law_some"] []) (gM : mg "_law_mixed" = some (.ref fM)) (ml : mg "len" = none) (mL : mg "list" = none) (mr : mg "range" = none) :
    FnOk P w K mg base CX0 3 f fd ["_law_box_here", "_law_many"] spNames := by
  have GT : FnOk P w K mg base CX0 1 fT fdT ["_law_box_here", "_law_many"] spTake := ok_take T
  have GM : FnOk P w K mg base CX0 2 fM fdM ["_law_box_here", "_law_some"] (spMixed K) := ok_mixed M T bT gT ml mL
  refine F.ok scNames (fun vs H Q E h => ?_) (fun cdv A outer s H vs Q E hr h => ?_)
  · obtain ⟨b, m, n, rfl, _⟩ := h
    rfl
  · obtain ⟨b, m, n, rfl, B, hn, hm, q⟩ := h
    have hr1 := hr.mono (show 1 ≤ 2 by decide)
    obtain ⟨ts, psl, qsl⟩ : ∃ t, PSs (cxOf CX0 P w K mg base nNames "_law_names" (defScope sNames) f cdv A outer s H E).nox ((defBody sNames).drop 5) t ∧
        ∀ (way cut bg st : Nat) (z : Str) (x8 : Option V) (H1 : Hp), cut ≤ 7 → (26 < m → cut ≤ 6) → bg < 26 → st ≤ 17 → LowZ z → z.length = 7 → BoxAt H1 b (n + 11) → But b H H1 → t { nx := fun _ H' => Q .non H', rt := Q } [some (.ref b), some (.int (m : Int)), some (.str abc), some (.int (way : Int)), some (.int (cut : Int)), some (.int (bg : Int)), some (.int (st : Int)), some (.str z), x8, none, none, none] H1 := by
      refine ⟨_, pss_cons (ps_set (i := 9) scNames.nd rfl (.inl rfl) (pe_lst pa_nil))
      (pss_cons (ps_for PassesOwn.never rfl (pi_range1 rfl mr (pa_cons (pv 1) pa_nil)) (pg_name (i := 8) scNames.nd rfl (.inl rfl))
        (pss_cons (ps_set (i := 10) scNames.nd rfl (.inl rfl) (pe_item_str (pv 2) (pe_op op_mod (pe_op op_add (pv 5) (pe_op op_mul (pv 6) (pv 8))) pe_int) (fun _ _ => rfl)))
        (pss_cons (ps_set (i := 11) scNames.nd rfl (.inl rfl) (pe_op op_add_str (pe_slice sl_str (pv 7) po_none (po_some (pv 4))) (pv 10)))
        (pss_cons (ps_if (PW.pt (pw_and (pt_cmpR op_eq (pv 3) pe_int (nomark _)) (pw_and1 (pt_cmpR op_lt (pv 1) pe_int (nomark _)))))
          (pss_one (ps_set (i := 11) scNames.nd rfl (.inl rfl) (pe_op op_add_str (pv 10) (pe_slice sl_str (pv 7) po_none (po_some (pe_op op_mod (pe_op op_add (pv 4) (pe_op op_mul pe_int (pv 8))) pe_int)))))) pss_nil)
        (pss_one (ps_expr (pe_bm PySem.F.plainAttrs_list PySem.F.slot_list_append PySem.F.type_list_append mt_append (pv 9) (pa_cons
          (pe_ifExp (pt_cmpR op_lt (pv 8) pe_int (nomark _)) (pv 11) (pe_op op_add_str (pv 11) (pe_item_str (pv 2) (pe_op op_fdiv (pv 8) pe_int) (fun _ _ => rfl)))) pa_nil))))))))
      (pss_one (ps_ret (pv 9)))), ?_⟩
      intro way cut bg st z x8 H1 hcut hcut2 hbg hst hz hl B1 k1
      refine ⟨Nat.zero_le _, fun D hD => ?_⟩
      have nD := box_ne B1 hD
      have fD := free_of k1 nD hD
      refine ⟨_, rfl, _, rfl, by omega, by omega, ?_⟩
      rw [Int.toNat_natCast m]
      refine for_range (lo := 0) (n := m) (fun i σ H2 => ∃ (zs : List Str) (x8 x10 x11 : Option V), σ = [some (.ref b), some (.int (m : Int)), some (.str abc), some (.int (way : Int)), some (.int (cut : Int)), some (.int (bg : Int)), some (.int (st : Int)), some (.str z), x8, some (.ref D), x10, x11] ∧
        H2 D = some (.lst (zs.map V.str)) ∧ zs.length = i ∧ (∀ y ∈ zs, NameZ y) ∧ BoxAt H2 b (n + 11) ∧ But b H H2) ?_ ?_ ?_
      · exact ⟨[], x8, none, none, rfl, upd_same, rfl, (fun y h => nomatch h), box_new B1 hD, but_upd k1 fD⟩
      · rintro i σ H2 hi ⟨zs, x8, x10, x11, rfl, e2, hlz, hy, B2, k2⟩
        have r := emod_in ((bg : Int) + (st : Int) * (0 + (i : Int))) 26 (by decide)
        obtain ⟨j, ej, hj⟩ := draw_at r.1 r.2 (n := 26) rfl
        obtain ⟨c, hc, c97⟩ := abc_at hj
        refine ⟨_, rfl, _, rfl, _, rfl, _, rfl, _, _, rfl, rfl, .inl ⟨by omega, by omega⟩, _, _, rfl, rfl, _, _, rfl, rfl, (by show (0 : Int) < 26; decide), _, _, c, rfl, rfl, r.1, by omega, (show _ < ((26 : Nat) : Int) by omega), (by rw [ej]; exact hc), ?_⟩
        have lo := low_one c97
        have len1 : (⟨#[c]⟩ : Str).length = 1 := rfl
        generalize (⟨#[c]⟩ : Str) = lt at lo len1
        have cl := cut_len z cut
        refine ⟨_, rfl, _, rfl, _, rfl, z, rfl, small_size (by omega), _, rfl, _, _, rfl, rfl, small_size (by omega), ?_⟩
        have Y0 : LowZ (cutS z none (some (cut : Int)) ++ lt) ∧ 1 ≤ (cutS z none (some (cut : Int)) ++ lt).length ∧ (cutS z none (some (cut : Int)) ++ lt).length ≤ 8 ∧ (26 ≤ i → (cutS z none (some (cut : Int)) ++ lt).length ≤ 7) := by
          rw [app_len]
          exact ⟨(hz.cut _ _).app lo, by omega, by omega, fun _ => by omega⟩
        have r8 := emod_in ((cut : Int) + 3 * (0 + (i : Int))) 8 (by decide)
        refine ⟨_, rfl, rfl, _, rfl, ite2 (fun _ => ?_) (fun _ => ?_)⟩
        · refine ⟨_, rfl, _, _, rfl, rfl, _, rfl, ite2 (fun h27 => ?_) (fun _ => ?_)⟩
          · have hm27 : (m : Int) < 27 := of_decide_eq_true h27
            obtain ⟨j8, ej8, hj8⟩ := draw_at r8.1 r8.2 (n := 8) rfl
            have cl8 := cut_len z j8
            refine ⟨_, rfl, _, rfl, _, rfl, _, rfl, _, _, rfl, rfl, .inl ⟨by decide, by decide⟩, _, _, rfl, rfl, _, _, rfl, rfl, (by show (0 : Int) < 8; decide), _, rfl, z, rfl, small_size (by omega), _, _, rfl, rfl, ?_, ?_⟩
            · rw [ej8, len1]
              exact small_size (by omega)
            have Y : NameI (lt ++ cutS z none (some (((cut : Int) + 3 * (0 + (i : Int))) % 8))) i := by
              unfold NameI
              rw [ej8, app_len]
              exact ⟨lo.app (hz.cut _ _), by omega, by omega, fun h => by omega⟩
            revert Y
            generalize (lt ++ cutS z none (some (((cut : Int) + 3 * (0 + (i : Int))) % 8))) = y
            intro Y
            obtain ⟨y1, y2, y3, y4⟩ := Y
            have done : ∀ (u : Str) (x8 x10 x11 : Option V), NameZ u → ∃ (zs' : List Str) (x8' x10' x11' : Option V), [some (V.ref b), some (.int (m : Int)), some (.str abc), some (.int (way : Int)), some (.int (cut : Int)), some (.int (bg : Int)), some (.int (st : Int)), some (.str z), x8, some (.ref D), x10, x11] = [some (.ref b), some (.int (m : Int)), some (.str abc), some (.int (way : Int)), some (.int (cut : Int)), some (.int (bg : Int)), some (.int (st : Int)), some (.str z), x8', some (.ref D), x10', x11'] ∧
                upd H2 D (.lst (zs.map V.str ++ [.str u])) D = some (.lst (zs'.map V.str)) ∧ zs'.length = i + 1 ∧ (∀ y ∈ zs', NameZ y) ∧ BoxAt (upd H2 D (.lst (zs.map V.str ++ [.str u]))) b (n + 11) ∧ But b H (upd H2 D (.lst (zs.map V.str ++ [.str u]))) := fun u x8 x10 x11 hu => by
              refine ⟨zs ++ [u], x8, x10, x11, rfl, ?_, ?_, fun v hv => ?_, box_upd B2 nD, but_upd k2 fD⟩
              · rw [upd_same, List.map_append]
                rfl
              · rw [List.length_append, hlz]
                rfl
              · rcases List.mem_append.mp hv with hv | hv
                · exact hy v hv
                · rw [List.mem_singleton.mp hv]
                  exact hu
            have room : (zs.map V.str).length < sizeLine := by
              rw [List.length_map]
              exact small1000 (by omega)
            refine ⟨_, rfl, .inl ⟨rfl, _, .of e2⟩, _, rfl, _, _, rfl, rfl, _, rfl, ite2 (fun h26 => ?_) (fun h26 => ?_)⟩
            · exact ⟨_, rfl, D, _, _, rfl, rfl, e2, room, done y _ _ _ ⟨y1, y2, y3⟩⟩
            · have h26' : ¬ ((0 + (i : Int)) < 26) := fun h => h26 (decide_eq_true h)
              have yl := y4 (by omega)
              have hd : (0 + (i : Int)) / 26 = ((i / 26 : Nat) : Int) := by omega
              obtain ⟨c2, hc2, c297⟩ := abc_at (j := i / 26) (by omega)
              refine ⟨_, rfl, _, rfl, _, rfl, _, _, rfl, rfl, ⟨by decide, by decide⟩, _, _, c2, rfl, rfl, by omega, by omega, (show _ < ((26 : Nat) : Int) by omega), (by rw [hd]; exact hc2), _, _, rfl, rfl, ?_, D, _, _, rfl, rfl, e2, room, ?_⟩
              · show y.length + 1 ≤ sizeLine
                exact small_size (by omega)
              · have l2 : (y ++ (⟨#[c2]⟩ : Str)).length = y.length + 1 := app_len y ⟨#[c2]⟩
                exact done (y ++ ⟨#[c2]⟩) _ _ _ ⟨y1.app (low_one c297), by omega, by omega⟩
          · have Y : NameI (cutS z none (some (cut : Int)) ++ lt) i := Y0
            revert Y
            generalize (cutS z none (some (cut : Int)) ++ lt) = y
            intro Y
            obtain ⟨y1, y2, y3, y4⟩ := Y
            have done : ∀ (u : Str) (x8 x10 x11 : Option V), NameZ u → ∃ (zs' : List Str) (x8' x10' x11' : Option V), [some (V.ref b), some (.int (m : Int)), some (.str abc), some (.int (way : Int)), some (.int (cut : Int)), some (.int (bg : Int)), some (.int (st : Int)), some (.str z), x8, some (.ref D), x10, x11] = [some (.ref b), some (.int (m : Int)), some (.str abc), some (.int (way : Int)), some (.int (cut : Int)), some (.int (bg : Int)), some (.int (st : Int)), some (.str z), x8', some (.ref D), x10', x11'] ∧
                upd H2 D (.lst (zs.map V.str ++ [.str u])) D = some (.lst (zs'.map V.str)) ∧ zs'.length = i + 1 ∧ (∀ y ∈ zs', NameZ y) ∧ BoxAt (upd H2 D (.lst (zs.map V.str ++ [.str u]))) b (n + 11) ∧ But b H (upd H2 D (.lst (zs.map V.str ++ [.str u]))) := fun u x8 x10 x11 hu => by
              refine ⟨zs ++ [u], x8, x10, x11, rfl, ?_, ?_, fun v hv => ?_, box_upd B2 nD, but_upd k2 fD⟩
              · rw [upd_same, List.map_append]
                rfl
              · rw [List.length_append, hlz]
                rfl
              · rcases List.mem_append.mp hv with hv | hv
                · exact hy v hv
                · rw [List.mem_singleton.mp hv]
                  exact hu
            have room : (zs.map V.str).length < sizeLine := by
              rw [List.length_map]
              exact small1000 (by omega)
            refine ⟨_, rfl, .inl ⟨rfl, _, .of e2⟩, _, rfl, _, _, rfl, rfl, _, rfl, ite2 (fun h26 => ?_) (fun h26 => ?_)⟩
            · exact ⟨_, rfl, D, _, _, rfl, rfl, e2, room, done y _ _ _ ⟨y1, y2, y3⟩⟩
            · have h26' : ¬ ((0 + (i : Int)) < 26) := fun h => h26 (decide_eq_true h)
              have yl := y4 (by omega)
              have hd : (0 + (i : Int)) / 26 = ((i / 26 : Nat) : Int) := by omega
              obtain ⟨c2, hc2, c297⟩ := abc_at (j := i / 26) (by omega)
              refine ⟨_, rfl, _, rfl, _, rfl, _, _, rfl, rfl, ⟨by decide, by decide⟩, _, _, c2, rfl, rfl, by omega, by omega, (show _ < ((26 : Nat) : Int) by omega), (by rw [hd]; exact hc2), _, _, rfl, rfl, ?_, D, _, _, rfl, rfl, e2, room, ?_⟩
              · show y.length + 1 ≤ sizeLine
                exact small_size (by omega)
              · have l2 : (y ++ (⟨#[c2]⟩ : Str)).length = y.length + 1 := app_len y ⟨#[c2]⟩
                exact done (y ++ ⟨#[c2]⟩) _ _ _ ⟨y1.app (low_one c297), by omega, by omega⟩
        · have Y : NameI (cutS z none (some (cut : Int)) ++ lt) i := Y0
          revert Y
          generalize (cutS z none (some (cut : Int)) ++ lt) = y
          intro Y
          obtain ⟨y1, y2, y3, y4⟩ := Y
          have done : ∀ (u : Str) (x8 x10 x11 : Option V), NameZ u → ∃ (zs' : List Str) (x8' x10' x11' : Option V), [some (V.ref b), some (.int (m : Int)), some (.str abc), some (.int (way : Int)), some (.int (cut : Int)), some (.int (bg : Int)), some (.int (st : Int)), some (.str z), x8, some (.ref D), x10, x11] = [some (.ref b), some (.int (m : Int)), some (.str abc), some (.int (way : Int)), some (.int (cut : Int)), some (.int (bg : Int)), some (.int (st : Int)), some (.str z), x8', some (.ref D), x10', x11'] ∧
              upd H2 D (.lst (zs.map V.str ++ [.str u])) D = some (.lst (zs'.map V.str)) ∧ zs'.length = i + 1 ∧ (∀ y ∈ zs', NameZ y) ∧ BoxAt (upd H2 D (.lst (zs.map V.str ++ [.str u]))) b (n + 11) ∧ But b H (upd H2 D (.lst (zs.map V.str ++ [.str u]))) := fun u x8 x10 x11 hu => by
            refine ⟨zs ++ [u], x8, x10, x11, rfl, ?_, ?_, fun v hv => ?_, box_upd B2 nD, but_upd k2 fD⟩
            · rw [upd_same, List.map_append]
              rfl
            · rw [List.length_append, hlz]
              rfl
            · rcases List.mem_append.mp hv with hv | hv
              · exact hy v hv
              · rw [List.mem_singleton.mp hv]
                exact hu
          have room : (zs.map V.str).length < sizeLine := by
            rw [List.length_map]
            exact small1000 (by omega)
          refine ⟨_, rfl, .inl ⟨rfl, _, .of e2⟩, _, rfl, _, _, rfl, rfl, _, rfl, ite2 (fun h26 => ?_) (fun h26 => ?_)⟩
          · exact ⟨_, rfl, D, _, _, rfl, rfl, e2, room, done y _ _ _ ⟨y1, y2, y3⟩⟩
          · have h26' : ¬ ((0 + (i : Int)) < 26) := fun h => h26 (decide_eq_true h)
            have yl := y4 (by omega)
            have hd : (0 + (i : Int)) / 26 = ((i / 26 : Nat) : Int) := by omega
            obtain ⟨c2, hc2, c297⟩ := abc_at (j := i / 26) (by omega)
            refine ⟨_, rfl, _, rfl, _, rfl, _, _, rfl, rfl, ⟨by decide, by decide⟩, _, _, c2, rfl, rfl, by omega, by omega, (show _ < ((26 : Nat) : Int) by omega), (by rw [hd]; exact hc2), _, _, rfl, rfl, ?_, D, _, _, rfl, rfl, e2, room, ?_⟩
            · show y.length + 1 ≤ sizeLine
              exact small_size (by omega)
            · have l2 : (y ++ (⟨#[c2]⟩ : Str)).length = y.length + 1 := app_len y ⟨#[c2]⟩
              exact done (y ++ ⟨#[c2]⟩) _ _ _ ⟨y1.app (low_one c297), by omega, by omega⟩
      · rintro σ H2 ⟨zs, x8, x10, x11, rfl, e2, hlz, hy, B2, k2⟩
        exact ⟨_, rfl, q D H2 zs hlz hy fD e2 (B2.mono (by omega)) k2⟩
    obtain ⟨tl, pl, ql⟩ : ∃ t, PSs (cxOf CX0 P w K mg base nNames "_law_names" (defScope sNames) f cdv A outer s H E).nox ((defBody sNames).drop 2) t ∧
        ∀ (way cut bg : Nat) (H1 : Hp), cut ≤ 7 → (26 < m → cut ≤ 6) → bg < 26 → BoxAt H1 b (n + 3) → But b H H1 → t { nx := fun _ H' => Q .non H', rt := Q } [some (.ref b), some (.int (m : Int)), some (.str abc), some (.int (way : Int)), some (.int (cut : Int)), some (.int (bg : Int)), none, none, none, none, none, none] H1 := by
      refine ⟨_, pss_cons (ps_asg (pe_tup (pa_cons (pe_ix ix_list (pe_lst (pa_cons pe_int (pa_cons pe_int (pa_cons pe_int (pa_cons pe_int (pa_cons pe_int (pa_cons pe_int (pa_cons pe_int (pa_cons pe_int pa_nil)))))))))
          (pe_call GT hr1 rfl gT T.kp bT .nil pass0 (pa_cons (pv 0) (pa_cons pe_int pa_nil))) (fun _ _ => rfl)) (pa_cons pe_str pa_nil)))
        (pg_tup (by rfl) (pgs_cons (pg_name (i := 6) scNames.nd rfl (.inl rfl)) (pgs_cons (pg_name (i := 7) scNames.nd rfl (.inr rfl)) pgs_nil))))
      (pss_cons (ps_for PassesOwn.never rfl (pi_range1 rfl mr (pa_cons pe_int pa_nil)) (pg_name (i := 8) scNames.nd rfl (.inl rfl))
        (pss_one (ps_set (i := 7) scNames.nd rfl (.inr rfl) (pe_op op_add_str (pv 7) (pe_item_str (pv 2) (pe_call GT hr1 rfl gT T.kp bT .nil pass0 (pa_cons (pv 0) (pa_cons pe_int pa_nil))) (fun _ _ => rfl))))))
      (pss_cons (ps_if (PW.pt (pw_and (pt_cmpR op_eq (pv 3) pe_int (nomark _)) (pw_and1 (pt_cmpR op_lt (pv 1) pe_int (nomark _)))))
        (pss_one (ps_ret (pe_call GM hr rfl gM M.kp bM .nil pass0 (pa_cons (pv 0) (pa_cons (pe_lc (own := [("_law_k", 8)]) (g := gName 8) (tt := tYes) (by rfl) scNames.nd (pi_range1 rfl mr (pa_cons (pv 1) pa_nil))
          (blkOk_by (own := [("_law_k", 8)]) (N := nNames) (sc := defScope sNames) (by decide +kernel)) (fun _ _ _ _ _ => pg_name (i := 8) scNames.nd rfl (.inl rfl)) (fun _ _ _ _ _ => pts_nil)
          (fun _ _ _ _ _ => pe_slice sl_str (pe_op op_add_str (pv 7) (pe_item_str (pv 2) (pv 5) (fun _ _ => rfl))) po_none (po_some (pe_op op_add (pv 8) pe_int)))) pa_nil))))) pss_nil)
      psl)), ?_⟩
      intro way cut bg H1 hcut hcut2 hbg B1 k1
      refine ⟨(by show 8 ≤ sizeLine; decide), fun p1 hp1 => ?_⟩
      have np1 := box_ne B1 hp1
      refine ⟨_, rfl, b, 8, n + 3, rfl, box_new B1 hp1, by omega, by decide, by decide, fun r H2 r0 r1 B2 k2 => ?_⟩
      obtain ⟨j, rfl, hj⟩ := draw_at (n := 8) r0 r1 rfl
      have e2 := k2 _ _ np1 upd_same
      have kk2 : But b H H2 := (k1.trans (But.new hp1)).trans k2
      obtain ⟨st, hst, hst17⟩ : ∃ st : Nat, ([.int 1, .int 3, .int 5, .int 7, .int 9, .int 11, .int 15, .int 17] : List V)[j]? = some (.int (st : Int)) ∧ st ≤ 17 := by
        match j, hj with
        | 0, _ => exact ⟨1, rfl, by decide⟩
        | 1, _ => exact ⟨3, rfl, by decide⟩
        | 2, _ => exact ⟨5, rfl, by decide⟩
        | 3, _ => exact ⟨7, rfl, by decide⟩
        | 4, _ => exact ⟨9, rfl, by decide⟩
        | 5, _ => exact ⟨11, rfl, by decide⟩
        | 6, _ => exact ⟨15, rfl, by decide⟩
        | 7, _ => exact ⟨17, rfl, by decide⟩
      refine ⟨p1, _, _, .int (st : Int), rfl, rfl, .of e2, atI_nat hst, (by show 2 ≤ sizeLine; decide), fun p2 hp2 => ?_⟩
      have np2 := box_ne B2 hp2
      refine ⟨p2, _, rfl, .of upd_same, rfl, _, _, rfl, _, _, rfl, rfl, ?_⟩
      have B3 : BoxAt (upd H2 p2 (.tup [.int (st : Int), .str ""])) b (n + 4) := box_new B2 hp2
      have k3 : But b H (upd H2 p2 (.tup [.int (st : Int), .str ""])) := kk2.trans (But.new hp2)
      generalize upd H2 p2 (.tup [.int (st : Int), .str ""]) = H3 at B3 k3
      -- the stem
      refine ⟨_, rfl, by decide, by decide, ?_⟩
      refine for_range (lo := 0) (n := 7) (fun i σ H4 => ∃ (z : Str) (x8 : Option V), σ = [some (.ref b), some (.int (m : Int)), some (.str abc), some (.int (way : Int)), some (.int (cut : Int)), some (.int (bg : Int)), some (.int (st : Int)), some (.str z), x8, none, none, none] ∧ LowZ z ∧ z.length = i ∧ BoxAt H4 b (n + 4 + i) ∧ But b H H4) ?_ ?_ ?_
      · exact ⟨"", none, rfl, (fun c h => nomatch h), rfl, B3, k3⟩
      · rintro i σ H4 hi ⟨z, x8, rfl, hz, hl, B4, k4⟩
        refine ⟨_, rfl, _, rfl, _, rfl, b, 26, n + 4 + i, rfl, B4, by omega, by decide, by decide, fun r H5 r0 r1 B5 k5 => ?_⟩
        obtain ⟨j, rfl, hj⟩ := draw_at (n := 26) r0 r1 rfl
        obtain ⟨c, hc, c97⟩ := abc_at hj
        refine ⟨_, _, c, rfl, rfl, by omega, by omega, (show ((j : Nat) : Int) < ((26 : Nat) : Int) by omega), hc, ?_⟩
        refine ⟨_, _, rfl, rfl, ?_, ?_⟩
        · show z.length + 1 ≤ sizeLine
          rw [sizeLine_eq]
          omega
        · refine ⟨z ++ ⟨#[c]⟩, _, rfl, hz.app (low_one c97), ?_, B5, k4.trans k5⟩
          rw [app_len, hl]
          rfl
      · rintro σ H4 ⟨z, x8, rfl, hz, hl, B4, k4⟩
        -- from here on two ways
        have namesOf : ∀ (zs : List Str) (qs : List Vd), qs.Perm (zs.map fun z => (V.str z, PyData.str z)) → (∀ z ∈ zs, NameZ z) →
            ∃ ys : List Str, qs.map (·.1) = ys.map V.str ∧ ys.length = zs.length ∧ ∀ y ∈ ys, NameZ y := fun zs qs pm hz => by
          have each : ∀ x ∈ qs, ∃ y, x = (V.str y, PyData.str y) ∧ NameZ y := fun x hx => by
            obtain ⟨y, hy, e⟩ := List.mem_map.mp (pm.mem_iff.mp hx)
            exact ⟨y, e.symm, hz y hy⟩
          have hlen : qs.length = zs.length := by
            rw [pm.length_eq, List.length_map]
          rw [← hlen]
          clear pm hlen
          induction qs with
          | nil => exact ⟨[], rfl, rfl, fun y hy => nomatch hy⟩
          | cons x qs ih =>
            obtain ⟨y, rfl, hy⟩ := each x List.mem_cons_self
            obtain ⟨ys, e1, e2, e3⟩ := ih fun x hx => each x (List.mem_cons_of_mem _ hx)
            refine ⟨y :: ys, ?_, congrArg (· + 1) e2, fun u hu => ?_⟩
            · rw [List.map_cons, e1]
              rfl
            · rcases List.mem_cons.mp hu with rfl | hu
              · exact hy
              · exact e3 u hu
        have mInt : (m : Int).toNat = m := Int.toNat_natCast m
        refine ⟨_, rfl, rfl, _, rfl, ite2 (fun _ => ?_) (fun _ => ?_)⟩
        · refine ⟨_, rfl, _, _, rfl, rfl, _, rfl, ite2 (fun h9 => ?_) (fun _ => ?_)⟩
          · have hm9 : (m : Int) < 9 := of_decide_eq_true h9
            refine ⟨_, rfl, _, rfl, _, rfl, by omega, by omega, fun D hD => ?_⟩
            have nD := box_ne B4 hD
            have fD := free_of k4 nD hD
            rw [mInt]
            refine lc_range (lo := 0) (n := m) (fun i H5 => ∃ ys : List Str, H5 D = some (.lst (ys.map V.str)) ∧ ys.length = i ∧ (∀ y ∈ ys, NameZ y) ∧ BoxAt H5 b (n + 11) ∧ But b H H5) ?_ ?_ ?_
            · exact ⟨[], upd_same, rfl, (fun y h => nomatch h), box_new B4 hD, but_upd k4 fD⟩
            · rintro i H5 hi ⟨ys, e5, hl5, hy, B5, k5⟩
              refine ⟨rfl, ?_⟩
              unfold tYes
              dsimp only
              rw [if_pos rfl]
              obtain ⟨c, hc, c97⟩ := abc_at hbg
              refine ⟨_, rfl, _, rfl, _, rfl, _, _, c, rfl, rfl, by omega, by omega, (show ((bg : Nat) : Int) < ((26 : Nat) : Int) by omega), hc, _, _, rfl, rfl, ?_, ?_⟩
              · show z.length + 1 ≤ sizeLine
                rw [sizeLine_eq]
                omega
              have lz : (z ++ ⟨#[c]⟩).length = 8 := by
                rw [app_len, hl]
                rfl
              refine ⟨_, rfl, _, _, rfl, rfl, _, rfl, _, rfl, small_size (by omega), ?_⟩
              have e0 : (0 + (i : Int) + 1 : Int) = ((i + 1 : Nat) : Int) := by omega
              rw [e0]
              have cl := cut_len (z ++ ⟨#[c]⟩) (i + 1)
              refine ⟨_, e5, ?_, ys ++ [cutS (z ++ ⟨#[c]⟩) none (some ((i + 1 : Nat) : Int))], ?_, ?_, ?_, ?_, ?_⟩
              · rw [List.length_map]
                exact small1000 (by omega)
              · rw [upd_same, List.map_append]
                rfl
              · rw [List.length_append, hl5]
                rfl
              · intro y h
                rcases List.mem_append.mp h with h | h
                · exact hy y h
                · rw [List.mem_singleton.mp h]
                  exact ⟨(hz.app (low_one c97)).cut _ _, by omega, by omega⟩
              · exact box_upd B5 nD
              · exact but_upd k5 fD
            · rintro H5 ⟨ys, e5, hl5, hy, B5, k5⟩
              refine ⟨b, D, n + 11, ys.map fun z => (V.str z, PyData.str z), rfl, B5, ?_, .inl (.of ?_), ?_, fun p H6 qs pm np e6 B6 k6 => ?_⟩
              · rw [List.length_map]
                omega
              · rw [e5, List.map_map]
                rfl
              · intro x hx
                obtain ⟨y, hyy, rfl⟩ := List.mem_map.mp hx
                exact ⟨(hy y hyy).1.lay, fun H' _ => .str y⟩
              · obtain ⟨us, u1, u2, u3⟩ := namesOf ys qs pm hy
                rw [u1] at e6
                rw [List.length_map, hl5] at B6
                exact q p H6 us (u2.trans hl5) u3 (free_of k5 (box_ne B5 np) np) e6 B6 (k5.trans k6)
          · exact qsl way cut bg st z x8 H4 hcut hcut2 hbg hst17 hz hl B4 k4
        · exact qsl way cut bg st z x8 H4 hcut hcut2 hbg hst17 hz hl B4 k4
    refine ⟨_, pss_cons (ps_set (i := 2) scNames.nd rfl (.inr rfl) pe_str)
      (pss_cons (ps_asg (pe_tup (pa_cons (pe_call GT hr1 rfl gT T.kp bT .nil pass0 (pa_cons (pv 0) (pa_cons pe_int pa_nil)))
          (pa_cons (pe_call GT hr1 rfl gT T.kp bT .nil pass0 (pa_cons (pv 0) (pa_cons (pe_ifExp (pt_cmpR op_lt (pv 1) pe_int (nomark _)) pe_int pe_int) pa_nil)))
          (pa_cons (pe_call GT hr1 rfl gT T.kp bT .nil pass0 (pa_cons (pv 0) (pa_cons pe_int pa_nil))) pa_nil))))
        (pg_tup (by rfl) (pgs_cons (pg_name (i := 3) scNames.nd rfl (.inl rfl)) (pgs_cons (pg_name (i := 4) scNames.nd rfl (.inl rfl)) (pgs_cons (pg_name (i := 5) scNames.nd rfl (.inr rfl)) pgs_nil))))) pl), ?_⟩
    refine ⟨_, rfl, b, 4, n, rfl, B, by omega, by decide, by decide, fun way H1 w0 w1 B1 k1 => ?_⟩
    obtain ⟨way, rfl, _⟩ := draw_at (n := 4) w0 w1 rfl
    refine ⟨_, rfl, _, rfl, _, _, rfl, rfl, _, rfl, ite2 (fun hm27 => ?_) (fun hm27 => ?_)⟩
    · refine ⟨b, 8, n + 1, rfl, B1, by omega, by decide, by decide, fun cut H2 c0 c1 B2 k2 => ?_⟩
      obtain ⟨cut, rfl, hcut⟩ := draw_at (n := 8) c0 c1 rfl
      refine ⟨_, rfl, b, 26, n + 2, rfl, B2, by omega, by decide, by decide, fun bg H3 g0 g1 B3 k3 => ?_⟩
      obtain ⟨bg, rfl, hbg⟩ := draw_at (n := 26) g0 g1 rfl
      refine ⟨(by show 3 ≤ sizeLine; decide), fun p hp => ⟨p, _, rfl, .of upd_same, rfl, _, _, rfl, _, _, rfl, _, _, rfl, rfl, ?_⟩⟩
      have hm' : (m : Int) < 27 := of_decide_eq_true hm27
      exact ql way cut bg _ (by omega) (by omega) hbg (box_new B3 hp) (((k1.trans k2).trans k3).trans (But.new hp))
    · refine ⟨b, 7, n + 1, rfl, B1, by omega, by decide, by decide, fun cut H2 c0 c1 B2 k2 => ?_⟩
      obtain ⟨cut, rfl, hcut⟩ := draw_at (n := 7) c0 c1 rfl
      refine ⟨_, rfl, b, 26, n + 2, rfl, B2, by omega, by decide, by decide, fun bg H3 g0 g1 B3 k3 => ?_⟩
      obtain ⟨bg, rfl, hbg⟩ := draw_at (n := 26) g0 g1 rfl
      refine ⟨(by show 3 ≤ sizeLine; decide), fun p hp => ⟨p, _, rfl, .of upd_same, rfl, _, _, rfl, _, _, rfl, _, _, rfl, rfl, ?_⟩⟩
      exact ql way cut bg _ (by omega) (by omega) hbg (box_new B3 hp) (((k1.trans k2).trans k3).trans (But.new hp))
end
end G
set_option Elab.async false
set_option linter.all false
set_option maxRecDepth 100000
set_option maxHeartbeats 2000000
/-! V5: a drawn number, a drawn value of some fields. -/
namespace G
open PySem PySem.Spec PyProof.Rows L2
abbrev sNumber : Stmt := topS 36
abbrev sValue : Stmt := topS 37
theorem scNumber : FnScope ["_law_box_here", "_law_some"] ["_law_box_here"] (defScope sNumber) := ⟨rfl, rfl, rfl, by decide +kernel, rfl, by decide +kernel, by decide +kernel⟩
theorem scValue : FnScope ["_law_box_here", "_law_fields_here", "_law_found", "_law_part"] ["_law_box_here", "_law_fields_here"] (defScope sValue) := ⟨rfl, rfl, rfl, by decide +kernel, rfl, by decide +kernel, by decide +kernel⟩
def spNumber : Sp := fun vs H Q _ => ∃ (b : Addr) (n : Nat), vs = [.ref b] ∧ BoxAt H b n ∧ n ≤ 90000 ∧ ∀ (i : Int) (H' : Hp), -999 ≤ i → i ≤ 999 → BoxAt H' b (n + 3) → But b H H' → Q (.int i) H'
/-- some of the fields, each with a number -/
def ValN (zs : List Str) (kvs : List (Key × V)) : Prop := ∀ p ∈ kvs, ∃ z i, p = (Sum.inr z, V.int i) ∧ z ∈ zs ∧ -999 ≤ i ∧ i ≤ 999
def spValue (K : PySem.W.Frag) : Sp := fun vs H Q _ => ∃ (b a : Addr) (n : Nat) (zs : List Str), vs = [.ref b, .ref a] ∧ BoxAt H b n ∧ n ≤ 80000 ∧ H a = some (.lst (zs.map V.str)) ∧ (∀ z ∈ zs, NameZ z) ∧ 1 ≤ zs.length ∧ zs.length ≤ 100 ∧ a ≠ b ∧
  ∀ (p : Addr) (H' : Hp) (kvs : List (Key × V)), H p = none → H' p = some (.dK kvs) → ValN zs kvs → 1 ≤ kvs.length → kvs.length ≤ 6 → kvs.length ≤ zs.length → BoxAt H' b (n + 201 + 3 * 6) → But b H H' → Q (.ref p) H'
/-- an order of texts is made of these texts -/
theorem texts_of : ∀ {zs : List Str} {qs : List Vd}, qs.Perm (zs.map fun z => (V.str z, PyData.str z)) → ∃ ys : List Str, qs.map (·.1) = ys.map V.str ∧ ys.length = zs.length ∧ ∀ y ∈ ys, y ∈ zs := by
  intro zs qs pm
  have each : ∀ x ∈ qs, ∃ y, x = (V.str y, PyData.str y) ∧ y ∈ zs := fun x hx => by
    obtain ⟨y, hy, e⟩ := List.mem_map.mp (pm.mem_iff.mp hx)
    exact ⟨y, e.symm, hy⟩
  have hlen : qs.length = zs.length := by
    rw [pm.length_eq, List.length_map]
  rw [← hlen]
  clear pm hlen
  induction qs with
  | nil => exact ⟨[], rfl, rfl, fun y hy => nomatch hy⟩
  | cons x qs ih =>
    obtain ⟨y, rfl, hy⟩ := each x List.mem_cons_self
    obtain ⟨ys, e1, e2, e3⟩ := ih fun x hx => each x (List.mem_cons_of_mem _ hx)
    refine ⟨y :: ys, ?_, congrArg (· + 1) e2, fun u hu => ?_⟩
    · rw [List.map_cons, e1]
      rfl
    · rcases List.mem_cons.mp hu with rfl | hu
      · exact hy
      · exact e3 u hu
theorem mem_putK {kvs : List (Key × V)} {k : Key} {v : V} {p : Key × V} (h : p ∈ putK kvs k v) : p = (k, v) ∨ p ∈ kvs := by
  unfold putK at h
  split at h
  · obtain ⟨q, hq, e⟩ := List.mem_map.mp h
    by_cases z : q.1 = k
    · rw [if_pos z] at e
      left
      rw [← e, z]
    · rw [if_neg z] at e
      right
      rw [← e]
      exact hq
  · rcases List.mem_append.mp h with h | h
    · exact .inr h
    · exact .inl (List.mem_singleton.mp h)
theorem putK_pos (kvs : List (Key × V)) (k : Key) (v : V) : 1 ≤ (putK kvs k v).length := by
  unfold putK
  split
  · rename_i h
    obtain ⟨x, hx, _⟩ := List.any_eq_true.mp h
    rw [List.length_map]
    exact List.length_pos_of_mem hx
  · rw [List.length_append]
    exact Nat.le_add_left 1 _
theorem ValN.put {zs : List Str} {kvs : List (Key × V)} (h : ValN zs kvs) {z : Str} {i : Int} (hz : z ∈ zs) (h1 : -999 ≤ i) (h2 : i ≤ 999) : ValN zs (putK kvs (Sum.inr z) (.int i)) := fun p hp => by
  rcases mem_putK hp with e | hp
  · exact ⟨z, i, e, hz, h1, h2⟩
  · exact h p hp
theorem cutV_first (xs : List V) (k : Nat) (h : k ≤ xs.length) : cutV xs none (some (k : Int)) = xs.take k := by
  unfold cutV
  rw [HT.sIx_none, HT.sIx_nat, List.drop_zero, Nat.min_eq_left h, Nat.sub_zero]
section
variable {P : Program} {w : World} {K : PySem.W.Frag} {mg : Str → Option Value} {base : Heap}
theorem ok_number {f fT : Addr} {fd fdT : FuncData} (F : Fun K "_law_number" "_law_number" sNumber f fd) (T : Fun K "_law_take" "_law_take" sTake fT fdT) (bT : Binds K fdT ["_law_box_here", "_law_many"] []) (gT : mg "_law_take" = some (.ref fT)) :
    FnOk P w K mg base CX0 2 f fd ["_law_box_here"] spNumber := by
  have GT : FnOk P w K mg base CX0 1 fT fdT ["_law_box_here", "_law_many"] spTake := ok_take T
  refine F.ok scNumber (fun vs H Q E h => ?_) (fun cdv A outer s H vs Q E hr h => ?_)
  · obtain ⟨b, n, rfl, _⟩ := h
    rfl
  · obtain ⟨b, n, rfl, B, hn, q⟩ := h
    refine ⟨_, pss_cons (ps_set (i := 1) scNumber.nd rfl (.inl rfl) (pe_lst (pa_cons pe_int (pa_cons pe_int (pa_cons (pe_un un_neg pe_int) (pa_cons pe_int (pa_cons pe_int (pa_cons (pe_un un_neg pe_int)
        (pa_cons (pe_op op_sub (pe_call GT hr rfl gT T.kp bT .nil pass0 (pa_cons (pv 0) (pa_cons pe_int pa_nil))) pe_int) (pa_cons (pe_op op_sub (pe_call GT hr rfl gT T.kp bT .nil pass0 (pa_cons (pv 0) (pa_cons pe_int pa_nil))) pe_int) pa_nil))))))))))
      (pss_one (ps_ret (pe_ix ix_list (pv 1) (pe_call GT hr rfl gT T.kp bT .nil pass0 (pa_cons (pv 0) (pa_cons pe_int pa_nil))) (fun _ _ => rfl)))), ?_⟩
    refine ⟨_, rfl, _, rfl, _, rfl, b, 21, n, rfl, B, by omega, by decide, by decide, fun r1 H1 a0 a1 B1 k1 => ⟨_, _, rfl, rfl, _, rfl, b, 1999, n + 1, rfl, B1, by omega, by decide, by decide, fun r2 H2 c0 c1 B2 k2 => ⟨_, _, rfl, rfl, (by show 8 ≤ sizeLine; decide), fun p hp => ?_⟩⟩⟩
    have np := box_ne B2 hp
    refine ⟨_, rfl, _, rfl, b, 8, n + 2, rfl, box_new B2 hp, by omega, by decide, by decide, fun r3 H3 d0 d1 B3 k3 => ?_⟩
    obtain ⟨j, rfl, hj⟩ := draw_at (n := 8) d0 d1 rfl
    have e3 := k3 _ _ np upd_same
    obtain ⟨i, hi, h1, h2⟩ : ∃ i : Int, ([.int 0, .int 1, .int (-1), .int 2, .int 999, .int (-999), .int (r1 - 10), .int (r2 - 999)] : List V)[j]? = some (.int i) ∧ -999 ≤ i ∧ i ≤ 999 := by
      match j, hj with
      | 0, _ => exact ⟨0, rfl, by decide, by decide⟩
      | 1, _ => exact ⟨1, rfl, by decide, by decide⟩
      | 2, _ => exact ⟨-1, rfl, by decide, by decide⟩
      | 3, _ => exact ⟨2, rfl, by decide, by decide⟩
      | 4, _ => exact ⟨999, rfl, by decide, by decide⟩
      | 5, _ => exact ⟨-999, rfl, by decide, by decide⟩
      | 6, _ => exact ⟨r1 - 10, rfl, by omega, by omega⟩
      | 7, _ => exact ⟨r2 - 999, rfl, by omega, by omega⟩
    exact ⟨p, _, _, .int i, rfl, rfl, .of e3, atI_nat hi, q i H3 h1 h2 B3 (((k1.trans k2).trans (But.new hp)).trans k3)⟩
theorem ok_value {f fT fM fN : Addr} {fd fdT fdM fdN : FuncData} (F : Fun K "_law_value" "_law_value" sValue f fd) (T : Fun K "_law_take" "_law_take" sTake fT fdT) (bT : Binds K fdT ["_law_box_here", "_law_many"] []) (gT : mg "_law_take" = some (.ref fT))
    (M : Fun K "_law_mixed" "_law_mixed" sMixed fM fdM) (bM : Binds K fdM ["_law_box_here", "_law_some"] []) (gM : mg "_law_mixed" = some (.ref fM))
    (Nm : Fun K "_law_number" "_law_number" sNumber fN fdN) (bN : Binds K fdN ["_law_box_here"] []) (gN : mg "_law_number" = some (.ref fN)) (ml : mg "len" = none) (mL : mg "list" = none) (mm : mg "min" = none) :
    FnOk P w K mg base CX0 3 f fd ["_law_box_here", "_law_fields_here"] (spValue K) := by
  have GT : FnOk P w K mg base CX0 1 fT fdT ["_law_box_here", "_law_many"] spTake := ok_take T
  have GM : FnOk P w K mg base CX0 2 fM fdM ["_law_box_here", "_law_some"] (spMixed K) := ok_mixed M T bT gT ml mL
  have GN : FnOk P w K mg base CX0 2 fN fdN ["_law_box_here"] spNumber := ok_number Nm T bT gT
  refine F.ok scValue (fun vs H Q E h => ?_) (fun cdv A outer s H vs Q E hr h => ?_)
  · obtain ⟨b, a, n, zs, rfl, _⟩ := h
    rfl
  · obtain ⟨b, a, n, zs, rfl, B, hn, hS, hz, l1, l100, nab, q⟩ := h
    have hr1 := hr.mono (show 1 ≤ 2 by decide)
    have hu := hu_of hr
    refine ⟨_, pss_cons (ps_set (i := 2) scValue.nd rfl (.inl rfl) pe_dnewK)
      (pss_cons (ps_for PassesOwn.never rfl (pi_list (pe_slice sl_list (pe_call GM hr rfl gM M.kp bM .nil pass0 (pa_cons (pv 0) (pa_cons (pv 1) pa_nil))) po_none
          (po_some (pe_op op_add pe_int (pe_call GT hr1 rfl gT T.kp bT .nil pass0 (pa_cons (pv 0) (pa_cons (pe_callB (call_min2 rfl) (by rfl) mm (by decide +kernel) (pa_cons pe_int (pa_cons (pe_callB call_len_seq (by rfl) ml PySem.boot_len (pa_cons (pv 1) pa_nil)) pa_nil))) pa_nil)))))))
        (pg_name (i := 3) scValue.nd rfl (.inl rfl))
        (pss_one (ps_dput hu (pv 2) (pv 3) (pe_call GN hr rfl gN Nm.kp bN .nil pass0 (pa_cons (pv 0) pa_nil)) rfl)))
      (pss_one (ps_ret (pv 2)))), ?_⟩
    intro d hd
    have nd := box_ne B hd
    refine ⟨_, rfl, _, rfl, b, a, n, zs.map fun z => (V.str z, PyData.str z), rfl, box_new B hd, ?_, .inl ?_, ?_, fun p H1 qs pm np e1 B1 k1 => ?_⟩
    · rw [List.length_map]
      omega
    · refine .of ?_
      rw [upd_ne (ne_of_none hS hd), hS, List.map_map]
      rfl
    · intro x hx
      obtain ⟨y, hyy, rfl⟩ := List.mem_map.mp hx
      exact ⟨(hz y hyy).1.lay, fun H' _ => .str y⟩
    · obtain ⟨ys, y1, y2, y3⟩ := texts_of pm
      rw [y1] at e1
      rw [List.length_map] at B1
      have nda : a ≠ d := ne_of_none hS hd
      have ea1 : H1 a = some (.lst (zs.map V.str)) := k1 _ _ nab ((upd_ne nda).trans hS)
      have ed1 : H1 d = some (.dK []) := k1 _ _ nd upd_same
      have kk1 : But b H H1 := (But.new hd).trans k1
      have npb : p ≠ b := by
        obtain ⟨x, y, z, e, _⟩ := B
        exact box_ne (box_new ⟨x, y, z, e, ‹_›⟩ hd) np
      have fp : H p = none := by
        by_cases z : p = d
        · rw [z] at np
          rw [upd_same] at np
          cases np
        · rwa [upd_ne z] at np
      have hmin : ∃ mn : Nat, (if ((List.map V.str zs).length : Int) < 6 then ((List.map V.str zs).length : Int) else 6) = (mn : Int) ∧ 1 ≤ mn ∧ mn ≤ 6 ∧ mn ≤ zs.length := by
        rw [List.length_map]
        by_cases h : (zs.length : Int) < 6
        · exact ⟨zs.length, if_pos h, l1, by omega, Nat.le_refl _⟩
        · exact ⟨6, if_neg h, by decide, by decide, by omega⟩
      obtain ⟨mn, emn, mn1, mn6, mnl⟩ := hmin
      refine ⟨_, rfl, _, rfl, a, _, rfl, .inl (.of ea1), _, _, rfl, ?_⟩
      rw [emn]
      refine ⟨b, mn, n + zs.length, rfl, B1, by omega, by omega, by omega, fun r H2 r0 r1 B2 k2 => ?_⟩
      obtain ⟨j, rfl, hj⟩ := draw_at (n := mn) r0 r1 rfl
      have e2 := k2 _ _ npb e1
      have ed2 := k2 _ _ nd ed1
      refine ⟨_, _, rfl, rfl, _, rfl, p, _, rfl, .of e2, fun p2 np2 => ?_⟩
      have ej : (1 + (j : Int) : Int) = ((1 + j : Nat) : Int) := by omega
      rw [ej, cutV_first _ (1 + j) (by rw [List.length_map]; omega), ← List.map_take]
      have nb2 := box_ne B2 np2
      have nd2 : d ≠ p2 := ne_of_none ed2 np2
      have kk2 : But b H H2 := kk1.trans k2
      have f2 : H p2 = none := free_of kk2 nb2 np2
      refine ⟨p2, rfl, ⟨_, .of upd_same⟩, ?_⟩
      have tl : ((ys.take (1 + j)).map V.str).length = 1 + j := by
        rw [List.length_map, List.length_take]
        omega
      refine for_list (xs := (ys.take (1 + j)).map V.str) (fun i σ H3 => ∃ (kvs : List (Key × V)) (x3 : Option V), σ = [some (.ref b), some (.ref a), some (.ref d), x3] ∧ H3 d = some (.dK kvs) ∧ ValN zs kvs ∧ kvs.length ≤ i ∧ (1 ≤ i → 1 ≤ kvs.length) ∧
        H3 p2 = some (.lst ((ys.take (1 + j)).map V.str)) ∧ BoxAt H3 b (n + zs.length + 1 + 3 * i) ∧ But b H H3) ?_ ?_ ?_ ?_
      · refine ⟨[], none, rfl, (upd_ne nd2).trans ed2, (fun x hx => nomatch hx), Nat.le_refl _, (fun h => absurd h (by decide)), upd_same, box_new B2 np2, but_upd kk2 f2⟩
      · rintro i σ H3 _ ⟨kvs, x3, rfl, _, _, _, _, e3, _, _⟩
        exact .of e3
      · rintro i x σ H3 hx ⟨kvs, x3, rfl, ed3, v3, len3, pos3, e3, B3, k3⟩
        have hi : i < 1 + j := by
          rw [← tl]
          exact (List.getElem?_eq_some_iff.mp hx).1
        rw [List.getElem?_map] at hx
        obtain ⟨y, hy, rfl⟩ := Option.map_eq_some_iff.mp hx
        have hyz : y ∈ zs := y3 y (List.mem_of_mem_take (List.mem_of_getElem? hy))
        refine ⟨_, rfl, b, n + zs.length + 1 + 3 * i, rfl, B3, by omega, fun v H4 v0 v1 B4 k4 => ?_⟩
        have ed4 := k4 _ _ nd ed3
        have e4 := k4 _ _ nb2 e3
        refine ⟨_, rfl, _, rfl, d, _, rfl, DPut.k (k := Sum.inr y) ed4 (small1000 (by omega)), ?_⟩
        refine ⟨putK kvs (Sum.inr y) (.int v), _, rfl, upd_same, v3.put hyz v0 v1, ?_, fun _ => putK_pos _ _ _, (upd_ne nd2.symm).trans e4, (box_upd B4 nd).mono (by omega), but_upd (k3.trans k4) hd⟩
        have := length_putK kvs (Sum.inr y) (.int v)
        omega
      · rintro σ H3 ⟨kvs, x3, rfl, ed3, v3, len3, pos3, e3, B3, k3⟩
        rw [tl] at len3 pos3 B3
        refine ⟨_, rfl, q d H3 kvs hd ed3 v3 (pos3 (by omega)) (by omega) (by omega) (B3.mono (by omega)) k3⟩
end
end G
set_option Elab.async false
set_option linter.all false
set_option maxRecDepth 100000
set_option maxHeartbeats 2000000
/-! P0: isinstance by the kind of a thing. -/
namespace G
open PySem PySem.Spec PyProof.Rows L2
def isI : PyData → Bool
  | .int _ => true
  | .bool _ => true
  | _ => false
def isB : PyData → Bool
  | .bool _ => true
  | _ => false
def isTup : PyData → Bool
  | .tuple _ => true
  | _ => false
def isLst : PyData → Bool
  | .list _ => true
  | _ => false
def isDic : PyData → Bool
  | .dict _ => true
  | _ => false
theorem kit_i {K : PySem.W.Frag} : ∀ d : PyData, PySem.W.kitOne K (.type (tyN d)) (.type "int") = some (isI d)
  | .none => kit_ty (a := "NoneType") (b := "int") (r := false) (by decide +kernel)
  | .bool _ => kit_ty (a := "bool") (b := "int") (r := true) (by decide +kernel)
  | .int _ => kit_ty (a := "int") (b := "int") (r := true) (by decide +kernel)
  | .str _ => kit_ty (a := "str") (b := "int") (r := false) (by decide +kernel)
  | .list _ => kit_ty (a := "list") (b := "int") (r := false) (by decide +kernel)
  | .tuple _ => kit_ty (a := "tuple") (b := "int") (r := false) (by decide +kernel)
  | .dict _ => kit_ty (a := "dict") (b := "int") (r := false) (by decide +kernel)
theorem kit_b {K : PySem.W.Frag} : ∀ d : PyData, PySem.W.kitOne K (.type (tyN d)) (.type "bool") = some (isB d)
  | .none => kit_ty (a := "NoneType") (b := "bool") (r := false) (by decide +kernel)
  | .bool _ => kit_ty (a := "bool") (b := "bool") (r := true) (by decide +kernel)
  | .int _ => kit_ty (a := "int") (b := "bool") (r := false) (by decide +kernel)
  | .str _ => kit_ty (a := "str") (b := "bool") (r := false) (by decide +kernel)
  | .list _ => kit_ty (a := "list") (b := "bool") (r := false) (by decide +kernel)
  | .tuple _ => kit_ty (a := "tuple") (b := "bool") (r := false) (by decide +kernel)
  | .dict _ => kit_ty (a := "dict") (b := "bool") (r := false) (by decide +kernel)
theorem kit_t {K : PySem.W.Frag} : ∀ d : PyData, PySem.W.kitOne K (.type (tyN d)) (.type "tuple") = some (isTup d)
  | .none => kit_ty (a := "NoneType") (b := "tuple") (r := false) (by decide +kernel)
  | .bool _ => kit_ty (a := "bool") (b := "tuple") (r := false) (by decide +kernel)
  | .int _ => kit_ty (a := "int") (b := "tuple") (r := false) (by decide +kernel)
  | .str _ => kit_ty (a := "str") (b := "tuple") (r := false) (by decide +kernel)
  | .list _ => kit_ty (a := "list") (b := "tuple") (r := false) (by decide +kernel)
  | .tuple _ => kit_ty (a := "tuple") (b := "tuple") (r := true) (by decide +kernel)
  | .dict _ => kit_ty (a := "dict") (b := "tuple") (r := false) (by decide +kernel)
theorem kit_l {K : PySem.W.Frag} : ∀ d : PyData, PySem.W.kitOne K (.type (tyN d)) (.type "list") = some (isLst d)
  | .none => kit_ty (a := "NoneType") (b := "list") (r := false) (by decide +kernel)
  | .bool _ => kit_ty (a := "bool") (b := "list") (r := false) (by decide +kernel)
  | .int _ => kit_ty (a := "int") (b := "list") (r := false) (by decide +kernel)
  | .str _ => kit_ty (a := "str") (b := "list") (r := false) (by decide +kernel)
  | .list _ => kit_ty (a := "list") (b := "list") (r := true) (by decide +kernel)
  | .tuple _ => kit_ty (a := "tuple") (b := "list") (r := false) (by decide +kernel)
  | .dict _ => kit_ty (a := "dict") (b := "list") (r := false) (by decide +kernel)
theorem kit_d {K : PySem.W.Frag} : ∀ d : PyData, PySem.W.kitOne K (.type (tyN d)) (.type "dict") = some (isDic d)
  | .none => kit_ty (a := "NoneType") (b := "dict") (r := false) (by decide +kernel)
  | .bool _ => kit_ty (a := "bool") (b := "dict") (r := false) (by decide +kernel)
  | .int _ => kit_ty (a := "int") (b := "dict") (r := false) (by decide +kernel)
  | .str _ => kit_ty (a := "str") (b := "dict") (r := false) (by decide +kernel)
  | .list _ => kit_ty (a := "list") (b := "dict") (r := false) (by decide +kernel)
  | .tuple _ => kit_ty (a := "tuple") (b := "dict") (r := false) (by decide +kernel)
  | .dict _ => kit_ty (a := "dict") (b := "dict") (r := true) (by decide +kernel)
def isS : PyData → Bool
  | .str _ => true
  | _ => false
theorem kit_s {K : PySem.W.Frag} : ∀ d : PyData, PySem.W.kitOne K (.type (tyN d)) (.type "str") = some (isS d)
  | .none => kit_ty (a := "NoneType") (b := "str") (r := false) (by decide +kernel)
  | .bool _ => kit_ty (a := "bool") (b := "str") (r := false) (by decide +kernel)
  | .int _ => kit_ty (a := "int") (b := "str") (r := false) (by decide +kernel)
  | .str _ => kit_ty (a := "str") (b := "str") (r := true) (by decide +kernel)
  | .list _ => kit_ty (a := "list") (b := "str") (r := false) (by decide +kernel)
  | .tuple _ => kit_ty (a := "tuple") (b := "str") (r := false) (by decide +kernel)
  | .dict _ => kit_ty (a := "dict") (b := "str") (r := false) (by decide +kernel)
/-- isinstance(x, int), by name -/
theorem pt_isi {X : Cx} {y : Str} {py : Pos} {te : TE} {n : Str} {p q pos : Pos} (T : String) (he : PE X (.Name y py) te) (hg : Gl X "isinstance" := by rfl) (hm : X.mg "isinstance" = none) (gn : Gl X n := by rfl) (mn : X.mg n = none) (hv : bootBuiltins n = some (.type T) := by decide +kernel)
    (hn : n ≠ "__name__" := by decide) (hd : (n == ("__debug__" : Str)) = false := by decide) :
    PE X (.Call (.Name "isinstance" p) [.Name y py, .Name n q] [] pos) (tCB (rIsi X.K) (tCons te (tCons (tC (.ty T)) tNil))) :=
  pe_callB call_isi hg hm (by decide +kernel) (pa_cons he (pa_cons (pe_bltn gn mn hv rfl hn hd) pa_nil))

end G
set_option Elab.async false
set_option linter.all false
set_option maxRecDepth 100000
set_option maxHeartbeats 2000000
/-! W1: checks that pass. -/
namespace G
open PySem PySem.Spec PyProof.Rows L2 NdefX
abbrev sIsInt : Stmt := topS 13
abbrev sIsName : Stmt := topS 14
abbrev sNeedName : Stmt := topS 18
abbrev sIsValue : Stmt := topS 15
abbrev sNeedValue : Stmt := topS 19
abbrev sNeedRecord : Stmt := topS 20
theorem scIsInt : FnScope ["value", "low", "high"] ["value", "low", "high"] (defScope sIsInt) := ⟨rfl, rfl, rfl, by decide +kernel, rfl, by decide +kernel, by decide +kernel⟩
theorem scIsName : FnScope ["value", "letter"] ["value"] (defScope sIsName) := ⟨rfl, rfl, rfl, by decide +kernel, rfl, by decide +kernel, by decide +kernel⟩
theorem scNeedName : FnScope ["value"] ["value"] (defScope sNeedName) := ⟨rfl, rfl, rfl, by decide +kernel, rfl, by decide +kernel, by decide +kernel⟩
theorem scIsValue : FnScope ["value", "field"] ["value"] (defScope sIsValue) := ⟨rfl, rfl, rfl, by decide +kernel, rfl, by decide +kernel, by decide +kernel⟩
theorem scNeedValue : FnScope ["value"] ["value"] (defScope sNeedValue) := ⟨rfl, rfl, rfl, by decide +kernel, rfl, by decide +kernel, by decide +kernel⟩
theorem scNeedRecord : FnScope ["key", "value"] ["key", "value"] (defScope sNeedRecord) := ⟨rfl, rfl, rfl, by decide +kernel, rfl, by decide +kernel, by decide +kernel⟩
/-- a record's value, of some names -/
structure ValOk (zs : List Str) (kvs : List (Key × V)) : Prop where
  nm : ∀ z ∈ zs, NameZ z
  is : ValN zs kvs
  pos : 1 ≤ kvs.length
  six : kvs.length ≤ 6
theorem valV_of {zs : List Str} {kvs : List (Key × V)} (h : ValN zs kvs) {i : Nat} {k : Key} {v : V} (e : kvs[i]? = some (k, v)) : ∃ (z : Str) (n : Int), k = Sum.inr z ∧ z ∈ zs ∧ valV kvs k = some (.int n) ∧ -999 ≤ n ∧ n ≤ 999 := by
  have hm := List.mem_of_getElem? e
  obtain ⟨z, j, ez, hz, _, _⟩ := h _ hm
  obtain ⟨rfl, _⟩ := Prod.mk.inj ez
  cases q : valV kvs (Sum.inr z) with
  | none =>
    exfalso
    have h2 : (kvs.find? fun kv => decide (kv.1 = (Sum.inr z : Key))) = none := by
      have : Option.map (fun p : Key × V => p.2) (kvs.find? fun kv => decide (kv.1 = (Sum.inr z : Key))) = none := q
      exact Option.map_eq_none_iff.mp this
    have h3 := List.find?_eq_none.mp h2 _ hm
    exact h3 (decide_eq_true rfl)
  | some x =>
    have h2 : Option.map (fun p : Key × V => p.2) (kvs.find? fun kv => decide (kv.1 = (Sum.inr z : Key))) = some x := q
    obtain ⟨p, hp, rfl⟩ := Option.map_eq_some_iff.mp h2
    obtain ⟨z2, n, ep, _, n1, n2⟩ := h p (List.mem_of_find?_eq_some hp)
    rw [ep]
    exact ⟨z, n, rfl, hz, rfl, n1, n2⟩
def spIsInt : Sp := fun vs H Q _ => ∃ v lo hi : Int, vs = [.int v, .int lo, .int hi] ∧ Q (.bl (decide (lo ≤ v) && decide (v ≤ hi))) H
def spIsName : Sp := fun vs H Q _ => ∃ z : Str, vs = [.str z] ∧ NameZ z ∧ ∀ H', Same H H' → Q (.bl true) H'
def spNeedName : Sp := fun vs H Q _ => ∃ z : Str, vs = [.str z] ∧ NameZ z ∧ ∀ H', Same H H' → Q .non H'
def spIsValue : Sp := fun vs H Q _ => ∃ (d : Addr) (zs : List Str) (kvs : List (Key × V)), vs = [.ref d] ∧ H d = some (.dK kvs) ∧ ValOk zs kvs ∧ ∀ H', Same H H' → Q (.bl true) H'
def spNeedValue : Sp := fun vs H Q _ => ∃ (d : Addr) (zs : List Str) (kvs : List (Key × V)), vs = [.ref d] ∧ H d = some (.dK kvs) ∧ ValOk zs kvs ∧ ∀ H', Same H H' → Q .non H'
def spNeedRecord : Sp := fun vs H Q _ => ∃ (y : Str) (d : Addr) (zs : List Str) (kvs : List (Key × V)), vs = [.str y, .ref d] ∧ NameZ y ∧ H d = some (.dK kvs) ∧ ValOk zs kvs ∧ ∀ H', Same H H' → Q .non H'
section
variable {P : Program} {w : World} {K : PySem.W.Frag} {mg : Str → Option Value} {base : Heap}
theorem ok_isint {f : Addr} {fd : FuncData} (F : Fun K "is_integer" "is_integer" sIsInt f fd) (mi : mg "isinstance" = none) (mn : mg "int" = none) (mb : mg "bool" = none) : FnOk P w K mg base CX0 1 f fd ["value", "low", "high"] spIsInt := by
  refine F.ok scIsInt (fun vs H Q E h => ?_) (fun cdv A outer s H vs Q E hr h => ?_)
  · obtain ⟨v, lo, hi, rfl, _⟩ := h
    rfl
  · obtain ⟨v, lo, hi, rfl, q⟩ := h
    refine ⟨_, pss_cons (ps_if (PW.pt (pw_or (pt_not (pt_val (pt_isi "int" (pv 0) (hm := mi) (mn := mn)))) (pw_or1 (pt_val (pt_isi "bool" (pv 0) (hm := mi) (mn := mb)))))) (pss_one (ps_ret pe_bl)) pss_nil)
      (pss_one (ps_ret (pe_chain op_le op_le (pv 1) (pv 0) (pv 2)))), ?_⟩
    have hR : Rp K H (.int v) (.int v) := .int v
    refine ⟨_, rfl, _, _, _, _, _, rfl, .ty _, rp_ty hR, kit_i (.int v), _, rfl, iteF ?_⟩
    refine ⟨_, rfl, _, _, _, _, _, rfl, .ty _, rp_ty hR, kit_b (.int v), _, rfl, iteF ?_⟩
    refine ⟨_, rfl, _, rfl, _, _, rfl, rfl, _, rfl, ?_⟩
    cases e : decide (lo ≤ v) with
    | false =>
      refine iteF ?_
      rw [e] at q
      exact q
    | true =>
      refine iteT ?_
      rw [e] at q
      exact ⟨_, rfl, _, _, rfl, rfl, q⟩
theorem ok_isname {f : Addr} {fd : FuncData} {t1 t2 : Tok} (F : Fun K "is_name" "is_name" sIsName f fd) (gM : mg "MOST_LETTERS" = some (.int 8 t1)) (gL : mg "LETTERS" = some (.str abc t2)) (mi : mg "isinstance" = none) (ms : mg "str" = none) (ml : mg "len" = none) (ma : mg "all" = none) :
    FnOk P w K mg base CX0 1 f fd ["value"] spIsName := by
  refine F.ok scIsName (fun vs H Q E h => ?_) (fun cdv A outer s H vs Q E hr h => ?_)
  · obtain ⟨z, rfl, _⟩ := h
    rfl
  · obtain ⟨z, rfl, ⟨hz, h1, h8⟩, q⟩ := h
    refine ⟨_, pss_cons (ps_if (PW.pt (pw_or (pt_not (pt_val (pt_isi "str" (pv 0) (hm := mi) (mn := ms)))) (pw_or1 (pt_not (pt_chain op_le op_le pe_int (pe_callB call_len_str (by rfl) ml PySem.boot_len (pa_cons (pv 0) pa_nil)) (pe_glob (v := .int 8) rfl gM ⟨_, rfl⟩))))))
        (pss_one (ps_ret pe_bl)) pss_nil)
      (pss_one (ps_ret (pe_callB (cr_all rfl) (by rfl) ma (by decide +kernel) (pa_cons (pe_lc (own := [("letter", 1)]) (g := gName 1) (tt := tYes) (by rfl) scIsName.nd (pi_str (pv 0))
        (blkOk_by (own := [("letter", 1)]) (N := ["value", "letter"]) (sc := defScope sIsName) (by decide +kernel)) (fun _ _ _ _ _ => pg_name (i := 1) scIsName.nd rfl (.inl rfl)) (fun _ _ _ _ _ => pts_nil)
        (fun _ _ _ _ _ => pe_cmpR op_in_sign (pv 1) (pe_glob (v := .str abc) rfl gL ⟨_, rfl⟩) (by rfl))) pa_nil)))), ?_⟩
    have hR : Rp K H (.str z) (.str z) := .str z
    refine ⟨_, rfl, _, _, _, _, _, rfl, .ty _, rp_ty hR, kit_s (.str z), _, rfl, iteF ?_⟩
    refine ⟨_, rfl, z, rfl, small_size (by omega), _, _, rfl, rfl, _, rfl, ?_⟩
    rw [decide_eq_true (show (1 : Int) ≤ (z.length : Int) by omega)]
    refine iteT ⟨_, _, rfl, rfl, _, rfl, ?_⟩
    rw [decide_eq_true (show (z.length : Int) ≤ 8 by omega)]
    refine iteF ?_
    refine ⟨_, rfl, z, rfl, fun D hD => ?_⟩
    refine lc_it walk_str (fun i H2 => Same H H2 ∧ H2 D = some (.lst ((List.replicate i true).map V.bl))) ?_ ?_ ?_ ?_
    · exact ⟨Same.new hD, upd_same⟩
    · exact fun _ _ _ _ => trivial
    · rintro i x H2 H3 hi ⟨s2, e2⟩ ⟨rfl, c, hc, rfl⟩
      have hc2 : (cs z)[i]? = some c := by
        rw [← hc, ← Array.getElem?_toList]
      have hzs : z.cps.size = z.length := rfl
      have c97 := hz c (List.mem_of_getElem? hc2)
      refine ⟨rfl, ?_⟩
      unfold tYes
      dsimp only
      rw [if_pos rfl]
      refine ⟨_, rfl, c, _, rfl, rfl, _, e2, ?_, fun a o e => ?_, ?_⟩
      · rw [List.length_map, List.length_replicate]
        exact Nat.lt_of_lt_of_le hi (small_size (by omega))
      · rw [upd_ne (ne_of_none e hD)]
        exact s2 _ _ e
      · have hin : decide (c ∈ abc.cps.toList) = true := decide_eq_true (by
          have e : abc.cps.toList = (List.range 26).map (97 + ·) := by decide +kernel
          rw [e]
          exact List.mem_map.mpr ⟨c - 97, List.mem_range.mpr (by omega), by omega⟩)
        rw [upd_same, hin, List.replicate_succ', List.map_append]
        rfl
    · rintro H2 ⟨s2, e2⟩
      refine ⟨D, _, rfl, .of e2, ?_⟩
      have ha : (List.replicate z.cps.size true).all id = true := by
        rw [List.all_eq_true]
        intro x hx
        rw [(List.mem_replicate.mp hx).2]
        rfl
      rw [ha]
      exact q H2 s2
theorem ok_needname {f fI : Addr} {fd fdI : FuncData} (F : Fun K "need_name" "need_name" sNeedName f fd) (I : Fun K "is_name" "is_name" sIsName fI fdI) (bI : Binds K fdI ["value"] []) (gI : mg "is_name" = some (.ref fI))
    (GI : FnOk P w K mg base CX0 1 fI fdI ["value"] spIsName) : FnOk P w K mg base CX0 2 f fd ["value"] spNeedName := by
  refine F.ok scNeedName (fun vs H Q E h => ?_) (fun cdv A outer s H vs Q E hr h => ?_)
  · obtain ⟨z, rfl, _⟩ := h
    rfl
  · obtain ⟨z, rfl, hz, q⟩ := h
    refine ⟨_, pss_one (ps_if (pt_not (pt_val (pe_call GI hr rfl gI I.kp bI .nil pass0 (pa_cons (pv 0) pa_nil)))) (pss_one ps_never) pss_nil), ?_⟩
    exact ⟨_, rfl, z, rfl, hz, fun H' s' => ⟨_, rfl, iteF (q H' s')⟩⟩
theorem ok_isvalue {f fN fI : Addr} {fd fdN fdI : FuncData} {t1 t2 : Tok} (F : Fun K "is_value" "is_value" sIsValue f fd) (N : Fun K "is_name" "is_name" sIsName fN fdN) (bN : Binds K fdN ["value"] []) (gN : mg "is_name" = some (.ref fN))
    (GN : FnOk P w K mg base CX0 1 fN fdN ["value"] spIsName) (I : Fun K "is_integer" "is_integer" sIsInt fI fdI) (bI : Binds K fdI ["value", "low", "high"] []) (gI : mg "is_integer" = some (.ref fI)) (GI : FnOk P w K mg base CX0 1 fI fdI ["value", "low", "high"] spIsInt)
    (gM : mg "MOST_FIELDS" = some (.int 6 t1)) (gG : mg "GREATEST" = some (.int 999 t2)) (mi : mg "isinstance" = none) (md : mg "dict" = none) (ml : mg "len" = none) (ma : mg "all" = none) :
    FnOk P w K mg base CX0 2 f fd ["value"] spIsValue := by
  refine F.ok scIsValue (fun vs H Q E h => ?_) (fun cdv A outer s H vs Q E hr h => ?_)
  · obtain ⟨d, zs, kvs, rfl, _⟩ := h
    rfl
  · obtain ⟨d, zs, kvs, rfl, hd, hv, q⟩ := h
    have hu := hu_of hr
    refine ⟨_, pss_cons (ps_if (PW.pt (pw_or (pt_not (pt_val (pt_isi "dict" (pv 0) (hm := mi) (mn := md)))) (pw_or1 (pt_not (pt_chain op_le op_le pe_int (pe_callB call_lenD (by rfl) ml PySem.boot_len (pa_cons (pv 0) pa_nil)) (pe_glob (v := .int 6) rfl gM ⟨_, rfl⟩))))))
        (pss_one (ps_ret pe_bl)) pss_nil)
      (pss_one (ps_ret (pe_callB (cr_all rfl) (by rfl) ma (by decide +kernel) (pa_cons (pe_lock (pe_lc (own := [("field", 1)]) (g := gName 1) (tt := tYes) (by rfl) scIsValue.nd (pi_keys (pv 0))
        (blkOk_by (own := [("field", 1)]) (N := ["value", "field"]) (sc := defScope sIsValue) (by decide +kernel)) (fun _ _ _ _ _ => pg_name (i := 1) scIsValue.nd rfl (.inl rfl)) (fun _ _ _ _ _ => pts_nil)
        (fun _ _ _ _ _ => pe_and (pe_call GN hr rfl gN N.kp bN .nil pass0 (pa_cons (pv 1) pa_nil)) (pe_one (pe_call GI hr rfl gI I.kp bI .nil pass0 (pa_cons (pe_dget hu (pv 0) (pv 1) (fun _ _ => rfl))
          (pa_cons (pe_un un_neg (pe_glob (v := .int 999) rfl gG ⟨_, rfl⟩)) (pa_cons (pe_glob (v := .int 999) rfl gG ⟨_, rfl⟩) pa_nil)))))))) pa_nil)))), ?_⟩
    refine ⟨_, rfl, _, _, _, _, _, rfl, .ty _, .base (.dK hd), kit_ty (a := "dict") (b := "dict") (r := true) (by decide +kernel), _, rfl, iteF ?_⟩
    refine ⟨_, rfl, d, kvs, rfl, hd, ?_⟩
    have h1 := hv.pos
    have h6 := hv.six
    refine ⟨_, _, rfl, rfl, _, rfl, ?_⟩
    rw [decide_eq_true (show (1 : Int) ≤ (kvs.length : Int) by omega)]
    refine iteT ⟨_, _, rfl, rfl, _, rfl, ?_⟩
    rw [decide_eq_true (show (kvs.length : Int) ≤ 6 by omega)]
    refine iteF ?_
    refine ⟨d, _, hd, trivial, fun od => ?_⟩
    refine ⟨_, rfl, d, od, rfl, .inl ⟨kvs, upd_same, fun D hD => ?_⟩⟩
    have ndD : d ≠ D := fun z => by
      rw [← z, upd_same] at hD
      cases hD
    have fD : H D = none := (upd_ne ndD.symm).symm.trans hD
    refine lc_it walk_keys (fun i H2 => But d H H2 ∧ H2 d = some (.frz od (.dK kvs)) ∧ H2 D = some (.lst ((List.replicate i true).map V.bl))) ?_ ?_ ?_ ?_
    · exact ⟨but_upd But.upd fD, (upd_ne ndD).trans upd_same, upd_same⟩
    · exact fun _ _ _ h => h.2.1
    · rintro i x H2 H3 hi ⟨b2, d2, e2⟩ ⟨rfl, k, v, hk, rfl⟩
      obtain ⟨z, n, rfl, hz, hn, n1, n2⟩ := valV_of hv.is hk
      refine ⟨rfl, ?_⟩
      unfold tYes
      dsimp only
      rw [if_pos rfl]
      refine ⟨_, rfl, z, rfl, hv.nm z hz, fun H4 s4 => ⟨_, rfl, iteT ?_⟩⟩
      have d4 := s4 _ _ d2
      have e4 := s4 _ _ e2
      refine ⟨_, rfl, _, rfl, d, .int n, rfl, .inl ⟨kvs, Sum.inr z, .inr ⟨od, d4⟩, rfl, hn.symm⟩, _, rfl, n, -999, 999, rfl, ?_⟩
      rw [decide_eq_true n1, decide_eq_true n2]
      refine ⟨_, e4, ?_, ?_, ?_, ?_⟩
      · rw [List.length_map, List.length_replicate]
        exact small1000 (by omega)
      · exact but_upd (b2.trans (But.same s4)) fD
      · exact (upd_ne ndD).trans d4
      · rw [upd_same, List.replicate_succ', List.map_append]
        rfl
    · rintro H2 ⟨b2, d2, e2⟩
      refine ⟨d2, D, _, rfl, .of ((upd_ne ndD.symm).trans e2), ?_⟩
      have ha : (List.replicate kvs.length true).all id = true := by
        rw [List.all_eq_true]
        intro x hx
        rw [(List.mem_replicate.mp hx).2]
        rfl
      rw [ha]
      refine q _ fun c o e => ?_
      by_cases hc : c = d
      · rw [hc] at e ⊢
        rw [hd] at e
        rw [← e]
        exact upd_same
      · rw [upd_ne hc]
        exact b2 c o hc e
theorem ok_needvalue {f fI : Addr} {fd fdI : FuncData} (F : Fun K "need_value" "need_value" sNeedValue f fd) (I : Fun K "is_value" "is_value" sIsValue fI fdI) (bI : Binds K fdI ["value"] []) (gI : mg "is_value" = some (.ref fI))
    (GI : FnOk P w K mg base CX0 2 fI fdI ["value"] spIsValue) : FnOk P w K mg base CX0 3 f fd ["value"] spNeedValue := by
  refine F.ok scNeedValue (fun vs H Q E h => ?_) (fun cdv A outer s H vs Q E hr h => ?_)
  · obtain ⟨d, zs, kvs, rfl, _⟩ := h
    rfl
  · obtain ⟨d, zs, kvs, rfl, hd, hv, q⟩ := h
    refine ⟨_, pss_one (ps_if (pt_not (pt_val (pe_call GI hr rfl gI I.kp bI .nil pass0 (pa_cons (pv 0) pa_nil)))) (pss_one ps_never) pss_nil), ?_⟩
    exact ⟨_, rfl, d, zs, kvs, rfl, hd, hv, fun H' s' => ⟨_, rfl, iteF (q H' s')⟩⟩
theorem ok_needrecord {f fN fV : Addr} {fd fdN fdV : FuncData} (F : Fun K "need_record" "need_record" sNeedRecord f fd) (kN : PySem.W.keepIn K (.ref fN) = true) (bN : Binds K fdN ["value"] []) (gN : mg "need_name" = some (.ref fN)) (GN : FnOk P w K mg base CX0 2 fN fdN ["value"] spNeedName)
    (kV : PySem.W.keepIn K (.ref fV) = true) (bV : Binds K fdV ["value"] []) (gV : mg "need_value" = some (.ref fV)) (GV : FnOk P w K mg base CX0 3 fV fdV ["value"] spNeedValue) : FnOk P w K mg base CX0 4 f fd ["key", "value"] spNeedRecord := by
  refine F.ok scNeedRecord (fun vs H Q E h => ?_) (fun cdv A outer s H vs Q E hr h => ?_)
  · obtain ⟨y, d, zs, kvs, rfl, _⟩ := h
    rfl
  · obtain ⟨y, d, zs, kvs, rfl, hy, hd, hv, q⟩ := h
    refine ⟨_, pss_cons (ps_expr (pe_call GN (hr.mono (by decide)) rfl gN kN bN .nil pass0 (pa_cons (pv 0) pa_nil))) (pss_one (ps_expr (pe_call GV hr rfl gV kV bV .nil pass0 (pa_cons (pv 1) pa_nil)))), ?_⟩
    exact ⟨_, rfl, y, rfl, hy, fun H1 s1 => ⟨_, rfl, d, zs, kvs, rfl, s1 _ _ hd, hv, fun H2 s2 => q H2 (s1.trans s2)⟩⟩
end
end G
set_option Elab.async false
set_option linter.all false
set_option maxRecDepth 100000
set_option maxHeartbeats 2000000
/-! W2: fields with signs; what they answer. -/
namespace G
open PySem PySem.Spec PyProof.Rows L2 NdefX
theorem cs_inj {a b : Str} (h : cs a = cs b) : a = b := by
  obtain ⟨x⟩ := a
  obtain ⟨y⟩ := b
  have e : x = y := Array.toList_inj.mp h
  rw [e]
def cutSign (l : List Nat) : List Nat := if l.head? = some 45 then l.drop 1 else l
theorem cs_prefix (z : Str) : cs (Txt.removeprefix z "-") = cutSign (cs z) := by
  have hl := cs_len z
  rw [StrLaws.removeprefix_eq]
  unfold cutSign
  by_cases h : (cs z).head? = some 45
  · rw [if_pos h]
    obtain ⟨q, hq⟩ : ∃ q, cs z = 45 :: q := by
      cases hz : cs z with
      | nil =>
        rw [hz] at h
        cases h
      | cons x q =>
        rw [hz] at h
        exact ⟨q, by rw [Option.some.inj h]⟩
    have hA : StrLaws.At z ⟨#[45]⟩ z.length 0 := (StrLaws.subAt_one z 45 0).mpr (by rw [show z.cps.toList = 45 :: q from hq]; rfl)
    have e1 : (decide (0 + ("-" : Str).length ≤ z.length) && Builtin.Str.subAt z "-" 0) = true := by
      have e2 : Builtin.Str.subAt z "-" 0 = true := hA.2
      rw [e2, decide_eq_true (show 0 + ("-" : Str).length ≤ z.length from hA.1)]
      rfl
    rw [if_pos e1]
    show ((cs z).drop 1).take (z.length - 1) = (cs z).drop 1
    exact List.take_of_length_le (by rw [List.length_drop, hl]; exact Nat.le_refl _)
  · rw [if_neg h]
    rw [if_neg]
    intro e
    rw [Bool.and_eq_true, decide_eq_true_eq] at e
    have hA : StrLaws.At z ⟨#[45]⟩ z.length 0 := ⟨e.1, e.2⟩
    have := (StrLaws.subAt_one z 45 0).mp hA
    apply h
    rw [List.head?_eq_getElem?]
    exact this
/-- a field as it is passed: with a sign or without one, its name, its text -/
structure Fld where
  neg : Bool
  nm : Str
  tx : Str
def Fld.Ok (f : Fld) : Prop := NameZ f.nm ∧ cs f.tx = (if f.neg then [45] else []) ++ cs f.nm
theorem name_cons {y : Str} (h : NameZ y) : ∃ c l, cs y = c :: l ∧ 97 ≤ c ∧ c ≤ 122 := by
  obtain ⟨low, h1, _⟩ := h
  cases e : cs y with
  | nil =>
    have := cs_len y
    rw [e] at this
    simp at this
    omega
  | cons c l =>
    obtain ⟨a, b⟩ := low c (by rw [e]; exact List.mem_cons_self)
    exact ⟨c, l, rfl, a, b⟩
section
variable {f : Fld}
theorem Fld.Ok.len (h : f.Ok) : f.tx.length ≤ 9 := by
  have e := congrArg List.length h.2
  rw [cs_len, List.length_append, cs_len] at e
  have h8 := h.1.2.2
  have : (if f.neg then [45] else [] : List Nat).length ≤ 1 := by
    cases f.neg <;> decide
  omega
theorem Fld.Ok.bare (h : f.Ok) : Txt.removeprefix f.tx "-" = f.nm := by
  apply cs_inj
  rw [cs_prefix, h.2]
  obtain ⟨c, l, e, c1, c2⟩ := name_cons h.1
  rw [e]
  cases f.neg with
  | true => rfl
  | false =>
    show cutSign (c :: l) = c :: l
    unfold cutSign
    rw [if_neg (fun z => by have := Option.some.inj z; omega)]
theorem minus_goes (c : Nat) : ("-" : Str).cps.contains c = decide (c = 45) := by
  have e : ("-" : Str).cps = #[45] := by decide +kernel
  rw [e]
  by_cases h : c = 45
  · subst h
    decide +kernel
  · rw [decide_eq_false h]
    simp [h]
theorem Fld.Ok.strip (h : f.Ok) : Txt.lstripChars f.tx "-" = f.nm := by
  obtain ⟨c, l, e, c1, c2⟩ := name_cons h.1
  have hg : ("-" : Str).cps.contains c = false := by
    rw [minus_goes]
    exact decide_eq_false (by omega)
  have hlo : stripLo ("-" : Str).cps.contains true f.tx = (if f.neg then 1 else 0) := by
    show ((cs f.tx).takeWhile ("-" : Str).cps.contains).length = _
    rw [h.2, e]
    cases f.neg with
    | true =>
      show ((45 :: c :: l).takeWhile _).length = 1
      rw [List.takeWhile_cons_of_pos (by rw [minus_goes]; rfl), List.takeWhile_cons_of_neg (by rw [hg]; decide)]
      rfl
    | false =>
      show ((c :: l).takeWhile _).length = 0
      rw [List.takeWhile_cons_of_neg (by rw [hg]; decide)]
      rfl
  have hl := cs_len f.tx
  apply cs_inj
  unfold Txt.lstripChars Txt.stripBy stripSame
  rw [hlo]
  have e2 := h.2
  cases hn : f.neg with
  | true =>
    rw [hn] at hlo e2
    rw [if_neg (by simp)]
    unfold stripped
    rw [hlo]
    show (Builtin.Str.strSub f.tx 1 f.tx.length).cps.toList = _
    rw [StrLaws.strSub_toList]
    show ((cs f.tx).drop 1).take (f.tx.length - 1) = _
    rw [List.take_of_length_le (by rw [List.length_drop, hl]; exact Nat.le_refl _), e2]
    rfl
  | false =>
    rw [hn] at e2
    rw [if_pos (by show (decide _ && _) = true; simp [stripHi])]
    rw [e2]
    rfl
/-- the first sign -/
theorem Fld.Ok.first (h : f.Ok) : ∃ c, atI f.tx.cps.toList 0 = some c ∧ decide ((V.str ⟨#[c]⟩ : V) = V.str "-") = f.neg := by
  obtain ⟨c, l, e, c1, c2⟩ := name_cons h.1
  have e2 := h.2
  cases hn : f.neg with
  | true =>
    rw [hn] at e2
    exact ⟨45, atI_nat (j := 0) (by show (cs f.tx)[0]? = _; rw [e2]; rfl), by decide +kernel⟩
  | false =>
    rw [hn] at e2
    refine ⟨c, atI_nat (j := 0) (by show (cs f.tx)[0]? = _; rw [e2, e]; rfl), decide_eq_false fun z => ?_⟩
    have z1 := congrArg cs (V.str.inj z)
    have z2 : cs ("-" : Str) = [45] := by decide +kernel
    rw [z2] at z1
    have z3 : [c] = [45] := z1
    simp at z3
    omega
end
/-- the number of a field in a value -/
def numK (kvs : List (Key × V)) (y : Str) : Int := match valV kvs (Sum.inr y) with
  | some (.int n) => n
  | _ => -1000
def Fld.ans (f : Fld) (kvs : List (Key × V)) : Int := if f.neg then -(numK kvs f.nm) else numK kvs f.nm
theorem valN_get {zs : List Str} {kvs : List (Key × V)} (h : ValN zs kvs) (y : Str) : (valV kvs (Sum.inr y)).getD (.int (-1000)) = .int (numK kvs y) ∧ -1000 ≤ numK kvs y ∧ numK kvs y ≤ 999 := by
  unfold numK
  cases e : valV kvs (Sum.inr y) with
  | none => exact ⟨rfl, by decide, by decide⟩
  | some v =>
    have h2 : Option.map (fun p : Key × V => p.2) (kvs.find? fun kv => decide (kv.1 = (Sum.inr y : Key))) = some v := e
    obtain ⟨p, hp, rfl⟩ := Option.map_eq_some_iff.mp h2
    obtain ⟨z, n, ep, _, n1, n2⟩ := h p (List.mem_of_find?_eq_some hp)
    rw [ep]
    exact ⟨rfl, by show -1000 ≤ n; omega, n2⟩
theorem Fld.ans_bound (f : Fld) {zs : List Str} {kvs : List (Key × V)} (h : ValN zs kvs) : -1000 ≤ f.ans kvs ∧ f.ans kvs ≤ 1000 := by
  obtain ⟨_, h1, h2⟩ := valN_get h f.nm
  unfold Fld.ans
  split <;> omega
end G
set_option Elab.async false
set_option linter.all false
set_option maxRecDepth 100000
set_option maxHeartbeats 2000000
/-! W3: an order's defs. -/
namespace G
open PySem PySem.Spec PyProof.Rows L2 NdefX StX
abbrev sSigned : Stmt := topS 25
abbrev sNegative : Stmt := topS 26
abbrev sNumberFor : Stmt := topS 28
abbrev sBy (j : Nat) : Stmt := inClass (topS 24) j
abbrev nByI : List Str := ["self", "fields", "field"]
theorem scSigned : FnScope ["value"] ["value"] (defScope sSigned) := ⟨rfl, rfl, rfl, by decide +kernel, rfl, by decide +kernel, by decide +kernel⟩
theorem scNegative : FnScope ["field"] ["field"] (defScope sNegative) := ⟨rfl, rfl, rfl, by decide +kernel, rfl, by decide +kernel, by decide +kernel⟩
theorem scNumberFor : FnScope ["field", "value", "number"] ["field", "value"] (defScope sNumberFor) := ⟨rfl, rfl, rfl, by decide +kernel, rfl, by decide +kernel, by decide +kernel⟩
theorem scByI : FnScope nByI ([("self" : Str)] ++ [("fields" : Str)]) (defScope (sBy 0)) := ⟨rfl, rfl, rfl, by decide +kernel, rfl, by decide +kernel, by decide +kernel⟩
theorem scByF : FnScope ["self"] ["self"] (defScope (sBy 1)) := ⟨rfl, rfl, rfl, by decide +kernel, rfl, by decide +kernel, by decide +kernel⟩
theorem scByC : FnScope ["self", "key", "value"] ["self", "key", "value"] (defScope (sBy 2)) := ⟨rfl, rfl, rfl, by decide +kernel, rfl, by decide +kernel, by decide +kernel⟩
theorem scByA : FnScope ["self", "value", "field"] ["self", "value"] (defScope (sBy 3)) := ⟨rfl, rfl, rfl, by decide +kernel, rfl, by decide +kernel, by decide +kernel⟩
def spSigned : Sp := fun vs H Q _ => ∃ f : Fld, vs = [.str f.tx] ∧ f.Ok ∧ ∀ H', Same H H' → Q (.bl true) H'
def spNegative : Sp := fun vs H Q _ => ∃ f : Fld, vs = [.str f.tx] ∧ f.Ok ∧ Q (.bl f.neg) H
def spNumberFor : Sp := fun vs H Q _ => ∃ (f : Fld) (d : Addr) (zs : List Str) (kvs : List (Key × V)), vs = [.str f.tx, .ref d] ∧ f.Ok ∧ H d = some (.dK kvs) ∧ ValN zs kvs ∧ Q (.int (f.ans kvs)) H
/-- at a stands By(*fs), whose tuple is at t -/
def ByAt (C : Addr) (H : Hp) (a t : Addr) (fs : List Fld) : Prop := ∃ dx, H a = some (.ins C dx [("signed_fields", .ref t)]) ∧ H t = some (.tup (fs.map fun f => V.str f.tx))
theorem ByAt.same {C a t : Addr} {H H' : Hp} {fs : List Fld} (h : ByAt C H a t fs) (s : Same H H') : ByAt C H' a t fs := let ⟨dx, h1, h2⟩ := h; ⟨dx, s _ _ h1, s _ _ h2⟩
def spByI (C : Addr) : Sp := fun vs H Q _ => ∃ (a dx t : Addr) (fs : List Fld), vs = [.ref a, .ref t] ∧ H a = some (.ins C dx []) ∧ H t = some (.tup (fs.map fun f => V.str f.tx)) ∧ 1 ≤ fs.length ∧ fs.length ≤ 3 ∧ (∀ f ∈ fs, f.Ok) ∧
  ∀ H', Same H H' → Q .non (upd H' a (.ins C dx [("signed_fields", .ref t)]))
def spByF (C : Addr) : Sp := fun vs H Q _ => ∃ (a t : Addr) (fs : List Fld), vs = [.ref a] ∧ ByAt C H a t fs ∧ Q (.ref t) H
def spByA (C : Addr) : Sp := fun vs H Q _ => ∃ (a t d : Addr) (fs : List Fld) (zs : List Str) (kvs : List (Key × V)), vs = [.ref a, .ref d] ∧ ByAt C H a t fs ∧ fs.length ≤ 3 ∧ (∀ f ∈ fs, f.Ok) ∧ H d = some (.dK kvs) ∧ ValN zs kvs ∧
  ∀ (p : Addr) (H' : Hp), Same H H' → H p = none → H' p = some (.tup (fs.map fun f => V.int (f.ans kvs))) → Q (.ref p) H'
def spByC (C : Addr) : Sp := fun vs H Q _ => ∃ (a t d : Addr) (y : Str) (fs : List Fld) (zs : List Str) (kvs : List (Key × V)), vs = [.ref a, .str y, .ref d] ∧ ByAt C H a t fs ∧ fs.length ≤ 3 ∧ (∀ f ∈ fs, f.Ok) ∧ NameZ y ∧ H d = some (.dK kvs) ∧ ValOk zs kvs ∧
  ∀ (p : Addr) (H' : Hp), Same H H' → H p = none → H' p = some (.tup (fs.map fun f => V.int (f.ans kvs))) → Q (.ref p) H'
section
variable {P : Program} {w : World} {K : PySem.W.Frag} {mg : Str → Option Value} {base : Heap}
theorem ok_signed {f fN : Addr} {fd fdN : FuncData} (F : Fun K "is_signed_field" "is_signed_field" sSigned f fd) (N : Fun K "is_name" "is_name" sIsName fN fdN) (bN : Binds K fdN ["value"] []) (gN : mg "is_name" = some (.ref fN))
    (GN : FnOk P w K mg base CX0 1 fN fdN ["value"] spIsName) (mi : mg "isinstance" = none) (ms : mg "str" = none) : FnOk P w K mg base CX0 2 f fd ["value"] spSigned := by
  refine F.ok scSigned (fun vs H Q E h => ?_) (fun cdv A outer s H vs Q E hr h => ?_)
  · obtain ⟨z, rfl, _⟩ := h
    rfl
  · obtain ⟨z, rfl, hz, q⟩ := h
    refine ⟨_, pss_one (ps_ret (pe_and (pt_isi "str" (pv 0) (hm := mi) (mn := ms)) (pe_one (pe_call GN hr rfl gN N.kp bN .nil pass0 (pa_cons (pe_m1 PySem.F.slot_str_removeprefix PySem.F.type_str_removeprefix mt_removeprefix (pv 0) pe_str) pa_nil))))), ?_⟩
    refine ⟨_, rfl, _, _, _, _, _, rfl, .ty _, rp_ty (K := K) (.str z.tx), kit_s (.str z.tx), _, rfl, iteT ?_⟩
    have h9 := hz.len
    refine ⟨_, rfl, ⟨_, rfl⟩, z.tx, _, rfl, rfl, small_size (by omega), ?_⟩
    rw [hz.bare]
    exact ⟨z.nm, rfl, hz.1, q⟩
theorem ok_negative {f : Addr} {fd : FuncData} (F : Fun K "is_negative" "is_negative" sNegative f fd) : FnOk P w K mg base CX0 1 f fd ["field"] spNegative := by
  refine F.ok scNegative (fun vs H Q E h => ?_) (fun cdv A outer s H vs Q E hr h => ?_)
  · obtain ⟨z, rfl, _⟩ := h
    rfl
  · obtain ⟨z, rfl, hz, q⟩ := h
    refine ⟨_, pss_one (ps_ret (pe_cmpR op_eq (pe_ix ix_str (pv 0) pe_int (fun _ _ => rfl)) pe_str (nomark _))), ?_⟩
    have h9 := hz.len
    obtain ⟨c, e1, e2⟩ := hz.first
    refine ⟨_, rfl, z.tx, _, c, rfl, rfl, small_size (by omega), e1, rfl, ?_⟩
    rw [e2]
    exact q
theorem ok_numfor {f fN : Addr} {fd fdN : FuncData} {t1 : Tok} (F : Fun K "number_for" "number_for" sNumberFor f fd) (N : Fun K "is_negative" "is_negative" sNegative fN fdN) (bN : Binds K fdN ["field"] []) (gN : mg "is_negative" = some (.ref fN))
    (gM : mg "MISSING" = some (.int (-1000) t1)) : FnOk P w K mg base CX0 2 f fd ["field", "value"] spNumberFor := by
  have GN : FnOk P w K mg base CX0 1 fN fdN ["field"] spNegative := ok_negative N
  refine F.ok scNumberFor (fun vs H Q E h => ?_) (fun cdv A outer s H vs Q E hr h => ?_)
  · obtain ⟨z, d, zs, kvs, rfl, _⟩ := h
    rfl
  · obtain ⟨z, d, zs, kvs, rfl, hz, hd, hv, q⟩ := h
    have hu := hu_of hr
    refine ⟨_, pss_cons (ps_set (i := 2) scNumberFor.nd rfl (.inl rfl) (pe_dget2 hu (pv 1) (pe_m1 PySem.F.slot_str_removeprefix PySem.F.type_str_removeprefix mt_removeprefix (pv 0) pe_str) (pe_glob (v := .int (-1000)) rfl gM ⟨_, rfl⟩) ⟨rfl, rfl, rfl, rfl⟩))
      (pss_one (ps_ret (pe_ifExp (pt_val (pe_call GN hr rfl gN N.kp bN .nil pass0 (pa_cons (pv 0) pa_nil))) (pe_un un_neg (pv 2)) (pv 2)))), ?_⟩
    have h9 := hz.len
    refine ⟨_, rfl, d, rfl, .inl ⟨_, .inl hd⟩, _, rfl, ⟨_, rfl⟩, z.tx, _, rfl, rfl, small_size (by omega), ?_⟩
    rw [hz.bare]
    obtain ⟨n1, n2, n3⟩ := valN_get hv z.nm
    refine ⟨_, DGet.k (k := Sum.inr z.nm) hd, ?_⟩
    rw [n1]
    refine ⟨_, rfl, z, rfl, hz, _, rfl, ?_⟩
    unfold Fld.ans at q
    cases e : z.neg with
    | true =>
      rw [e] at q
      exact iteT ⟨_, rfl, _, rfl, q⟩
    | false =>
      rw [e] at q
      exact iteF ⟨_, rfl, q⟩
end
end G
set_option Elab.async false
set_option linter.all false
set_option maxRecDepth 100000
set_option maxHeartbeats 2000000
/-! W4: an order made and asked. -/
namespace G
open PySem PySem.Spec PyProof.Rows L2 NdefX StX
theorem Fld.Ok.lay {f : Fld} (h : f.Ok) : G.lay (.str f.tx) := by
  refine ⟨rfl, ?_, Nat.zero_le _⟩
  show f.tx.cps.all (· < 0x110000) = true
  rw [Array.all_eq_true]
  intro i hi
  have hm : f.tx.cps[i] ∈ cs f.tx := by simp [cs]
  rw [h.2] at hm
  rcases List.mem_append.mp hm with hm | hm
  · have : f.tx.cps[i] = 45 := by
      cases e : f.neg with
      | true =>
        rw [e] at hm
        exact List.mem_singleton.mp hm
      | false =>
        rw [e] at hm
        cases hm
    exact decide_eq_true (by omega)
  · have := h.1.1 _ hm
    exact decide_eq_true (by omega)
theorem dp_flds {K : PySem.W.Frag} {H : Hp} : ∀ fs : List Fld, DpAll K H (fs.map fun f => V.str f.tx) (fs.map fun f => PyData.str f.tx)
  | [] => .nil
  | f :: fs => .cons (.str f.tx) (dp_flds fs)
theorem sh_flds {fs : List Fld} (h : ∀ f ∈ fs, f.Ok) : SeqAt.shaped (.tuple (fs.map fun f => PyData.str f.tx)) = true := lay_list (ds := fs.map fun f : Fld => PyData.str f.tx) fun d hd => by
  obtain ⟨u, hu, rfl⟩ := List.mem_map.mp hd
  exact (h u hu).lay
section
variable {P : Program} {w : World} {K : PySem.W.Frag} {mg : Str → Option Value} {base : Heap}
abbrev spByR (C : Addr) : Sp := fun vs H Q E => ∃ ws rest, vs = ws ++ rest ∧ ws.length = ["self"].length ∧ rest.length ≤ sizeLine ∧ ∀ p, H p = Option.none → spByI C (ws ++ [V.ref p]) (upd H p (.tup rest)) Q E
theorem ok_byinit {f C fS : Addr} {fd fdS : FuncData} {t1 : Tok} (F : Fun K "__init__" "By.__init__" (sBy 0) f fd) (c : Cls K C) (n1 : NoAttr K C "signed_fields")
    (GS : FnOk P w K mg base CX0 2 fS fdS ["value"] spSigned) (gS : mg "is_signed_field" = some (.ref fS)) (kS : PySem.W.keepIn K (.ref fS) = true) (bS : Binds K fdS ["value"] []) (gM : mg "MOST_IN_ORDER" = some (.int 3 t1)) (ml : mg "len" = none) :
    FnR P w K mg base CX0 3 f (spByR C) := by
  obtain ⟨oc, od, kV, doc, pm, an, cdv, ct, osl, rfl, lk, hcd⟩ := F.ex
  refine fn_star (ps := ["self"]) (pv := "fields") (k := 2) lk hcd scByI cxUp_none (fun us rest hl => match us, rest, hl with | [_], [], _ => rfl | [_], _ :: _, _ => rfl) (fun A outer s H vs Q E hr h => ?_)
  suffices hh : ∃ t, PSs (cxOf CX0 P w K mg base nByI "By.__init__" (defScope (sBy 0)) f cdv A outer s H E).nox (defBody (sBy 0)) t ∧ t { nx := fun _ H' => Q .non H', rt := Q } (start nByI vs) H by
    obtain ⟨t, h1, h2⟩ := hh
    exact ⟨t, h1.nox, h2⟩
  obtain ⟨a, dx, t, fs, rfl, ha, ht, l1, l3, hz, q⟩ := h
  refine ⟨_, pss_cons (ps_if (pt_cmpR (op_eqD hr.units) (pv 1) (pe_tup pa_nil) (nomark _)) (pss_one ps_never) pss_nil)
    (pss_cons (ps_if (pt_cmpR op_gt (pe_callB call_len_seq (by rfl) ml PySem.boot_len (pa_cons (pv 1) pa_nil)) (pe_glob (v := .int 3) rfl gM ⟨_, rfl⟩) (nomark _)) (pss_one ps_never) pss_nil)
    (pss_cons (ps_for PassesOwn.never rfl (pi_tup (pv 1)) (pg_name (i := 2) scByI.nd rfl (.inl rfl)) (pss_one (ps_if (pt_not (pt_val (pe_call GS hr rfl gS kS bS .nil pass0 (pa_cons (pv 2) pa_nil)))) (pss_one ps_never) pss_nil)))
      (pss_one (ps_fld (pv 0) (pv 1) rfl)))), ?_⟩
  refine ⟨_, rfl, (by show 0 ≤ sizeLine; exact Nat.zero_le _), fun p hp => ?_⟩
  have s1 : Same H (upd H p (.tup [])) := Same.new hp
  refine ⟨.tuple (fs.map fun f => PyData.str f.tx), .tuple [], .tup (.of (s1 _ _ ht)) (dp_flds fs), .tup (.of upd_same) .nil, sh_flds hz, rfl, _, rfl, ?_⟩
  have en : PyData.eqv (.tuple (fs.map fun f => PyData.str f.tx)) (.tuple []) = false := by
    cases fs with
    | nil => cases l1
    | cons f r => simp [PyData.eqv, PyData.eqvAll]
  rw [en]
  refine iteF ?_
  generalize upd H p (.tup []) = H1 at s1 ⊢
  have ht1 := s1 _ _ ht
  refine ⟨_, rfl, t, _, rfl, .inr (.of ht1), _, _, rfl, rfl, _, rfl, ?_⟩
  rw [List.length_map, decide_eq_false (show ¬ ((fs.length : Int) > 3) by omega)]
  refine iteF ⟨_, rfl, t, rfl, ⟨_, .of ht1⟩, ?_⟩
  refine for_tup (xs := fs.map fun f => V.str f.tx) (fun i σ H2 => ∃ x2 : Option V, σ = [some (.ref a), some (.ref t), x2] ∧ Same H H2) ?_ ?_ ?_ ?_
  · exact ⟨none, rfl, s1⟩
  · rintro i σ H2 _ ⟨x2, rfl, s2⟩
    exact .of (s2 _ _ ht)
  · rintro i x σ H2 hx ⟨x2, rfl, s2⟩
    rw [List.getElem?_map] at hx
    obtain ⟨y, hy, rfl⟩ := Option.map_eq_some_iff.mp hx
    exact ⟨_, rfl, y, rfl, hz y (List.mem_of_getElem? hy), fun H3 s3 => ⟨_, rfl, iteF ⟨_, rfl, s2.trans s3⟩⟩⟩
  · rintro σ H2 ⟨x2, rfl, s2⟩
    exact ⟨_, rfl, _, rfl, a, C, dx, _, rfl, s2 _ _ ha, c, n1, (by show 0 < 1000; decide), q H2 s2⟩
theorem ok_byfields {f C : Addr} {fd : FuncData} (F : Fun K "fields" "By.fields" (sBy 1) f fd) (c : Cls K C) (n : NoAttr K C "signed_fields") : FnOk P w K mg base CX0 1 f fd ["self"] (spByF C) := by
  refine F.ok scByF (fun vs H Q E h => ?_) (fun cdv A outer s H vs Q E hr h => ?_)
  · obtain ⟨a, t, zs, rfl, _⟩ := h
    rfl
  · obtain ⟨a, t, zs, rfl, ⟨dx, ha, _⟩, q⟩ := h
    exact ⟨_, pss_one (ps_ret (pe_fld (pv 0) rfl)), _, rfl, a, C, dx, _, _, rfl, ha, c, n, rfl, q⟩
theorem ok_byans {f C fN : Addr} {fd fdN : FuncData} (F : Fun K "answer_for" "By.answer_for" (sBy 3) f fd) (c : Cls K C) (n : NoAttr K C "signed_fields")
    (GN : FnOk P w K mg base CX0 2 fN fdN ["field", "value"] spNumberFor) (gN : mg "number_for" = some (.ref fN)) (kN : PySem.W.keepIn K (.ref fN) = true) (bN : Binds K fdN ["field", "value"] []) (mT : mg "tuple" = none) :
    FnOk P w K mg base CX0 3 f fd ["self", "value"] (spByA C) := by
  refine F.ok scByA (fun vs H Q E h => ?_) (fun cdv A outer s H vs Q E hr h => ?_)
  · obtain ⟨a, t, d, fs, zs, kvs, rfl, _⟩ := h
    rfl
  · obtain ⟨a, t, d, fs, zs, kvs, rfl, ⟨dx, ha, ht⟩, l3, hz, hd, hv, q⟩ := h
    refine ⟨_, pss_one (ps_ret (pe_callTy call_tuple_of (by rfl) mT (by decide +kernel) (pa_cons (pe_lc (own := [("field", 2)]) (g := gName 2) (tt := tYes) (by rfl) scByA.nd (pi_tup (pe_fld (pv 0) rfl))
      (blkOk_by (own := [("field", 2)]) (N := ["self", "value", "field"]) (sc := defScope (sBy 3)) (by decide +kernel)) (fun _ _ _ _ _ => pg_name (i := 2) scByA.nd rfl (.inl rfl)) (fun _ _ _ _ _ => pts_nil)
      (fun _ _ _ _ _ => pe_call GN hr rfl gN kN bN .nil pass0 (pa_cons (pv 2) (pa_cons (pv 1) pa_nil)))) pa_nil))), ?_⟩
    refine ⟨_, rfl, a, C, dx, _, _, rfl, ha, c, n, rfl, t, rfl, ⟨_, .of ht⟩, fun D hD => ?_⟩
    refine lc_tup (xs := fs.map fun f => V.str f.tx) (fun i H2 => Same H H2 ∧ H2 D = some (.lst (((fs.take i).map fun f => f.ans kvs).map V.int))) ?_ ?_ ?_ ?_
    · exact ⟨Same.new hD, upd_same⟩
    · rintro i H2 _ ⟨s2, _⟩
      exact .of (s2 _ _ ht)
    · rintro i x H2 hx ⟨s2, eD⟩
      rw [List.getElem?_map] at hx
      obtain ⟨y, hy, rfl⟩ := Option.map_eq_some_iff.mp hx
      refine ⟨rfl, ?_⟩
      unfold tYes
      dsimp only
      rw [if_pos rfl]
      refine ⟨_, rfl, _, rfl, y, d, zs, kvs, rfl, hz y (List.mem_of_getElem? hy), s2 _ _ hd, hv, _, eD, ?_, ?_, ?_⟩
      · rw [List.length_map, List.length_map, List.length_take]
        exact small1000 (by omega)
      · exact fun c o e => (upd_ne (ne_of_none e hD)).trans (s2 _ _ e)
      · rw [upd_same, List.take_add_one, hy]
        simp
    · rintro H2 ⟨s2, eD⟩
      rw [List.length_map, List.take_length] at eD
      refine ⟨D, _, rfl, .inl ⟨.of eD, fun p hp => ?_⟩⟩
      have npD : p ≠ D := fun z => by
        rw [z, eD] at hp
        cases hp
      refine q p _ (s2.trans (Same.new hp)) (s2.free hp) ?_
      rw [upd_same, List.map_map]
      rfl
theorem ok_bycall {f C fR fA : Addr} {fd fdR fdA : FuncData} (F : Fun K "__call__" "By.__call__" (sBy 2) f fd) (c : Cls K C) (kR : PySem.W.keepIn K (.ref fR) = true) (bR : Binds K fdR ["key", "value"] []) (gR : mg "need_record" = some (.ref fR))
    (GR : FnOk P w K mg base CX0 4 fR fdR ["key", "value"] spNeedRecord) (hm : Meth K C "answer_for" fA) (bA : Binds K fdA ["self", "value"] []) (GA : FnOk P w K mg base CX0 3 fA fdA ["self", "value"] (spByA C)) :
    FnOk P w K mg base CX0 5 f fd ["self", "key", "value"] (spByC C) := by
  refine F.ok scByC (fun vs H Q E h => ?_) (fun cdv A outer s H vs Q E hr h => ?_)
  · obtain ⟨a, t, d, y, fs, zs, kvs, rfl, _⟩ := h
    rfl
  · obtain ⟨a, t, d, y, fs, zs, kvs, rfl, hb, l3, hz, hy, hd, hv, q⟩ := h
    refine ⟨_, pss_cons (ps_expr (pe_call GR hr rfl gR kR bR .nil pass0 (pa_cons (pv 1) (pa_cons (pv 2) pa_nil))))
      (pss_one (ps_ret (pe_meth (pv 0) c hm GA (hr.mono (by decide)) bA .nil pass0 (pa_cons (pv 2) pa_nil)))), ?_⟩
    refine ⟨_, rfl, _, rfl, y, d, zs, kvs, rfl, hy, hd, hv, fun H1 s1 => ?_⟩
    obtain ⟨dx, ha, ht⟩ := hb.same s1
    exact ⟨_, rfl, a, dx, _, rfl, ha, rfl, _, rfl, a, t, d, fs, zs, kvs, rfl, ⟨dx, ha, ht⟩, l3, hz, s1 _ _ hd, hv.is, fun p H2 s2 np e2 => q p H2 (s1.trans s2) (s1.free np) e2⟩
end
end G
set_option Elab.async false
set_option linter.all false
set_option maxRecDepth 100000
set_option maxHeartbeats 2000000
/-! W5: the law's fields, answers and orders. -/
namespace G
open PySem PySem.Spec PyProof.Rows L2 NdefX StX
theorem ifN {c : Bool} {A B : Prop} (e : c = false) (h : B) : if c = true then A else B := by
  rw [e]
  exact iteF h
theorem ifY {c : Bool} {A B : Prop} (e : c = true) (h : A) : if c = true then A else B := by
  rw [e]
  exact iteT h
abbrev sFields : Stmt := topS 38
abbrev sAnswer : Stmt := topS 39
abbrev sOrder : Stmt := topS 40
abbrev nFields : List Str := ["_law_box_here", "_law_names_here", "_law_most", "_law_found", "_law_k"]
abbrev nAnswer : List Str := ["_law_fields_here", "_law_worth", "_law_found", "_law_field", "_law_number_here"]
theorem scFields : FnScope nFields ["_law_box_here", "_law_names_here", "_law_most"] (defScope sFields) := ⟨rfl, rfl, rfl, by decide +kernel, rfl, by decide +kernel, by decide +kernel⟩
theorem scAnswer : FnScope nAnswer ["_law_fields_here", "_law_worth"] (defScope sAnswer) := ⟨rfl, rfl, rfl, by decide +kernel, rfl, by decide +kernel, by decide +kernel⟩
theorem scOrder : FnScope ["_law_fields_here"] ["_law_fields_here"] (defScope sOrder) := ⟨rfl, rfl, rfl, by decide +kernel, rfl, by decide +kernel, by decide +kernel⟩
abbrev txs (fs : List Fld) : List V := fs.map fun f => V.str f.tx
def spFields : Sp := fun vs H Q _ => ∃ (b nl : Addr) (m n : Nat) (ns : List Str), vs = [.ref b, .ref nl, .int (m : Int)] ∧ 1 ≤ m ∧ m ≤ 3 ∧ BoxAt H b n ∧ n ≤ 80000 ∧ H nl = some (.lst (ns.map V.str)) ∧ 1 ≤ ns.length ∧ ns.length ≤ 100 ∧ (∀ y ∈ ns, NameZ y) ∧ nl ≠ b ∧
  ∀ (p : Addr) (H' : Hp) (fs : List Fld), H p = none → H' p = some (.tup (txs fs)) → 1 ≤ fs.length → fs.length ≤ m → (∀ f ∈ fs, f.Ok) → BoxAt H' b (n + 7) → But b H H' → Q (.ref p) H'
def spAnswer : Sp := fun vs H Q _ => ∃ (t d : Addr) (fs : List Fld) (zs : List Str) (kvs : List (Key × V)), vs = [.ref t, .ref d] ∧ H t = some (.tup (txs fs)) ∧ fs.length ≤ 3 ∧ (∀ f ∈ fs, f.Ok) ∧ H d = some (.dK kvs) ∧ ValN zs kvs ∧
  ∀ (p : Addr) (H' : Hp), Same H H' → H p = none → H' p = some (.tup (fs.map fun f => V.int (f.ans kvs))) → Q (.ref p) H'
def spOrder (C : Addr) : Sp := fun vs H Q _ => ∃ (t : Addr) (fs : List Fld), vs = [.ref t] ∧ H t = some (.tup (txs fs)) ∧ 1 ≤ fs.length ∧ fs.length ≤ 3 ∧ (∀ f ∈ fs, f.Ok) ∧
  ∀ (a t2 : Addr) (H' : Hp), H a = none → H t2 = none → ByAt C H' a t2 fs → Same H H' → Q (.ref a) H'
theorem sign_of {j : Nat} {y : Str} (hy : NameZ y) (hj : j < 2) : ∃ f : Fld, f.Ok ∧ ∃ z : Str, ([V.str "", V.str "-"] : List V)[j]? = some (V.str z) ∧ z ++ y = f.tx ∧ z.length ≤ 1 := by
  match j, hj with
  | 0, _ => exact ⟨⟨false, y, ("" : Str) ++ y⟩, ⟨hy, by rw [cs_app]; rfl⟩, "", rfl, rfl, by decide⟩
  | 1, _ => exact ⟨⟨true, y, ("-" : Str) ++ y⟩, ⟨hy, by
      show cs (("-" : Str) ++ y) = _
      rw [cs_app]
      have e : cs ("-" : Str) = [45] := by decide +kernel
      rw [e]
      rfl⟩, "-", rfl, rfl, by decide⟩
section
variable {P : Program} {w : World} {K : PySem.W.Frag} {mg : Str → Option Value} {base : Heap}
theorem ok_fields {f fT : Addr} {fd fdT : FuncData} (F : Fun K "_law_fields" "_law_fields" sFields f fd) (T : Fun K "_law_take" "_law_take" sTake fT fdT) (bT : Binds K fdT ["_law_box_here", "_law_many"] []) (gT : mg "_law_take" = some (.ref fT))
    (mr : mg "range" = none) (ml : mg "len" = none) (mT : mg "tuple" = none) : FnOk P w K mg base CX0 2 f fd ["_law_box_here", "_law_names_here", "_law_most"] spFields := by
  have GT : FnOk P w K mg base CX0 1 fT fdT ["_law_box_here", "_law_many"] spTake := ok_take T
  refine F.ok scFields (fun vs H Q E h => ?_) (fun cdv A outer s H vs Q E hr h => ?_)
  · obtain ⟨b, nl, m, n, ns, rfl, _⟩ := h
    rfl
  · obtain ⟨b, nl, m, n, ns, rfl, m1, m3, B, hn, hnl, l1, l100, hz, nnb, q⟩ := h
    refine ⟨_, pss_cons (ps_set (i := 3) scFields.nd rfl (.inl rfl) (pe_lst pa_nil))
      (pss_cons (ps_for PassesOwn.never rfl (pi_range1 rfl mr (pa_cons (pe_op op_add pe_int (pe_call GT hr rfl gT T.kp bT .nil pass0 (pa_cons (pv 0) (pa_cons (pv 2) pa_nil)))) pa_nil)) (pg_name (i := 4) scFields.nd rfl (.inl rfl))
        (pss_one (ps_expr (pe_bm PySem.F.plainAttrs_list PySem.F.slot_list_append PySem.F.type_list_append mt_append (pv 3) (pa_cons
          (pe_op op_add_str (pe_ix ix_list (pe_lst (pa_cons pe_str (pa_cons pe_str pa_nil))) (pe_call GT hr rfl gT T.kp bT .nil pass0 (pa_cons (pv 0) (pa_cons pe_int pa_nil))) (fun _ _ => rfl))
            (pe_ix ix_list (pv 1) (pe_call GT hr rfl gT T.kp bT .nil pass0 (pa_cons (pv 0) (pa_cons (pe_callB call_len_seq (by rfl) ml PySem.boot_len (pa_cons (pv 1) pa_nil)) pa_nil))) (fun _ _ => rfl))) pa_nil)))))
      (pss_one (ps_ret (pe_callTy call_tuple_of (by rfl) mT (by decide +kernel) (pa_cons (pv 3) pa_nil))))), ?_⟩
    refine ⟨(by show 0 ≤ sizeLine; exact Nat.zero_le _), fun l hl => ?_⟩
    have nlb := box_ne B hl
    have nnl : nl ≠ l := ne_of_none hnl hl
    refine ⟨_, rfl, _, rfl, b, m, n, rfl, box_new B hl, by omega, by omega, (Int.lt_of_le_of_lt (show (m : Int) ≤ 3 by omega) (by decide)), fun r H1 r0 r1 B1 k1 => ?_⟩
    obtain ⟨j, rfl, hj⟩ := draw_at (n := m) r0 r1 rfl
    have el := k1 _ _ nlb upd_same
    have en := k1 _ _ nnb ((upd_ne nnl).trans hnl)
    refine ⟨_, _, rfl, rfl, 1 + (j : Int), rfl, by omega, by omega, ?_⟩
    have e1 : (1 + (j : Int) : Int).toNat = 1 + j := by omega
    rw [e1]
    refine for_range (lo := 0) (n := 1 + j) (fun i σ H2 => ∃ (fs : List Fld) (x4 : Option V), σ = [some (.ref b), some (.ref nl), some (.int (m : Int)), some (.ref l), x4] ∧ H2 l = some (.lst (txs fs)) ∧ fs.length = i ∧ (∀ f ∈ fs, f.Ok) ∧ H2 nl = some (.lst (ns.map V.str)) ∧ BoxAt H2 b (n + 1 + 2 * i) ∧ But b H H2) ?_ ?_ ?_
    · exact ⟨[], none, rfl, el, rfl, (fun f h => nomatch h), en, B1, (But.new hl).trans k1⟩
    · rintro i σ H2 hi ⟨fs, x4, rfl, el2, len2, ok2, en2, B2, k2⟩
      refine ⟨_, rfl, .inl ⟨rfl, _, .of el2⟩, (by show 2 ≤ sizeLine; exact small_size (by decide)), fun p hp => ?_⟩
      have npb := box_ne B2 hp
      have npl : l ≠ p := ne_of_none el2 hp
      have npn : nl ≠ p := ne_of_none en2 hp
      refine ⟨_, rfl, b, 2, n + 1 + 2 * i, rfl, box_new B2 hp, by omega, by decide, by decide, fun r2 H3 c0 c1 B3 k3 => ?_⟩
      obtain ⟨g, rfl, hg⟩ := draw_at (n := 2) c0 c1 rfl
      have ep3 := k3 _ _ npb upd_same
      have el3 := k3 _ _ nlb ((upd_ne npl).trans el2)
      have en3 := k3 _ _ nnb ((upd_ne npn).trans en2)
      have kk3 : But b H H3 := (k2.trans (But.new hp)).trans k3
      obtain ⟨z, ez⟩ : ∃ z : Str, ([V.str "", V.str "-"] : List V)[g]? = some (V.str z) := by
        match g, hg with
        | 0, _ => exact ⟨_, rfl⟩
        | 1, _ => exact ⟨_, rfl⟩
      refine ⟨p, _, _, .str z, rfl, rfl, .of ep3, atI_nat ez, _, rfl, _, rfl, _, rfl, nl, _, rfl, .inl (.of en3), b, _, n + 1 + 2 * i + 1, rfl, B3, by omega, ?_, ?_, fun r3 H4 d0 d1 B4 k4 => ?_⟩
      · rw [List.length_map]
        omega
      · rw [List.length_map]
        omega
      obtain ⟨h, rfl, hh⟩ := draw_at (n := ns.length) d0 d1 (by rw [List.length_map])
      have en4 := k4 _ _ nnb en3
      have el4 := k4 _ _ nlb el3
      obtain ⟨fl, okf, z2, ez2, etx, hz1⟩ := sign_of (hz _ (List.getElem_mem hh)) hg
      obtain rfl : z = z2 := by
        rw [ez] at ez2
        exact V.str.inj (Option.some.inj ez2)
      have h8 := (hz _ (List.getElem_mem hh)).2.2
      refine ⟨nl, _, _, .str ns[h], rfl, rfl, .of en4, atI_nat (by rw [List.getElem?_map, List.getElem?_eq_getElem hh] <;> rfl), _, _, rfl, rfl, small_size (by omega), ?_⟩
      rw [etx]
      refine ⟨l, _, _, rfl, rfl, el4, ?_, fs ++ [fl], _, rfl, ?_, ?_, ?_, (upd_ne nnl).trans en4, ?_, but_upd (kk3.trans k4) hl⟩
      · rw [List.length_map]
        exact small1000 (by omega)
      · rw [upd_same]
        show _ = some (HO.lst (List.map (fun f : Fld => V.str f.tx) (fs ++ [fl])))
        rw [List.map_append]
        rfl
      · rw [List.length_append, len2]
        rfl
      · intro f2 hf2
        rcases List.mem_append.mp hf2 with hf2 | hf2
        · exact ok2 f2 hf2
        · rw [List.mem_singleton.mp hf2]
          exact okf
      · exact (box_upd B4 nlb).mono (by omega)
    · rintro σ H2 ⟨fs, x4, rfl, el2, len2, ok2, en2, B2, k2⟩
      refine ⟨_, rfl, l, _, rfl, .inl ⟨.of el2, fun p hp => ?_⟩⟩
      have npb := box_ne B2 hp
      have fp := free_of k2 npb hp
      exact q p _ fs fp upd_same (by omega) (by omega) ok2 ((box_new B2 hp).mono (by omega)) (but_upd k2 fp)
theorem ok_answer {f : Addr} {fd : FuncData} (F : Fun K "_law_answer" "_law_answer" sAnswer f fd) (mT : mg "tuple" = none) : FnOk P w K mg base CX0 1 f fd ["_law_fields_here", "_law_worth"] spAnswer := by
  refine F.ok scAnswer (fun vs H Q E h => ?_) (fun cdv A outer s H vs Q E hr h => ?_)
  · obtain ⟨t, d, fs, zs, kvs, rfl, _⟩ := h
    rfl
  · obtain ⟨t, d, fs, zs, kvs, rfl, ht, l3, hz, hd, hv, q⟩ := h
    have hu := hu_of hr
    refine ⟨_, pss_cons (ps_set (i := 2) scAnswer.nd rfl (.inl rfl) (pe_lst pa_nil))
      (pss_cons (ps_for PassesOwn.never rfl (pi_tup (pv 0)) (pg_name (i := 3) scAnswer.nd rfl (.inl rfl))
        (pss_cons (ps_set (i := 4) scAnswer.nd rfl (.inl rfl) (pe_dget2 hu (pv 1) (pe_m1 PySem.F.slot_str_lstrip PySem.F.type_str_lstrip mt_lstripChars (pv 3) pe_str) (pe_un un_neg pe_int) ⟨rfl, rfl, rfl, rfl⟩))
        (pss_one (ps_expr (pe_bm PySem.F.plainAttrs_list PySem.F.slot_list_append PySem.F.type_list_append mt_append (pv 2) (pa_cons
          (pe_ifExp (pt_cmpR op_eq (pe_ix ix_str (pv 3) pe_int (fun _ _ => rfl)) pe_str (nomark _)) (pe_op op_sub pe_int (pv 4)) (pv 4)) pa_nil))))))
      (pss_one (ps_ret (pe_callTy call_tuple_of (by rfl) mT (by decide +kernel) (pa_cons (pv 2) pa_nil))))), ?_⟩
    refine ⟨(by show 0 ≤ sizeLine; exact Nat.zero_le _), fun l hl => ?_⟩
    have ntl : t ≠ l := ne_of_none ht hl
    refine ⟨_, rfl, t, rfl, ⟨_, .of ((upd_ne ntl).trans ht)⟩, ?_⟩
    refine for_tup (xs := txs fs) (fun i σ H2 => ∃ x3 x4 : Option V, σ = [some (.ref t), some (.ref d), some (.ref l), x3, x4] ∧ H2 l = some (.lst (((fs.take i).map fun f => f.ans kvs).map V.int)) ∧ Same H H2) ?_ ?_ ?_ ?_
    · exact ⟨none, none, rfl, upd_same, Same.new hl⟩
    · rintro i σ H2 _ ⟨x3, x4, rfl, _, s2⟩
      exact .of (s2 _ _ ht)
    · rintro i x σ H2 hx ⟨x3, x4, rfl, el, s2⟩
      rw [List.getElem?_map] at hx
      obtain ⟨y, hy, rfl⟩ := Option.map_eq_some_iff.mp hx
      have okf := hz y (List.mem_of_getElem? hy)
      have h9 := okf.len
      have ed := s2 _ _ hd
      refine ⟨_, rfl, d, rfl, .inl ⟨_, .inl ed⟩, _, rfl, ⟨_, rfl⟩, y.tx, _, rfl, rfl, small_size (by omega), ?_⟩
      rw [okf.strip]
      obtain ⟨n1, n2, n3⟩ := valN_get hv y.nm
      refine ⟨_, rfl, _, DGet.k (k := Sum.inr y.nm) ed, ?_⟩
      rw [show (-(1000 : Int)) = -1000 from rfl] at *
      rw [n1]
      obtain ⟨c, e1, e2⟩ := okf.first
      refine ⟨_, rfl, .inl ⟨rfl, _, .of el⟩, _, rfl, y.tx, _, c, rfl, rfl, small_size (by omega), e1, rfl, _, rfl, ?_⟩
      rw [e2]
      have fin : (∃ x3 x4 : Option V, [some (V.ref t), some (.ref d), some (.ref l), some (.str y.tx), some (.int (numK kvs y.nm))] = [some (.ref t), some (.ref d), some (.ref l), x3, x4] ∧
          (upd H2 l (.lst ((((fs.take i).map fun f => f.ans kvs).map V.int) ++ [.int (y.ans kvs)]))) l = some (.lst (((fs.take (i + 1)).map fun f => f.ans kvs).map V.int)) ∧ Same H (upd H2 l (.lst ((((fs.take i).map fun f => f.ans kvs).map V.int) ++ [.int (y.ans kvs)])))) := by
        refine ⟨_, _, rfl, ?_, fun c o e => (upd_ne (ne_of_none e hl)).trans (s2 _ _ e)⟩
        rw [upd_same, List.take_add_one, hy]
        simp
      have sz : (((fs.take i).map fun f => f.ans kvs).map V.int).length < sizeLine := by
        rw [List.length_map, List.length_map, List.length_take]
        exact small1000 (by omega)
      cases e : y.neg with
      | true =>
        have ea : y.ans kvs = 0 - numK kvs y.nm := by
          unfold Fld.ans
          rw [e, if_pos rfl]
          omega
        rw [ea] at fin
        exact iteT ⟨_, rfl, _, _, rfl, rfl, l, _, _, rfl, rfl, el, sz, fin⟩
      | false =>
        have ea : y.ans kvs = numK kvs y.nm := by
          unfold Fld.ans
          rw [e, if_neg Bool.false_ne_true]
        rw [ea] at fin
        exact iteF ⟨_, rfl, l, _, _, rfl, rfl, el, sz, fin⟩
    · rintro σ H2 ⟨x3, x4, rfl, el, s2⟩
      rw [List.length_map, List.take_length] at el
      refine ⟨_, rfl, l, _, rfl, .inl ⟨.of el, fun p hp => ?_⟩⟩
      refine q p _ (s2.trans (Same.new hp)) (s2.free hp) ?_
      rw [upd_same, List.map_map]
      rfl
/-- an order is made -/
theorem by_made {C : Addr} {H1 : Hp} {Q : VK} {E : XK} {fs : List Fld} (l1 : 1 ≤ fs.length) (l3 : fs.length ≤ 3) (hz : ∀ f ∈ fs, f.Ok) (q : ∀ (a t : Addr) (H' : Hp), H1 a = none → H1 t = none → ByAt C H' a t fs → Same H1 H' → Q (.ref a) H') :
    ∀ x dx, H1 x = Option.none → H1 dx = Option.none → dx ≠ x → spByR C (V.ref x :: txs fs) (upd (upd H1 dx (.own x)) x (.ins C dx [])) (fun v H2 => v = .non ∧ Q (.ref x) H2) E := by
  intro x dx hx hdx hne
  refine ⟨[V.ref x], txs fs, rfl, rfl, by rw [List.length_map]; exact small_size (by omega), fun p hp => ?_⟩
  have npx : p ≠ x := fun z => by
    rw [z, upd_same] at hp
    cases hp
  rw [upd_ne npx] at hp
  have npd : p ≠ dx := fun z => by
    rw [z, upd_same] at hp
    cases hp
  rw [upd_ne npd] at hp
  refine ⟨x, dx, p, fs, rfl, (upd_ne npx.symm).trans upd_same, upd_same, l1, l3, hz, fun H' s' => ⟨rfl, ?_⟩⟩
  refine q x p _ hx hp ⟨dx, upd_same, (upd_ne npx).trans (s' p _ upd_same)⟩ fun c o e => ?_
  have n1 := ne_of_none e hx
  rw [upd_ne n1]
  refine s' c o ?_
  rw [upd_ne (ne_of_none e hp), upd_ne n1, upd_ne (ne_of_none e hdx)]
  exact e
theorem ok_order {f C fI : Addr} {fd : FuncData} (F : Fun K "_law_order" "_law_order" sOrder f fd) (M : Mk K C fI) (G : FnR P w K mg base CX0 3 fI (spByR C)) (gC : mg "By" = some (.ref C)) (ml : mg "len" = none) :
    FnOk P w K mg base CX0 5 f fd ["_law_fields_here"] (spOrder C) := by
  refine F.ok scOrder (fun vs H Q E h => ?_) (fun cdv A outer s H vs Q E hr h => ?_)
  · obtain ⟨t, fs, rfl, _⟩ := h
    rfl
  · obtain ⟨t, fs, rfl, ht, l1, l3, hz, q⟩ := h
    refine ⟨_, pss_cons (ps_if (pt_cmpR op_eq (pe_callB call_len_seq (by rfl) ml PySem.boot_len (pa_cons (pv 0) pa_nil)) pe_int (nomark _)) (pss_one ps_never) pss_nil)
      (pss_cons (ps_if (pt_cmpR op_eq (pe_callB call_len_seq (by rfl) ml PySem.boot_len (pa_cons (pv 0) pa_nil)) pe_int (nomark _)) (pss_one (ps_ret (pe_makeR M G hr rfl gC pass0 (pa_cons (pe_ix ix_tup (pv 0) pe_int (fun _ _ => rfl)) pa_nil)))) pss_nil)
      (pss_cons (ps_if (pt_cmpR op_eq (pe_callB call_len_seq (by rfl) ml PySem.boot_len (pa_cons (pv 0) pa_nil)) pe_int (nomark _)) (pss_one (ps_ret (pe_makeR M G hr rfl gC pass0 (pa_cons (pe_ix ix_tup (pv 0) pe_int (fun _ _ => rfl)) (pa_cons (pe_ix ix_tup (pv 0) pe_int (fun _ _ => rfl)) pa_nil))))) pss_nil)
      (pss_cons (ps_if (pt_cmpR op_eq (pe_callB call_len_seq (by rfl) ml PySem.boot_len (pa_cons (pv 0) pa_nil)) pe_int (nomark _)) (pss_one (ps_ret (pe_makeR M G hr rfl gC pass0 (pa_cons (pe_ix ix_tup (pv 0) pe_int (fun _ _ => rfl)) (pa_cons (pe_ix ix_tup (pv 0) pe_int (fun _ _ => rfl)) (pa_cons (pe_ix ix_tup (pv 0) pe_int (fun _ _ => rfl)) pa_nil)))))) pss_nil)
      (pss_cons ps_never (pss_one ps_never))))), ?_⟩
    have mk := by_made (C := C) (H1 := H) (Q := Q) (E := E0) l1 l3 hz q
    have at_ : ∀ {i : Nat} {v : V}, (txs fs)[i]? = some v → atI (txs fs) (i : Int) = some v := fun e => atI_nat e
    match fs, l1, l3, ht, mk with
    | [f1], _, _, ht, mk =>
      refine ⟨_, rfl, t, _, rfl, .inr (.of ht), rfl, _, rfl, iteF ?_⟩
      refine ⟨_, rfl, t, _, rfl, .inr (.of ht), rfl, _, rfl, iteT ?_⟩
      exact ⟨_, rfl, t, _, ((0 : Nat) : Int), _, rfl, rfl, .of ht, atI_nat (j := 0) rfl, mk⟩
    | [f1, f2], _, _, ht, mk =>
      refine ⟨_, rfl, t, _, rfl, .inr (.of ht), rfl, _, rfl, iteF ?_⟩
      refine ⟨_, rfl, t, _, rfl, .inr (.of ht), rfl, _, rfl, iteF ?_⟩
      refine ⟨_, rfl, t, _, rfl, .inr (.of ht), rfl, _, rfl, iteT ?_⟩
      exact ⟨_, rfl, t, _, ((0 : Nat) : Int), _, rfl, rfl, .of ht, atI_nat (j := 0) rfl, _, rfl, t, _, ((1 : Nat) : Int), _, rfl, rfl, .of ht, atI_nat (j := 1) rfl, mk⟩
    | [f1, f2, f3], _, _, ht, mk =>
      refine ⟨_, rfl, t, _, rfl, .inr (.of ht), rfl, _, rfl, iteF ?_⟩
      refine ⟨_, rfl, t, _, rfl, .inr (.of ht), rfl, _, rfl, iteF ?_⟩
      refine ⟨_, rfl, t, _, rfl, .inr (.of ht), rfl, _, rfl, iteF ?_⟩
      refine ⟨_, rfl, t, _, rfl, .inr (.of ht), rfl, _, rfl, iteT ?_⟩
      exact ⟨_, rfl, t, _, ((0 : Nat) : Int), _, rfl, rfl, .of ht, atI_nat (j := 0) rfl, _, rfl, t, _, ((1 : Nat) : Int), _, rfl, rfl, .of ht, atI_nat (j := 1) rfl, _, rfl, t, _, ((2 : Nat) : Int), _, rfl, rfl, .of ht, atI_nat (j := 2) rfl, mk⟩
end
end G
set_option Elab.async false
set_option linter.all false
set_option maxRecDepth 100000
set_option maxHeartbeats 4000000
/-! DG: assignments to any target; the script's cells and the box at the law's start. -/
namespace Dl
open PySem PySem.Spec PyProof.Rows L2 G StX
section
variable {X : Cx} {e tg : Expr} {we : WE} {g : WG} {pos : Pos}
def wAsg (we : WE) (g : WG) : WS := fun D ρ ω => we ρ ω fun d ω1 => g d ρ ω1 D.nx
theorem ds_asg (he : DE (One X) e we) (hg : DG (One X) tg none g) (hs : swapsWithSole [tg] e pos.line X.env = pure false := by rfl) (hw : swappedStores [tg] e X.env = pure none := by rfl)
    (h1 : (assignEach [tg] X.env).map (·.2) = [assign tg X.env] := by rfl) : DS X (.Assign [tg] e pos) (wAsg we g) := by
  obtain ⟨t, p, q⟩ := he.ex
  obtain ⟨tg', p2, q2⟩ := hg.ex
  refine ⟨tAsg t tg', ps_asg (p ()) (p2 ()) hs hw h1, fun W F ρ ω σ H D E s rp h l => ?_⟩
  refine q W F ρ ω σ H _ _ s rp h fun W1 ω1 d v H1 e1 rp1 r1 h1 => ?_
  exact q2 W1 F ρ ω1 σ H1 d v _ _ (s.ext e1) rp1 r1 h1 fun W2 ρ2 ω2 σ2 H2 e2 s2 rp2 _ h2 => l.nx W2 ρ2 ω2 σ2 H2 (e1.trans e2) s2 rp2 h2
end
/-! ### a call over data from a text over the heap: all but the box at b is data -/
theorem hide_free {b : Addr} {H : Hp} : G.hide b H b = none := G.hide_at
theorem enter {H : Hp} {b : Addr} {n : Nat} (B : G.BoxAt H b n) : Rep ⟨G.hide b H, fun _ => b, 1⟩ (fun _ => none) [some (.box n)] H := by
  have one : ∀ {l : Nat} {c : Cell}, ([some (Cell.box n)] : Om)[l]? = some (some c) → l = 0 ∧ c = .box n := fun {l c} e => by
    have hl := (List.getElem?_eq_some_iff.mp e).1
    have h1 : ([some (Cell.box n)] : Om).length = 1 := rfl
    have h0 : l = 0 := by omega
    subst h0
    exact ⟨rfl, (Option.some.inj (Option.some.inj e)).symm⟩
  refine ⟨rfl, G.hide_same b H, fun a o e => (by cases e), fun a o e => (by cases e), fun l c e => ?_, fun l c e _ => ⟨hide_free, rfl⟩, fun l l' c c' e e' _ _ _ => ?_⟩
  · obtain ⟨rfl, rfl⟩ := one e
    exact B
  · rw [(one e).1, (one e').1]
theorem leave {H H' : Hp} {b : Addr} {m : Nat} {W' : Wd} {F : Hp} {ω : Om} (e : Ext ⟨G.hide b H, fun _ => b, 1⟩ W') (rp : Rep W' F (some (.box m) :: ω) H') : G.BoxAt H' b m ∧ G.But b H H' := by
  have l0 : W'.loc 0 = b := e.loc 0 Nat.zero_lt_one
  have B := rp.cell 0 (.box m) rfl
  rw [l0] at B
  exact ⟨B, fun c o n h => rp.sj c o (e.j c o ((G.hide_ne n).trans h))⟩
theorem hide_rd {b p : Addr} {H : Hp} {o : HO} (n : p ≠ b) (h : H p = some o) : G.hide b H p = some o := by rw [G.hide_ne n]; exact h
end Dl
set_option Elab.async false
set_option linter.all false
set_option maxRecDepth 100000
set_option maxHeartbeats 2000000
/-! E0: what the text finds at the top; the scopes of what is walked over data. -/
namespace Dl
open PySem PySem.Spec PyProof.Rows L2 G StX NdefX
abbrev sOpposite : Stmt := topS 27
abbrev nOpposite : List Str := ["field"]
theorem scOpposite : FnScope nOpposite ["field"] (defScope sOpposite) := ⟨rfl, rfl, rfl, by decide +kernel, rfl, by decide +kernel, by decide +kernel⟩
abbrev sFieldsOf : Stmt := topS 29
abbrev nFieldsOf : List Str := ["operand"]
theorem scFieldsOf : FnScope nFieldsOf ["operand"] (defScope sFieldsOf) := ⟨rfl, rfl, rfl, by decide +kernel, rfl, by decide +kernel, by decide +kernel⟩
abbrev sTurned : Stmt := topS 41
abbrev nTurned : List Str := ["_law_fields_here", "_law_field"]
theorem scTurned : FnScope nTurned ["_law_fields_here"] (defScope sTurned) := ⟨rfl, rfl, rfl, by decide +kernel, rfl, by decide +kernel, by decide +kernel⟩
abbrev sRight : Stmt := topS 42
abbrev nRight : List Str := ["_law_box_here", "_law_names_here", "_law_rows", "_law_one", "_law_other", "_law_word", "_law_sums", "_law_dues", "_law_order_here", "_law_worth", "_law_due", "_law_kept", "_law_part"]
theorem scRight : FnScope nRight ["_law_box_here", "_law_names_here"] (defScope sRight) := ⟨rfl, rfl, rfl, by decide +kernel, rfl, by decide +kernel, by decide +kernel⟩
abbrev sEqual : Stmt := topS 43
abbrev nEqual : List Str := ["_law_box_here", "_law_names_here", "_law_rows", "_law_at", "_law_one", "_law_other", "_law_due", "_law_odd", "_law_thing"]
theorem scEqual : FnScope nEqual ["_law_box_here", "_law_names_here"] (defScope sEqual) := ⟨rfl, rfl, rfl, by decide +kernel, rfl, by decide +kernel, by decide +kernel⟩
abbrev sLaw : Stmt := topS 44
abbrev nLaw : List Str := ["_law_script", "_law_k", "_law_box_here", "_law_names_here"]
theorem scLaw : FnScope nLaw ["_law_script"] (defScope sLaw) := ⟨rfl, rfl, rfl, by decide +kernel, rfl, by decide +kernel, by decide +kernel⟩
abbrev sByAdd : Stmt := sBy 4
abbrev nByAdd : List Str := ["self", "other", "more", "joined"]
theorem scByAdd : FnScope nByAdd ["self", "other"] (defScope sByAdd) := ⟨rfl, rfl, rfl, by decide +kernel, rfl, by decide +kernel, by decide +kernel⟩
abbrev sByRadd : Stmt := sBy 5
abbrev nByRadd : List Str := ["self", "other", "before", "joined"]
theorem scByRadd : FnScope nByRadd ["self", "other"] (defScope sByRadd) := ⟨rfl, rfl, rfl, by decide +kernel, rfl, by decide +kernel, by decide +kernel⟩
abbrev sByNeg : Stmt := sBy 6
abbrev nByNeg : List Str := ["self", "fields", "field"]
theorem scByNeg : FnScope nByNeg ["self"] (defScope sByNeg) := ⟨rfl, rfl, rfl, by decide +kernel, rfl, by decide +kernel, by decide +kernel⟩
abbrev sByEq : Stmt := sBy 7
abbrev nByEq : List Str := ["self", "other"]
theorem scByEq : FnScope nByEq ["self", "other"] (defScope sByEq) := ⟨rfl, rfl, rfl, by decide +kernel, rfl, by decide +kernel, by decide +kernel⟩
abbrev sByStr : Stmt := sBy 8
abbrev nByStr : List Str := ["self"]
theorem scByStr : FnScope nByStr ["self"] (defScope sByStr) := ⟨rfl, rfl, rfl, by decide +kernel, rfl, by decide +kernel, by decide +kernel⟩
structure Top (K : PySem.W.Frag) (mg : Str → Option Value) where
  m_isinstance : mg "isinstance" = none
  m_int : mg "int" = none
  m_bool : mg "bool" = none
  m_str : mg "str" = none
  m_dict : mg "dict" = none
  m_len : mg "len" = none
  m_all : mg "all" = none
  m_list : mg "list" = none
  m_range : mg "range" = none
  m_min : mg "min" = none
  m_max : mg "max" = none
  m_tuple : mg "tuple" = none
  m_repr : mg "repr" = none
  m_zip : mg "zip" = none
  t_LETTERS : Tok
  c_LETTERS : mg "LETTERS" = some (.str "abcdefghijklmnopqrstuvwxyz" t_LETTERS)
  t_MOST_LETTERS : Tok
  c_MOST_LETTERS : mg "MOST_LETTERS" = some (.int 8 t_MOST_LETTERS)
  t_MOST_FIELDS : Tok
  c_MOST_FIELDS : mg "MOST_FIELDS" = some (.int 6 t_MOST_FIELDS)
  t_GREATEST : Tok
  c_GREATEST : mg "GREATEST" = some (.int 999 t_GREATEST)
  t_MOST_IN_ORDER : Tok
  c_MOST_IN_ORDER : mg "MOST_IN_ORDER" = some (.int 3 t_MOST_IN_ORDER)
  t_MISSING : Tok
  c_MISSING : mg "MISSING" = some (.int (-1000) t_MISSING)
  f_isint : Addr
  fd_isint : FuncData
  F_isint : Fun K "is_integer" "is_integer" sIsInt f_isint fd_isint
  b_isint : Binds K fd_isint ["value", "low", "high"] []
  g_isint : mg "is_integer" = some (.ref f_isint)
  k_isint : PySem.W.keepIn K (.ref f_isint) = true
  f_isname : Addr
  fd_isname : FuncData
  F_isname : Fun K "is_name" "is_name" sIsName f_isname fd_isname
  b_isname : Binds K fd_isname ["value"] []
  g_isname : mg "is_name" = some (.ref f_isname)
  k_isname : PySem.W.keepIn K (.ref f_isname) = true
  f_isvalue : Addr
  fd_isvalue : FuncData
  F_isvalue : Fun K "is_value" "is_value" sIsValue f_isvalue fd_isvalue
  b_isvalue : Binds K fd_isvalue ["value"] []
  g_isvalue : mg "is_value" = some (.ref f_isvalue)
  k_isvalue : PySem.W.keepIn K (.ref f_isvalue) = true
  f_needname : Addr
  fd_needname : FuncData
  F_needname : Fun K "need_name" "need_name" sNeedName f_needname fd_needname
  b_needname : Binds K fd_needname ["value"] []
  g_needname : mg "need_name" = some (.ref f_needname)
  k_needname : PySem.W.keepIn K (.ref f_needname) = true
  f_needvalue : Addr
  fd_needvalue : FuncData
  F_needvalue : Fun K "need_value" "need_value" sNeedValue f_needvalue fd_needvalue
  b_needvalue : Binds K fd_needvalue ["value"] []
  g_needvalue : mg "need_value" = some (.ref f_needvalue)
  k_needvalue : PySem.W.keepIn K (.ref f_needvalue) = true
  f_needrecord : Addr
  fd_needrecord : FuncData
  F_needrecord : Fun K "need_record" "need_record" sNeedRecord f_needrecord fd_needrecord
  b_needrecord : Binds K fd_needrecord ["key", "value"] []
  g_needrecord : mg "need_record" = some (.ref f_needrecord)
  k_needrecord : PySem.W.keepIn K (.ref f_needrecord) = true
  f_signed : Addr
  fd_signed : FuncData
  F_signed : Fun K "is_signed_field" "is_signed_field" sSigned f_signed fd_signed
  b_signed : Binds K fd_signed ["value"] []
  g_signed : mg "is_signed_field" = some (.ref f_signed)
  k_signed : PySem.W.keepIn K (.ref f_signed) = true
  f_negative : Addr
  fd_negative : FuncData
  F_negative : Fun K "is_negative" "is_negative" sNegative f_negative fd_negative
  b_negative : Binds K fd_negative ["field"] []
  g_negative : mg "is_negative" = some (.ref f_negative)
  k_negative : PySem.W.keepIn K (.ref f_negative) = true
  f_opposite : Addr
  fd_opposite : FuncData
  F_opposite : Fun K "opposite" "opposite" sOpposite f_opposite fd_opposite
  b_opposite : Binds K fd_opposite ["field"] []
  g_opposite : mg "opposite" = some (.ref f_opposite)
  k_opposite : PySem.W.keepIn K (.ref f_opposite) = true
  f_numfor : Addr
  fd_numfor : FuncData
  F_numfor : Fun K "number_for" "number_for" sNumberFor f_numfor fd_numfor
  b_numfor : Binds K fd_numfor ["field", "value"] []
  g_numfor : mg "number_for" = some (.ref f_numfor)
  k_numfor : PySem.W.keepIn K (.ref f_numfor) = true
  f_fieldsof : Addr
  fd_fieldsof : FuncData
  F_fieldsof : Fun K "fields_of" "fields_of" sFieldsOf f_fieldsof fd_fieldsof
  b_fieldsof : Binds K fd_fieldsof ["operand"] []
  g_fieldsof : mg "fields_of" = some (.ref f_fieldsof)
  k_fieldsof : PySem.W.keepIn K (.ref f_fieldsof) = true
  f_cell : Addr
  fd_cell : FuncData
  F_cell : Fun K "_law_cell" "_law_cell" sCell f_cell fd_cell
  b_cell : Binds K fd_cell ["_law_script", "_law_k"] []
  g_cell : mg "_law_cell" = some (.ref f_cell)
  k_cell : PySem.W.keepIn K (.ref f_cell) = true
  f_box : Addr
  fd_box : FuncData
  F_box : Fun K "_law_box" "_law_box" sBox f_box fd_box
  b_box : Binds K fd_box ["_law_cell_here"] []
  g_box : mg "_law_box" = some (.ref f_box)
  k_box : PySem.W.keepIn K (.ref f_box) = true
  f_take : Addr
  fd_take : FuncData
  F_take : Fun K "_law_take" "_law_take" sTake f_take fd_take
  b_take : Binds K fd_take ["_law_box_here", "_law_many"] []
  g_take : mg "_law_take" = some (.ref f_take)
  k_take : PySem.W.keepIn K (.ref f_take) = true
  f_mixed : Addr
  fd_mixed : FuncData
  F_mixed : Fun K "_law_mixed" "_law_mixed" sMixed f_mixed fd_mixed
  b_mixed : Binds K fd_mixed ["_law_box_here", "_law_some"] []
  g_mixed : mg "_law_mixed" = some (.ref f_mixed)
  k_mixed : PySem.W.keepIn K (.ref f_mixed) = true
  f_names : Addr
  fd_names : FuncData
  F_names : Fun K "_law_names" "_law_names" sNames f_names fd_names
  b_names : Binds K fd_names ["_law_box_here", "_law_many"] []
  g_names : mg "_law_names" = some (.ref f_names)
  k_names : PySem.W.keepIn K (.ref f_names) = true
  f_number : Addr
  fd_number : FuncData
  F_number : Fun K "_law_number" "_law_number" sNumber f_number fd_number
  b_number : Binds K fd_number ["_law_box_here"] []
  g_number : mg "_law_number" = some (.ref f_number)
  k_number : PySem.W.keepIn K (.ref f_number) = true
  f_value : Addr
  fd_value : FuncData
  F_value : Fun K "_law_value" "_law_value" sValue f_value fd_value
  b_value : Binds K fd_value ["_law_box_here", "_law_fields_here"] []
  g_value : mg "_law_value" = some (.ref f_value)
  k_value : PySem.W.keepIn K (.ref f_value) = true
  f_fields : Addr
  fd_fields : FuncData
  F_fields : Fun K "_law_fields" "_law_fields" sFields f_fields fd_fields
  b_fields : Binds K fd_fields ["_law_box_here", "_law_names_here", "_law_most"] []
  g_fields : mg "_law_fields" = some (.ref f_fields)
  k_fields : PySem.W.keepIn K (.ref f_fields) = true
  f_answer : Addr
  fd_answer : FuncData
  F_answer : Fun K "_law_answer" "_law_answer" sAnswer f_answer fd_answer
  b_answer : Binds K fd_answer ["_law_fields_here", "_law_worth"] []
  g_answer : mg "_law_answer" = some (.ref f_answer)
  k_answer : PySem.W.keepIn K (.ref f_answer) = true
  f_order : Addr
  fd_order : FuncData
  F_order : Fun K "_law_order" "_law_order" sOrder f_order fd_order
  b_order : Binds K fd_order ["_law_fields_here"] []
  g_order : mg "_law_order" = some (.ref f_order)
  k_order : PySem.W.keepIn K (.ref f_order) = true
  f_turned : Addr
  fd_turned : FuncData
  F_turned : Fun K "_law_turned" "_law_turned" sTurned f_turned fd_turned
  b_turned : Binds K fd_turned ["_law_fields_here"] []
  g_turned : mg "_law_turned" = some (.ref f_turned)
  k_turned : PySem.W.keepIn K (.ref f_turned) = true
  f_right : Addr
  fd_right : FuncData
  F_right : Fun K "_law_right" "_law_right" sRight f_right fd_right
  b_right : Binds K fd_right ["_law_box_here", "_law_names_here"] []
  g_right : mg "_law_right" = some (.ref f_right)
  k_right : PySem.W.keepIn K (.ref f_right) = true
  f_equal : Addr
  fd_equal : FuncData
  F_equal : Fun K "_law_equal_right" "_law_equal_right" sEqual f_equal fd_equal
  b_equal : Binds K fd_equal ["_law_box_here", "_law_names_here"] []
  g_equal : mg "_law_equal_right" = some (.ref f_equal)
  k_equal : PySem.W.keepIn K (.ref f_equal) = true
  f_law : Addr
  fd_law : FuncData
  F_law : Fun K "law" "law" sLaw f_law fd_law
  b_law : Binds K fd_law ["_law_script"] []
  g_law : mg "law" = some (.ref f_law)
  k_law : PySem.W.keepIn K (.ref f_law) = true
  C : Addr
  g_By : mg "By" = some (.ref C)
  cl : Cls K C
  n_sf : NoAttr K C "signed_fields"
  f_ini : Addr
  fd_ini : FuncData
  F_ini : Fun K "__init__" "By.__init__" (sBy 0) f_ini fd_ini
  f_flds : Addr
  fd_flds : FuncData
  F_flds : Fun K "fields" "By.fields" (sBy 1) f_flds fd_flds
  b_flds : Binds K fd_flds ["self"] []
  f_call : Addr
  fd_call : FuncData
  F_call : Fun K "__call__" "By.__call__" (sBy 2) f_call fd_call
  b_call : Binds K fd_call ["self", "key", "value"] []
  f_ans : Addr
  fd_ans : FuncData
  F_ans : Fun K "answer_for" "By.answer_for" (sBy 3) f_ans fd_ans
  b_ans : Binds K fd_ans ["self", "value"] []
  f_add : Addr
  fd_add : FuncData
  F_add : Fun K "__add__" "By.__add__" (sBy 4) f_add fd_add
  b_add : Binds K fd_add ["self", "other"] []
  f_radd : Addr
  fd_radd : FuncData
  F_radd : Fun K "__radd__" "By.__radd__" (sBy 5) f_radd fd_radd
  b_radd : Binds K fd_radd ["self", "other"] []
  f_neg : Addr
  fd_neg : FuncData
  F_neg : Fun K "__neg__" "By.__neg__" (sBy 6) f_neg fd_neg
  b_neg : Binds K fd_neg ["self"] []
  f_eq : Addr
  fd_eq : FuncData
  F_eq : Fun K "__eq__" "By.__eq__" (sBy 7) f_eq fd_eq
  b_eq : Binds K fd_eq ["self", "other"] []
  f_str : Addr
  fd_str : FuncData
  F_str : Fun K "__str__" "By.__str__" (sBy 8) f_str fd_str
  b_str : Binds K fd_str ["self"] []
  mkC : Mk K C f_ini
  pa : Addr
  pf : PropOf K C "fields" pa f_flds
  co : CallO K C f_call
  me : Meth K C "answer_for" f_ans
  ao : AddO K C f_add f_radd
  eo : EqO K C f_eq
  nf : NfD K C
  io : IsO K C
  ng : PySem.W.findIn K (.ref C) "__neg__" = some (some (.ref f_neg))
  ngf : PySem.W.isFn K (.ref f_neg) = true
  so : PySem.W.findIn K (.ref C) "__str__" = some (some (.ref f_str))
  sof : PySem.W.isFn K (.ref f_str) = true
end Dl
set_option Elab.async false
set_option linter.all false
set_option maxRecDepth 100000
set_option maxHeartbeats 2000000
/-! EA: promises over data of the defs that are walked over the heap. -/
namespace Dl
open PySem PySem.Spec PyProof.Rows L2 G StX NdefX
theorem one_om {c0 c : Cell} {l : Nat} (e : ([some c0] : Om)[l]? = some (some c)) : l = 0 ∧ c = c0 := by
  have hl := (List.getElem?_eq_some_iff.mp e).1
  have h1 : ([some c0] : Om).length = 1 := rfl
  have h0 : l = 0 := by omega
  subst h0
  exact ⟨rfl, (Option.some.inj (Option.some.inj e)).symm⟩
section
variable {W : Wd} {F H H' : Hp} {n m : Nat}
theorem Rep.off (R : Rep W F [some (.box n)] H) : W.J (W.loc 0) = none ∧ F (W.loc 0) = none := R.own 0 _ rfl rfl
theorem Rep.drawn (R : Rep W F [some (.box n)] H) (k : G.But (W.loc 0) H H') (B : G.BoxAt H' (W.loc 0) m) : Rep W F [some (.box m)] H' := by
  obtain ⟨o1, o2⟩ := R.off
  refine ⟨R.n, fun a o e => k a o (ne_of_none e o1) (R.sj a o e), fun a o e => k a o (ne_of_none e o2) (R.sf a o e), R.dj, fun l c e => ?_, fun l c e _ => ?_, fun l l' c c' e e' _ _ _ => ?_⟩
  · obtain ⟨rfl, rfl⟩ := one_om e
    exact B
  · obtain ⟨rfl, rfl⟩ := one_om e
    exact ⟨o1, o2⟩
  · rw [(one_om e).1, (one_om e').1]
/-- something new stands at p -/
theorem Rep.plus {ω : Om} {p : Addr} {o : HO} (R : Rep W F ω H) (jp : W.J p = none) (fp : F p = none) (hp : H p = some o) (np : ∀ (l : Nat) c, ω[l]? = some (some c) → c.own = true → W.loc l ≠ p) :
    Ext W ⟨upd W.J p o, W.loc, W.n⟩ ∧ Rep ⟨upd W.J p o, W.loc, W.n⟩ F ω H := by
  have s1 : Same W.J (upd W.J p o) := fun c u e => by
    rw [upd_ne (ne_of_none e jp)]
    exact e
  refine ⟨⟨s1, Nat.le_refl _, fun _ _ => rfl⟩, R.n, fun c u e => ?_, R.sf, fun a u e => ?_, fun l c e => (R.cell l c e).mono s1, fun l c e ho => ?_, R.inj⟩
  · have e' : upd W.J p o c = some u := e
    by_cases h : c = p
    · subst h
      rw [upd_same] at e'
      rw [hp, e']
    · rw [upd_ne h] at e'
      exact R.sj _ _ e'
  · show upd W.J p o a = none
    rw [upd_ne (ne_of_none e fp)]
    exact R.dj _ _ e
  · obtain ⟨h1, h2⟩ := R.own l c e ho
    refine ⟨?_, h2⟩
    show upd W.J p o (W.loc l) = none
    rw [upd_ne (np l c e ho)]
    exact h1
theorem Rep.drawn1 {p : Addr} {o : HO} (R : Rep W F [some (.box n)] H) (k : G.But (W.loc 0) H H') (B : G.BoxAt H' (W.loc 0) m) (hp : H p = none) (hp' : H' p = some o) :
    Ext W ⟨upd W.J p o, W.loc, W.n⟩ ∧ Rep ⟨upd W.J p o, W.loc, W.n⟩ F [some (.box m)] H' := by
  refine (R.drawn k B).plus (R.sj.free hp) (R.sf.free hp) hp' fun l c e ho z => ?_
  obtain ⟨rfl, rfl⟩ := one_om e
  obtain ⟨x, y, z', e0, _⟩ := R.cell 0 _ rfl
  rw [z, hp] at e0
  cases e0
theorem Rep.grown (R : Rep W F [] H) (s : Same H H') : Rep W F [] H' :=
  ⟨R.n, R.sj.trans s, R.sf.trans s, R.dj, fun l c e => by simp at e, fun l c e => by simp at e, fun l l' c c' e => by simp at e⟩
theorem Rep.grown1 {p : Addr} {o : HO} (R : Rep W F [] H) (s : Same H H') (hp : H p = none) (hp' : H' p = some o) : Ext W ⟨upd W.J p o, W.loc, W.n⟩ ∧ Rep ⟨upd W.J p o, W.loc, W.n⟩ F [] H' :=
  (R.grown s).plus (R.sj.free hp) (R.sf.free hp) hp' fun l c e => by simp at e
end
/-! ### data of these laws -/
abbrev lS (zs : List Str) : Dt := .lst (zs.map .str)
abbrev tF (fs : List Fld) : Dt := .tup (fs.map fun f => .str f.tx)
abbrev ByD (C : Addr) (fs : List Fld) : Dt := .obj C ["signed_fields"] [tF fs]
def vDt : V → Dt
  | .int i => .int i
  | _ => .non
abbrev dicD (kvs : List (Key × V)) : Dt := .dic (kvs.map (·.1)) (kvs.map fun p => vDt p.2)
section
variable {J : Hp}
theorem rds_strs : ∀ zs : List Str, RDs J (zs.map V.str) (zs.map Dt.str)
  | [] => .nil
  | z :: zs => .cons (.str z) (rds_strs zs)
theorem rds_flds : ∀ fs : List Fld, RDs J (fs.map fun f => V.str f.tx) (fs.map fun f => Dt.str f.tx)
  | [] => .nil
  | f :: fs => .cons (.str f.tx) (rds_flds fs)
theorem rds_flds_inv : ∀ {fs : List Fld} {vs : List V}, RDs J vs (fs.map fun f => Dt.str f.tx) → vs = fs.map fun f => V.str f.tx
  | [], _, h => by
    cases h
    rfl
  | f :: fs, _, h => by
    cases h with
    | cons a b =>
      cases a
      rw [List.map_cons, rds_flds_inv b]
theorem rds_vals {zs : List Str} : ∀ {kvs : List (Key × V)}, ValN zs kvs → RDs J (kvs.map (·.2)) (kvs.map fun p => vDt p.2)
  | [], _ => .nil
  | p :: kvs, h => by
    obtain ⟨z, i, rfl, _⟩ := h p List.mem_cons_self
    exact .cons (.int i) (rds_vals fun q hq => h q (List.mem_cons_of_mem _ hq))
theorem kvs_of {zs : List Str} : ∀ {kvs kvs' : List (Key × V)}, ValN zs kvs → kvs'.map (·.1) = kvs.map (·.1) → RDs J (kvs'.map (·.2)) (kvs.map fun p => vDt p.2) → kvs' = kvs
  | [], [], _, _, _ => rfl
  | [], _ :: _, _, e, _ => by cases e
  | _ :: _, [], _, e, _ => by cases e
  | p :: kvs, (k, v) :: kvs', h, e, r => by
    obtain ⟨z, i, rfl, _⟩ := h p List.mem_cons_self
    rw [List.map_cons, List.map_cons] at e
    obtain ⟨e1, e2⟩ := List.cons.inj e
    cases r with
    | cons a b =>
      have a' : RD J v (.int i) := a
      cases a'
      have e1' : k = Sum.inr z := e1
      rw [e1', kvs_of (fun q hq => h q (List.mem_cons_of_mem _ hq)) e2 b]
theorem rd_lS {v : V} {zs : List Str} (h : RD J v (lS zs)) : ∃ a, v = .ref a ∧ J a = some (.lst (zs.map V.str)) := by
  cases h with
  | lst e r =>
    cases r.strs_inv
    exact ⟨_, rfl, e⟩
theorem rd_tF {v : V} {fs : List Fld} (h : RD J v (tF fs)) : ∃ a, v = .ref a ∧ J a = some (.tup (fs.map fun f => V.str f.tx)) := by
  cases h with
  | tup e r =>
    cases rds_flds_inv r
    exact ⟨_, rfl, e⟩
theorem rd_dicD {v : V} {zs : List Str} {kvs : List (Key × V)} (hv : ValN zs kvs) (h : RD J v (dicD kvs)) : ∃ a, v = .ref a ∧ J a = some (.dK kvs) := by
  cases h with
  | @dic a kvs' ks ds e k r =>
    have e2 := kvs_of hv k r
    subst e2
    exact ⟨_, rfl, e⟩
theorem rd_ByD {v : V} {C : Addr} {fs : List Fld} (h : RD J v (ByD C fs)) : ∃ a t, v = .ref a ∧ (∃ dx, J a = some (.ins C dx [("signed_fields", .ref t)])) ∧ J t = some (.tup (fs.map fun f => V.str f.tx)) := by
  obtain ⟨a, dx, gs, rfl, e, k, r⟩ := obj_inv h
  match gs, k, r with
  | [(g, u)], k, r =>
    cases r with
    | cons a1 _ =>
      obtain ⟨t, rfl, et⟩ := rd_tF a1
      have kg : g = "signed_fields" := (List.cons.inj k).1
      subst kg
      exact ⟨a, t, rfl, ⟨dx, e⟩, et⟩
end
/-! ### promises -/
def dTake : Dsp := fun ds ω Q => ∃ (n : Nat) (m : Int), ds = [.ptr 0, dI m] ∧ ω = [some (.box n)] ∧ n ≤ 100000 ∧ 0 < m ∧ m < 2 ^ 200 ∧ ∀ j : Nat, (j : Int) < m → Q (dI (j : Int)) [some (.box (n + 1))]
def dValue : Dsp := fun ds ω Q => ∃ (n : Nat) (zs : List Str), ds = [.ptr 0, .dat (lS zs)] ∧ ω = [some (.box n)] ∧ n ≤ 80000 ∧ (∀ z ∈ zs, NameZ z) ∧ 1 ≤ zs.length ∧ zs.length ≤ 100 ∧
  ∀ kvs : List (Key × V), ValN zs kvs → 1 ≤ kvs.length → kvs.length ≤ 6 → Q (.dat (dicD kvs)) [some (.box (n + 219))]
def dFields : Dsp := fun ds ω Q => ∃ (n m : Nat) (ns : List Str), ds = [.ptr 0, .dat (lS ns), dI (m : Int)] ∧ ω = [some (.box n)] ∧ 1 ≤ m ∧ m ≤ 3 ∧ n ≤ 80000 ∧ 1 ≤ ns.length ∧ ns.length ≤ 100 ∧ (∀ y ∈ ns, NameZ y) ∧
  ∀ fs : List Fld, 1 ≤ fs.length → fs.length ≤ m → (∀ f ∈ fs, f.Ok) → Q (.dat (tF fs)) [some (.box (n + 7))]
def dAnswer : Dsp := fun ds ω Q => ∃ (fs : List Fld) (zs : List Str) (kvs : List (Key × V)), ds = [.dat (tF fs), .dat (dicD kvs)] ∧ ω = [] ∧ fs.length ≤ 3 ∧ (∀ f ∈ fs, f.Ok) ∧ ValN zs kvs ∧
  Q (.dat (.tup (fs.map fun f => .int (f.ans kvs)))) []
def dOrder (C : Addr) : Dsp := fun ds ω Q => ∃ fs : List Fld, ds = [.dat (tF fs)] ∧ ω = [] ∧ 1 ≤ fs.length ∧ fs.length ≤ 3 ∧ (∀ f ∈ fs, f.Ok) ∧ Q (.dat (ByD C fs)) []
def dSigned : Dsp := fun ds ω Q => ∃ f : Fld, ds = [dS f.tx] ∧ ω = [] ∧ f.Ok ∧ Q (dB true) []
def dFlds (C : Addr) : Dsp := fun ds ω Q => ∃ fs : List Fld, ds = [.dat (ByD C fs)] ∧ ω = [] ∧ Q (.dat (tF fs)) []
def dCall (C : Addr) : Dsp := fun ds ω Q => ∃ (fs : List Fld) (y : Str) (zs : List Str) (kvs : List (Key × V)), ds = [.dat (ByD C fs), dS y, .dat (dicD kvs)] ∧ ω = [] ∧ fs.length ≤ 3 ∧ (∀ f ∈ fs, f.Ok) ∧ NameZ y ∧ ValOk zs kvs ∧
  Q (.dat (.tup (fs.map fun f => .int (f.ans kvs)))) []
def dIni (C : Addr) : Dsp := fun ds ω Q => ∃ fs : List Fld, ds = .ptr 0 :: (fs.map fun f => Dt.str f.tx).map D.dat ∧ ω = [some (.ins C [] [])] ∧ 1 ≤ fs.length ∧ fs.length ≤ 3 ∧ (∀ f ∈ fs, f.Ok) ∧ Q (.dat .non) [some (.ins C ["signed_fields"] [tF fs])]
section
variable {P : Program} {w : World} {K : PySem.W.Frag} {mg : Str → Option Value} {base : Heap} {k : Nat} {f C : Addr} {fd : FuncData} {ps : List Str}
theorem br_take (G : FnOk P w K mg base CX0 k f fd ps spTake) : FnOk P w K mg base CX0 k f fd ps (spD dTake) := G.imp fun vs H R E h => by
  obtain ⟨W, F, ω, ds, Q, rp, rs, ⟨n, m, rfl, rfl, hn, m0, m1, h⟩, q⟩ := h
  obtain ⟨v, u, rfl, ⟨_, rfl⟩, ru⟩ := rvs2 rs
  cases ru
  refine ⟨W.loc 0, m, n, rfl, rp.cell 0 _ rfl, hn, m0, m1, fun r H' r0 r1 B' kk => ?_⟩
  obtain ⟨j, rfl⟩ : ∃ j : Nat, r = j := ⟨r.toNat, by omega⟩
  exact q W _ (dI j) _ H' (Ext.refl W) (rp.drawn kk B') (RD.int _) (h j r1)
theorem br_value (G : FnOk P w K mg base CX0 k f fd ps (spValue K)) : FnOk P w K mg base CX0 k f fd ps (spD dValue) := G.imp fun vs H R E h => by
  obtain ⟨W, F, ω, ds, Q, rp, rs, ⟨n, zs, rfl, rfl, hn, hz, l1, l2, h⟩, q⟩ := h
  obtain ⟨v, u, rfl, ⟨_, rfl⟩, ru⟩ := rvs2 rs
  obtain ⟨a, rfl, ea⟩ := rd_lS ru
  refine ⟨W.loc 0, a, n, zs, rfl, rp.cell 0 _ rfl, hn, rp.sj _ _ ea, hz, l1, l2, ne_of_none ea rp.off.1, fun p H' kvs hp hp' hv k1 k6 _ B' kk => ?_⟩
  obtain ⟨e1, rp1⟩ := rp.drawn1 kk B' hp hp'
  exact q _ _ (.dat (dicD kvs)) _ H' e1 rp1 (RD.dic upd_same rfl (rds_vals hv)) (h kvs hv k1 k6)
theorem br_fields (G : FnOk P w K mg base CX0 k f fd ps spFields) : FnOk P w K mg base CX0 k f fd ps (spD dFields) := G.imp fun vs H R E h => by
  obtain ⟨W, F, ω, ds, Q, rp, rs, ⟨n, m, ns, rfl, rfl, m1, m3, hn, l1, l2, hz, h⟩, q⟩ := h
  cases rs with
  | @cons v _ vs _ rv rs =>
    obtain ⟨u, u2, rfl, ru, ru2⟩ := rvs2 rs
    obtain ⟨_, rfl⟩ := rv
    obtain ⟨a, rfl, ea⟩ := rd_lS ru
    cases ru2
    refine ⟨W.loc 0, a, m, n, ns, rfl, m1, m3, rp.cell 0 _ rfl, hn, rp.sj _ _ ea, l1, l2, hz, ne_of_none ea rp.off.1, fun p H' fs hp hp' f1 f3 ok B' kk => ?_⟩
    obtain ⟨e1, rp1⟩ := rp.drawn1 kk B' hp hp'
    exact q _ _ (.dat (tF fs)) _ H' e1 rp1 (RD.tup upd_same (rds_flds fs)) (h fs f1 f3 ok)
theorem rds_ans : ∀ {J : Hp} (kvs : List (Key × V)) (fs : List Fld), RDs J (fs.map fun f => V.int (f.ans kvs)) (fs.map fun f => Dt.int (f.ans kvs))
  | _, _, [] => .nil
  | _, kvs, f :: fs => .cons (.int _) (rds_ans kvs fs)
theorem br_answer (G : FnOk P w K mg base CX0 k f fd ps spAnswer) : FnOk P w K mg base CX0 k f fd ps (spD dAnswer) := G.imp fun vs H R E h => by
  obtain ⟨W, F, ω, ds, Q, rp, rs, ⟨fs, zs, kvs, rfl, rfl, l3, ok, hv, h⟩, q⟩ := h
  obtain ⟨v, u, rfl, rv, ru⟩ := rvs2 rs
  obtain ⟨a, rfl, ea⟩ := rd_tF rv
  obtain ⟨d, rfl, ed⟩ := rd_dicD hv ru
  refine ⟨a, d, fs, zs, kvs, rfl, rp.sj _ _ ea, l3, ok, rp.sj _ _ ed, hv, fun p H' s hp hp' => ?_⟩
  obtain ⟨e1, rp1⟩ := rp.grown1 s hp hp'
  exact q _ _ (.dat (.tup (fs.map fun f => .int (f.ans kvs)))) _ H' e1 rp1 (RD.tup upd_same (rds_ans kvs fs)) h
theorem br_order (G : FnOk P w K mg base CX0 k f fd ps (spOrder C)) : FnOk P w K mg base CX0 k f fd ps (spD (dOrder C)) := G.imp fun vs H R E h => by
  obtain ⟨W, F, ω, ds, Q, rp, rs, ⟨fs, rfl, rfl, l1, l3, ok, h⟩, q⟩ := h
  obtain ⟨v, rfl, rv⟩ := rvs1 rs
  obtain ⟨a, rfl, ea⟩ := rd_tF rv
  refine ⟨a, fs, rfl, rp.sj _ _ ea, l1, l3, ok, fun b t H' hb ht B s => ?_⟩
  obtain ⟨dx, h1, h2⟩ := B
  obtain ⟨e1, rp1⟩ := rp.grown1 s ht h2
  have nbt : b ≠ t := fun z => by
    rw [z, h2] at h1
    cases h1
  obtain ⟨e2, rp2⟩ := rp1.plus (p := b) ((upd_ne nbt).trans (rp.sj.free hb)) (rp.sf.free hb) h1 fun l c e => by simp at e
  refine q _ _ (.dat (ByD C fs)) _ H' (e1.trans e2) rp2 (RD.obj upd_same rfl (.cons (.tup ((upd_ne nbt.symm).trans upd_same) (rds_flds fs)) .nil)) h
theorem br_signed (G : FnOk P w K mg base CX0 k f fd ps spSigned) : FnOk P w K mg base CX0 k f fd ps (spD dSigned) := G.imp fun vs H R E h => by
  obtain ⟨W, F, ω, ds, Q, rp, rs, ⟨fl, rfl, rfl, ok, h⟩, q⟩ := h
  obtain ⟨v, rfl, rv⟩ := rvs1 rs
  cases rv
  exact ⟨fl, rfl, ok, fun H' s => q W _ (dB true) _ H' (Ext.refl W) (rp.grown s) (RD.bl _) h⟩
theorem br_flds (G : FnOk P w K mg base CX0 k f fd ps (spByF C)) : FnOk P w K mg base CX0 k f fd ps (spD (dFlds C)) := G.imp fun vs H R E h => by
  obtain ⟨W, F, ω, ds, Q, rp, rs, ⟨fs, rfl, rfl, h⟩, q⟩ := h
  obtain ⟨v, rfl, rv⟩ := rvs1 rs
  obtain ⟨a, t, rfl, ⟨dx, e1⟩, e2⟩ := rd_ByD rv
  exact ⟨a, t, fs, rfl, ⟨dx, rp.sj _ _ e1, rp.sj _ _ e2⟩, q W _ (.dat (tF fs)) _ H (Ext.refl W) rp (RD.tup e2 (rds_flds fs)) h⟩
theorem br_call (G : FnOk P w K mg base CX0 k f fd ps (spByC C)) : FnOk P w K mg base CX0 k f fd ps (spD (dCall C)) := G.imp fun vs H R E h => by
  obtain ⟨W, F, ω, ds, Q, rp, rs, ⟨fs, y, zs, kvs, rfl, rfl, l3, ok, hy, hv, h⟩, q⟩ := h
  cases rs with
  | @cons v _ vs _ rv rs =>
    obtain ⟨u, u2, rfl, ru, ru2⟩ := rvs2 rs
    obtain ⟨a, t, rfl, ⟨dx, e1⟩, e2⟩ := rd_ByD rv
    cases ru
    obtain ⟨d, rfl, ed⟩ := rd_dicD hv.is ru2
    refine ⟨a, t, d, y, fs, zs, kvs, rfl, ⟨dx, rp.sj _ _ e1, rp.sj _ _ e2⟩, l3, ok, hy, rp.sj _ _ ed, hv, fun p H' s hp hp' => ?_⟩
    obtain ⟨x1, rp1⟩ := rp.grown1 s hp hp'
    exact q _ _ (.dat (.tup (fs.map fun f => .int (f.ans kvs)))) _ H' x1 rp1 (RD.tup upd_same (rds_ans kvs fs)) h
theorem br_ini (G : FnR P w K mg base CX0 k f (spByR C)) : FnR P w K mg base CX0 k f (spD (dIni C)) := G.imp fun vs H R E h => by
  obtain ⟨W, F, ω, ds, Q, rp, rs, ⟨fs, rfl, rfl, l1, l3, ok, h⟩, q⟩ := h
  cases rs with
  | @cons v _ us _ rv rr =>
    obtain ⟨_, rfl⟩ := rv
    cases rds_flds_inv (rest_rds rr)
    obtain ⟨dx, fs0, ea, k1, k2⟩ := rp.cell 0 _ rfl
    obtain rfl : fs0 = [] := by
      cases fs0 with
      | nil => rfl
      | cons x r => cases k1
    obtain ⟨o1, o2⟩ := rp.own 0 _ rfl rfl
    refine ⟨[V.ref (W.loc 0)], _, rfl, rfl, by rw [List.length_map]; exact line_le (by omega), fun p hp => ?_⟩
    have npa : W.loc 0 ≠ p := ne_of_none ea hp
    refine ⟨W.loc 0, dx, p, fs, rfl, (upd_ne npa).trans ea, upd_same, l1, l3, ok, fun H' s => ?_⟩
    have sp : Same H (upd H p (.tup (fs.map fun f => V.str f.tx))) := Same.new hp
    have sn : ∀ c, c ≠ W.loc 0 → ∀ o, H c = some o → upd H' (W.loc 0) (.ins C dx [("signed_fields", .ref p)]) c = some o := fun c n o e => by
      rw [upd_ne n]
      exact s _ _ (sp _ _ e)
    have jp : W.J p = none := rp.sj.free hp
    have fp : F p = none := rp.sf.free hp
    refine q ⟨upd W.J p (.tup (fs.map fun f => V.str f.tx)), W.loc, W.n⟩ [some (.ins C ["signed_fields"] [tF fs])] (.dat .non) _ _ ⟨?_, Nat.le_refl _, fun _ _ => rfl⟩ ⟨rp.n, fun c o e => ?_, fun c o e => sn c (ne_of_none e o2) o (rp.sf _ _ e), fun c o e => ?_, fun l c e => ?_, fun l c e _ => ?_, fun l l' c c' e e' _ _ _ => ?_⟩ RD.non h
    · intro c u e
      show upd W.J p _ c = some u
      rw [upd_ne (ne_of_none e jp)]
      exact e
    · have e' : upd W.J p (.tup (fs.map fun f => V.str f.tx)) c = some o := e
      by_cases z : c = p
      · subst z
        rw [upd_same] at e'
        rw [upd_ne npa.symm, ← e']
        exact s _ _ upd_same
      · rw [upd_ne z] at e'
        exact sn c (ne_of_none e' o1) o (rp.sj _ _ e')
    · show upd W.J p _ c = none
      rw [upd_ne (ne_of_none e fp)]
      exact rp.dj _ _ e
    · obtain ⟨rfl, rfl⟩ := one_om e
      exact ⟨dx, _, upd_same, rfl, .cons (.tup upd_same (rds_flds fs)) .nil⟩
    · obtain ⟨rfl, rfl⟩ := one_om e
      exact ⟨(upd_ne npa).trans o1, o2⟩
    · rw [(one_om e).1, (one_om e').1]
end
end Dl
set_option Elab.async false
set_option linter.all false
set_option maxRecDepth 100000
set_option maxHeartbeats 2000000
/-! EB: the promises of what the heap's texts walk; opposite, str of an order. -/
namespace Dl
open PySem PySem.Spec PyProof.Rows L2 G StX NdefX
/-! ### opposite fields -/
def _root_.G.Fld.opp (f : Fld) : Fld := ⟨!f.neg, f.nm, if f.neg then f.nm else ("-" : Str) ++ f.nm⟩
theorem cs_minus : cs ("-" : Str) = [45] := by decide +kernel
theorem opp_ok {f : Fld} (h : f.Ok) : f.opp.Ok := by
  refine ⟨h.1, ?_⟩
  show cs (if f.neg then f.nm else ("-" : Str) ++ f.nm) = (if !f.neg then [45] else []) ++ cs f.nm
  cases f.neg with
  | true => rfl
  | false =>
    show cs (("-" : Str) ++ f.nm) = [45] ++ cs f.nm
    rw [cs_app, cs_minus]
theorem tx_of {f : Fld} (h : f.Ok) : f.tx = if f.neg then ("-" : Str) ++ f.nm else f.nm := by
  apply cs_inj
  rw [h.2]
  cases f.neg with
  | true =>
    show [45] ++ cs f.nm = cs (("-" : Str) ++ f.nm)
    rw [cs_app, cs_minus]
  | false => rfl
theorem opp_opp {f : Fld} (h : f.Ok) : f.opp.opp = f := by
  have e := tx_of h
  obtain ⟨n, y, z⟩ := f
  cases n with
  | true =>
    have e' : z = ("-" : Str) ++ y := e
    rw [e']
    rfl
  | false =>
    have e' : z = y := e
    rw [e']
    rfl
theorem cut_rest (z : Str) : cs (cutS z (some 1) none) = (cs z).drop 1 := by
  have h1 : HT.sIx z.length 0 (some 1) = min 1 z.length := HT.sIx_nat z.length 0 1
  show ((cs z).drop (HT.sIx z.length 0 (some 1))).take (HT.sIx z.length z.length none - HT.sIx z.length 0 (some 1)) = _
  rw [HT.sIx_none, h1, ← cs_len]
  cases h : cs z with
  | nil => rfl
  | cons c l =>
    have e : min 1 (c :: l).length = 1 := Nat.min_eq_left (by simp)
    rw [e]
    show ((c :: l).drop 1).take ((c :: l).length - 1) = _
    rw [List.take_of_length_le (by simp)]
theorem cut_neg {f : Fld} (h : f.Ok) (n : f.neg = true) : cutS f.tx (some 1) none = f.opp.tx := by
  apply cs_inj
  rw [cut_rest, (opp_ok h).2, h.2]
  show _ = (if !f.neg then [45] else []) ++ cs f.nm
  rw [n]
  rfl
theorem opp_pos {f : Fld} (h : f.Ok) (n : f.neg = false) : ("-" : Str) ++ f.tx = f.opp.tx := by
  apply cs_inj
  rw [cs_app, (opp_ok h).2, h.2, cs_minus]
  show _ = (if !f.neg then [45] else []) ++ cs f.nm
  rw [n]
  rfl
def spOpp : Sp := fun vs H Q _ => ∃ f : Fld, vs = [.str f.tx] ∧ f.Ok ∧ Q (.str f.opp.tx) H
def spStr (C : Addr) : Sp := fun vs H Q _ => ∃ (a t : Addr) (fs : List Fld), vs = [.ref a] ∧ ByAt C H a t fs ∧ fs.length ≤ 3 ∧ (∀ f ∈ fs, f.Ok) ∧ ∀ z : Str, Q (.str z) H
def dOpp : Dsp := fun ds ω Q => ∃ f : Fld, ds = [dS f.tx] ∧ ω = [] ∧ f.Ok ∧ Q (dS f.opp.tx) []
def dStr (C : Addr) : Dsp := fun ds ω Q => ∃ fs : List Fld, ds = [.dat (ByD C fs)] ∧ ω = [] ∧ fs.length ≤ 3 ∧ (∀ f ∈ fs, f.Ok) ∧ ∀ z : Str, Q (dS z) []
section
variable {P : Program} {w : World} {K : PySem.W.Frag} {mg : Str → Option Value} {base : Heap} (T : Top K mg)
theorem o_isint : FnOk P w K mg base CX0 1 T.f_isint T.fd_isint ["value", "low", "high"] spIsInt := ok_isint T.F_isint T.m_isinstance T.m_int T.m_bool
theorem o_isname : FnOk P w K mg base CX0 1 T.f_isname T.fd_isname ["value"] spIsName := ok_isname T.F_isname T.c_MOST_LETTERS T.c_LETTERS T.m_isinstance T.m_str T.m_len T.m_all
theorem o_needname : FnOk P w K mg base CX0 2 T.f_needname T.fd_needname ["value"] spNeedName := ok_needname T.F_needname T.F_isname T.b_isname T.g_isname (o_isname T)
theorem o_isvalue : FnOk P w K mg base CX0 2 T.f_isvalue T.fd_isvalue ["value"] spIsValue := ok_isvalue T.F_isvalue T.F_isname T.b_isname T.g_isname (o_isname T) T.F_isint T.b_isint T.g_isint (o_isint T) T.c_MOST_FIELDS T.c_GREATEST T.m_isinstance T.m_dict T.m_len T.m_all
theorem o_needvalue : FnOk P w K mg base CX0 3 T.f_needvalue T.fd_needvalue ["value"] spNeedValue := ok_needvalue T.F_needvalue T.F_isvalue T.b_isvalue T.g_isvalue (o_isvalue T)
theorem o_needrecord : FnOk P w K mg base CX0 4 T.f_needrecord T.fd_needrecord ["key", "value"] spNeedRecord := ok_needrecord T.F_needrecord T.k_needname T.b_needname T.g_needname (o_needname T) T.k_needvalue T.b_needvalue T.g_needvalue (o_needvalue T)
theorem o_signed' : FnOk P w K mg base CX0 2 T.f_signed T.fd_signed ["value"] spSigned := ok_signed T.F_signed T.F_isname T.b_isname T.g_isname (o_isname T) T.m_isinstance T.m_str
theorem o_signed : FnOk P w K mg base CX0 2 T.f_signed T.fd_signed ["value"] (spD dSigned) := br_signed (o_signed' T)
theorem o_numfor : FnOk P w K mg base CX0 2 T.f_numfor T.fd_numfor ["field", "value"] spNumberFor := ok_numfor T.F_numfor T.F_negative T.b_negative T.g_negative T.c_MISSING
theorem o_ini : FnR P w K mg base CX0 3 T.f_ini (spD (dIni T.C)) := br_ini (ok_byinit T.F_ini T.cl T.n_sf (o_signed' T) T.g_signed T.k_signed T.b_signed T.c_MOST_IN_ORDER T.m_len)
theorem o_flds : FnOk P w K mg base CX0 1 T.f_flds T.fd_flds ["self"] (spD (dFlds T.C)) := br_flds (ok_byfields T.F_flds T.cl T.n_sf)
theorem o_ans : FnOk P w K mg base CX0 3 T.f_ans T.fd_ans ["self", "value"] (spByA T.C) := ok_byans T.F_ans T.cl T.n_sf (o_numfor T) T.g_numfor T.k_numfor T.b_numfor T.m_tuple
theorem o_call : FnOk P w K mg base CX0 5 T.f_call T.fd_call ["self", "key", "value"] (spD (dCall T.C)) := br_call (ok_bycall T.F_call T.cl T.k_needrecord T.b_needrecord T.g_needrecord (o_needrecord T) T.me T.b_ans (o_ans T))
theorem o_names : FnOk P w K mg base CX0 3 T.f_names T.fd_names ["_law_box_here", "_law_many"] spNames := ok_names T.F_names T.F_take T.b_take T.g_take T.F_mixed T.b_mixed T.g_mixed T.m_len T.m_list T.m_range
theorem o_value : FnOk P w K mg base CX0 3 T.f_value T.fd_value ["_law_box_here", "_law_fields_here"] (spD dValue) := br_value (ok_value T.F_value T.F_take T.b_take T.g_take T.F_mixed T.b_mixed T.g_mixed T.F_number T.b_number T.g_number T.m_len T.m_list T.m_min)
theorem o_fields : FnOk P w K mg base CX0 2 T.f_fields T.fd_fields ["_law_box_here", "_law_names_here", "_law_most"] (spD dFields) := br_fields (ok_fields T.F_fields T.F_take T.b_take T.g_take T.m_range T.m_len T.m_tuple)
theorem o_answer : FnOk P w K mg base CX0 1 T.f_answer T.fd_answer ["_law_fields_here", "_law_worth"] (spD dAnswer) := br_answer (ok_answer T.F_answer T.m_tuple)
theorem o_order : FnOk P w K mg base CX0 5 T.f_order T.fd_order ["_law_fields_here"] (spD (dOrder T.C)) := br_order (ok_order T.F_order T.mkC (ok_byinit T.F_ini T.cl T.n_sf (o_signed' T) T.g_signed T.k_signed T.b_signed T.c_MOST_IN_ORDER T.m_len) T.g_By T.m_len)
theorem o_take : FnOk P w K mg base CX0 1 T.f_take T.fd_take ["_law_box_here", "_law_many"] (spD dTake) := br_take (ok_take T.F_take)
theorem o_opp' : FnOk P w K mg base CX0 2 T.f_opposite T.fd_opposite ["field"] spOpp := by
  have GN : FnOk P w K mg base CX0 1 T.f_negative T.fd_negative ["field"] spNegative := ok_negative T.F_negative
  refine T.F_opposite.ok scOpposite (fun vs H Q E h => ?_) (fun cdv A outer s H vs Q E hr h => ?_)
  · obtain ⟨z, rfl, _⟩ := h
    rfl
  · obtain ⟨f, rfl, hz, q⟩ := h
    refine ⟨_, pss_one (ps_ret (pe_ifExp (pt_val (pe_call GN hr rfl T.g_negative T.k_negative T.b_negative .nil pass0 (pa_cons (pv 0) pa_nil))) (pe_slice sl_str (pv 0) (po_some pe_int) po_none) (pe_joined (.cons pe_str (.cons (pe_fmt (pv 0)) .nil))))), ?_⟩
    have h9 := hz.len
    refine ⟨_, rfl, f, rfl, hz, _, rfl, ?_⟩
    cases e : f.neg with
    | true =>
      refine iteT ⟨_, rfl, _, rfl, f.tx, rfl, small_size (by omega), ?_⟩
      rw [cut_neg hz e]
      exact q
    | false =>
      refine iteF ?_
      have q' : Q (.str (("-" : Str) ++ f.tx)) H := by rw [opp_pos hz e]; exact q
      refine ⟨_, rfl, by decide, _, rfl, .inl ⟨f.tx, rfl, small_size (by omega), _, rfl, ?_, ?_⟩⟩
      · simp only [app_len]
        have e0 : Str.empty.length = 0 := rfl
        have e1 : (("-" : String) : Str).length = 1 := rfl
        rw [sizeLine_eq]
        omega
      · exact q'
theorem o_opp : FnOk P w K mg base CX0 2 T.f_opposite T.fd_opposite ["field"] (spD dOpp) := (o_opp' T).imp fun vs H R E h => by
  obtain ⟨W, F, ω, ds, Q, rp, rs, ⟨f, rfl, rfl, ok, h⟩, q⟩ := h
  obtain ⟨v, rfl, rv⟩ := rvs1 rs
  cases rv
  exact ⟨f, rfl, ok, q W _ (dS f.opp.tx) _ H (Ext.refl W) rp (RD.str _) h⟩
theorem o_str' : FnOk P w K mg base CX0 1 T.f_str T.fd_str ["self"] (spStr T.C) := by
  refine T.F_str.ok scByStr (fun vs H Q E h => ?_) (fun cdv A outer s H vs Q E hr h => ?_)
  · obtain ⟨a, t, fs, rfl, _⟩ := h
    rfl
  · obtain ⟨a, t, fs, rfl, ⟨dx, ha, ht⟩, l3, ok, q⟩ := h
    refine ⟨_, pss_one (ps_ret (pe_m1 PySem.F.slot_str_join PySem.F.type_str_join mt_join pe_str (pe_fld (pv 0) rfl))), ?_⟩
    refine ⟨⟨_, rfl⟩, _, rfl, a, T.C, dx, _, _, rfl, ha, T.cl, T.n_sf, rfl, _, t, fs.map (·.tx), rfl, rfl, .inr ?_, ?_, q _⟩
    · rw [List.map_map]
      exact .of ht
    · have e1 : ((" " : String) : Str).length = 1 := rfl
      have e2 : ((fs.map (·.tx)).map (·.length)).sum ≤ 9 * fs.length := by
        clear ht l3 q
        induction fs with
        | nil => exact Nat.le_refl _
        | cons f r ih =>
          have h9 := (ok f List.mem_cons_self).len
          have := ih fun g hg => ok g (List.mem_cons_of_mem _ hg)
          simp only [List.map_cons, List.sum_cons, List.length_cons] at *
          omega
      rw [List.length_map, e1]
      omega
theorem o_str : FnOk P w K mg base CX0 1 T.f_str T.fd_str ["self"] (spD (dStr T.C)) := (o_str' T).imp fun vs H R E h => by
  obtain ⟨W, F, ω, ds, Q, rp, rs, ⟨fs, rfl, rfl, l3, ok, h⟩, q⟩ := h
  obtain ⟨v, rfl, rv⟩ := rvs1 rs
  obtain ⟨a, t, rfl, ⟨dx, e1⟩, e2⟩ := rd_ByD rv
  exact ⟨a, t, fs, rfl, ⟨dx, rp.sj _ _ e1, rp.sj _ _ e2⟩, l3, ok, fun z => q W _ (dS z) _ H (Ext.refl W) rp (RD.str _) (h z)⟩
end
end Dl
set_option Elab.async false
set_option linter.all false
set_option maxRecDepth 100000
set_option maxHeartbeats 2000000
/-! EC: orders joined, turned, compared; the law's turned fields. -/
namespace Dl
open PySem PySem.Spec PyProof.Rows L2 G StX NdefX
/-- an order, or a field in its place -/
def FO (C : Addr) (y : Dt) (gs : List Fld) : Prop := y = ByD C gs ∨ ∃ f : Fld, y = .str f.tx ∧ gs = [f]
def dFO (C : Addr) : Dsp := fun ds ω Q => ∃ (y : Dt) (gs : List Fld), ds = [.dat y] ∧ ω = [] ∧ FO C y gs ∧ (∀ f ∈ gs, f.Ok) ∧ Q (.dat (tF gs)) []
def dAdd (C : Addr) : Dsp := fun ds ω Q => ∃ (y : Dt) (fs gs : List Fld), ds = [.dat (ByD C fs), .dat y] ∧ ω = [] ∧ FO C y gs ∧ 1 ≤ fs.length ∧ fs.length + gs.length ≤ 3 ∧ (∀ f ∈ fs, f.Ok) ∧ (∀ f ∈ gs, f.Ok) ∧ Q (.dat (ByD C (fs ++ gs))) []
def dRadd (C : Addr) : Dsp := fun ds ω Q => ∃ (y : Dt) (fs gs : List Fld), ds = [.dat (ByD C fs), .dat y] ∧ ω = [] ∧ FO C y gs ∧ 1 ≤ fs.length ∧ fs.length + gs.length ≤ 3 ∧ (∀ f ∈ fs, f.Ok) ∧ (∀ f ∈ gs, f.Ok) ∧ Q (.dat (ByD C (gs ++ fs))) []
def dNeg (C : Addr) : Dsp := fun ds ω Q => ∃ fs : List Fld, ds = [.dat (ByD C fs)] ∧ ω = [] ∧ 1 ≤ fs.length ∧ fs.length ≤ 3 ∧ (∀ f ∈ fs, f.Ok) ∧ Q (.dat (ByD C (fs.map Fld.opp))) []
/-- what an order is compared with -/
def EqR (C : Addr) (y : Dt) : Prop := isiO C y = some false ∨ ∃ gs : List Fld, gs.length ≤ 3 ∧ (∀ f ∈ gs, f.Ok) ∧ y = ByD C gs
def dEq (C : Addr) : Dsp := fun ds ω Q => ∃ (y : Dt) (fs : List Fld), ds = [.dat (ByD C fs), .dat y] ∧ ω = [] ∧ fs.length ≤ 3 ∧ (∀ f ∈ fs, f.Ok) ∧ EqR C y ∧ ∀ b : Bool, (b = true ↔ y = ByD C fs) → Q (dB b) []
def dTurned : Dsp := fun ds ω Q => ∃ fs : List Fld, ds = [.dat (tF fs)] ∧ ω = [] ∧ fs.length ≤ 3 ∧ (∀ f ∈ fs, f.Ok) ∧ Q (.dat (tF (fs.map Fld.opp))) []
theorem freeze_dats (ω : Om) : ∀ xs : List Dt, freezeAll ω (xs.map D.dat) = some (xs, ω)
  | [] => rfl
  | x :: xs => by
    rw [List.map_cons, freezeAll]
    show (match freezeAll ω (xs.map D.dat) with
      | none => none
      | some (ds, ω2) => some (x :: ds, ω2)) = _
    rw [freeze_dats ω xs]
theorem freeze_two (ω : Om) (xs ys : List Dt) : freezeAll ω (xs.map D.dat ++ (ys.map D.dat ++ [])) = some (xs ++ ys, ω) := by
  rw [List.append_nil, ← List.map_append]
  exact freeze_dats ω _
theorem fld_sh {f : Fld} (h : f.Ok) (k : Nat) : Sh k (.str f.tx) := by
  refine Sh.str k fun c hc => ?_
  have e : c ∈ cs f.tx := hc
  rw [h.2] at e
  rcases List.mem_append.mp e with e | e
  · cases hn : f.neg with
    | true =>
      rw [hn] at e
      have := List.mem_singleton.mp e
      omega
    | false =>
      rw [hn] at e
      cases e
  · have := (h.1.1 c e)
    omega
theorem tF_sh {fs : List Fld} (h : ∀ f ∈ fs, f.Ok) (k : Nat) : Sh (k + 1) (tF fs) := Sh.tup fun x hx => by
  obtain ⟨f, hf, rfl⟩ := List.mem_map.mp hx
  exact fld_sh (h f hf) k
theorem tF_noB (fs : List Fld) : noB (tF fs) = true := by
  show noBs (fs.map fun f => Dt.str f.tx) = true
  refine noBs_of fun x hx => ?_
  obtain ⟨f, _, rfl⟩ := List.mem_map.mp hx
  rfl
section
variable {P : Program} {w : World} {K : PySem.W.Frag} {mg : Str → Option Value} {base : Heap} (T : Top K mg)
theorem o_fieldsof : FnOk P w K mg base CX0 3 T.f_fieldsof T.fd_fieldsof ["operand"] (spD (dFO T.C)) := by
  refine fnd_ok T.F_fieldsof scFieldsOf (fun ds ω Q h => ?_) fun cdv A outer s H E hr => ⟨_, dss_cons (ds_if (dt_val (de_isiO T.io (fun _ => T.m_isinstance) (fun _ => T.g_By) (de_var (k := 0)))) (dss_one (ds_ret (de_fld (de_var (k := 0)) T.cl T.n_sf))) dss_nil)
    (dss_cons (ds_if (dt_val (de_call (fun _ => o_signed T) (fun _ => hr.mono (by decide)) (fun _ => T.g_signed) (fun _ => T.k_signed) (fun _ => T.b_signed) (da_cons (de_var (k := 0)) da_nil))) (dss_one (ds_ret (de_tup (da_cons (de_var (k := 0)) da_nil)))) dss_nil) (dss_one ds_never)), ?_⟩
  · obtain ⟨y, gs, rfl, _⟩ := h
    rfl
  · rintro ds ω Q ⟨y, gs, rfl, rfl, hy, ok, q⟩
    rcases hy with rfl | ⟨f, rfl, rfl⟩
    · refine ⟨ByD T.C gs, true, rfl, if_pos rfl, iteT ?_⟩
      exact ⟨_, _, _, rfl, rfl, .inl ⟨_, _, rfl, q⟩⟩
    · refine ⟨.str f.tx, false, rfl, rfl, iteF ?_⟩
      refine ⟨_, _, rfl, ⟨f, rfl, rfl, ok f List.mem_cons_self, ?_⟩⟩
      exact ⟨[.str f.tx], _, rfl, (by show 1 ≤ 7000; decide), .inl ⟨_, _, rfl, q⟩⟩
theorem o_add : FnOk P w K mg base CX0 5 T.f_add T.fd_add ["self", "other"] (spD (dAdd T.C)) := by
  refine fnd_ok T.F_add scByAdd (fun ds ω Q h => ?_) fun cdv A outer s H E hr => ⟨_, dss_cons (ds_set (i := 2) scByAdd.nd (de_call (fun _ => o_fieldsof T) (fun _ => hr.mono (by decide)) (fun _ => T.g_fieldsof) (fun _ => T.k_fieldsof) (fun _ => T.b_fieldsof) (da_cons (de_var (k := 1)) da_nil)))
    (dss_cons (ds_set (i := 3) scByAdd.nd (de_tup (da_star (de_fld (de_var (k := 0)) T.cl T.n_sf) (da_star (de_var (k := 2)) da_nil))))
    (dss_one (ds_ret (de_makeS (fun _ => T.mkC) (fun _ => o_ini T) (fun _ => hr.mono (by decide)) (fun _ => T.g_By) (de_var (k := 3)))))), ?_⟩
  · obtain ⟨y, fs, gs, rfl, _⟩ := h
    rfl
  · rintro ds ω Q ⟨y, fs, gs, rfl, rfl, hy, l1, l3, ok1, ok2, q⟩
    refine ⟨_, _, rfl, ⟨y, gs, rfl, rfl, hy, ok2, ?_⟩⟩
    refine ⟨_, _, _, rfl, rfl, _, .inr rfl, _, .inr rfl, _, _, freeze_two _ _ _, ?_, ?_⟩
    · rw [List.length_append, List.length_map, List.length_map]
      omega
    · refine ⟨_, .inr rfl, ⟨fs ++ gs, by simp, rfl, by rw [List.length_append]; omega, by rw [List.length_append]; omega, fun f hf => ?_, rfl, _, _, rfl, .inl ⟨_, _, rfl, q⟩⟩⟩
      rcases List.mem_append.mp hf with hf | hf
      · exact ok1 f hf
      · exact ok2 f hf
theorem o_radd : FnOk P w K mg base CX0 5 T.f_radd T.fd_radd ["self", "other"] (spD (dRadd T.C)) := by
  refine fnd_ok T.F_radd scByRadd (fun ds ω Q h => ?_) fun cdv A outer s H E hr => ⟨_, dss_cons (ds_set (i := 2) scByRadd.nd (de_call (fun _ => o_fieldsof T) (fun _ => hr.mono (by decide)) (fun _ => T.g_fieldsof) (fun _ => T.k_fieldsof) (fun _ => T.b_fieldsof) (da_cons (de_var (k := 1)) da_nil)))
    (dss_cons (ds_set (i := 3) scByRadd.nd (de_tup (da_star (de_var (k := 2)) (da_star (de_fld (de_var (k := 0)) T.cl T.n_sf) da_nil))))
    (dss_one (ds_ret (de_makeS (fun _ => T.mkC) (fun _ => o_ini T) (fun _ => hr.mono (by decide)) (fun _ => T.g_By) (de_var (k := 3)))))), ?_⟩
  · obtain ⟨y, fs, gs, rfl, _⟩ := h
    rfl
  · rintro ds ω Q ⟨y, fs, gs, rfl, rfl, hy, l1, l3, ok1, ok2, q⟩
    refine ⟨_, _, rfl, ⟨y, gs, rfl, rfl, hy, ok2, ?_⟩⟩
    refine ⟨_, .inr rfl, _, _, _, rfl, rfl, _, .inr rfl, _, _, freeze_two _ _ _, ?_, ?_⟩
    · rw [List.length_append, List.length_map, List.length_map]
      omega
    · refine ⟨_, .inr rfl, ⟨gs ++ fs, by simp, rfl, by rw [List.length_append]; omega, by rw [List.length_append]; omega, fun f hf => ?_, rfl, _, _, rfl, .inl ⟨_, _, rfl, q⟩⟩⟩
      rcases List.mem_append.mp hf with hf | hf
      · exact ok2 f hf
      · exact ok1 f hf
theorem o_neg : FnOk P w K mg base CX0 5 T.f_neg T.fd_neg ["self"] (spD (dNeg T.C)) := by
  refine fnd_ok T.F_neg scByNeg (fun ds ω Q h => ?_) fun cdv A outer s H E hr => ⟨_, dss_cons (ds_setLc (i := 1) (own := [("field", 2)]) rfl scByNeg.nd (sw_true rfl rfl rfl (by decide +kernel)) (di_seq (de_fld (de_var (k := 0)) T.cl T.n_sf)) (blkOk_by (own := [("field", 2)]) (N := nByNeg) (sc := defScope sByNeg) (by decide +kernel))
      (dg_name (k := 2) (fun _ => scByNeg.nd)) dts_nil (de_call (fun _ => o_opp T) (fun _ => hr.mono (by decide)) (fun _ => T.g_opposite) (fun _ => T.k_opposite) (fun _ => T.b_opposite) (da_cons (de_var (k := 2)) da_nil)))
    (dss_one (ds_ret (de_makeS (fun _ => T.mkC) (fun _ => o_ini T) (fun _ => hr.mono (by decide)) (fun _ => T.g_By) (de_var (k := 1))))), ?_⟩
  · obtain ⟨fs, rfl, _⟩ := h
    rfl
  · rintro ds ω Q ⟨fs, rfl, rfl, l1, l3, ok, q⟩
    refine ⟨_, _, _, rfl, rfl, fs.map (fun f => Dt.str f.tx), .inr rfl, ?_, fun i acc ω => ω = [] ∧ acc = (fs.take i).map fun f => Dt.str f.opp.tx, ⟨rfl, rfl⟩, ?_, ?_, ?_⟩
    · rw [List.length_map]
      exact line_lt (by omega)
    · rintro i acc ω hi ⟨rfl, rfl⟩
      refine ⟨rfl, ?_⟩
      rw [List.length_map, List.length_take]
      omega
    · rintro i x acc ω hx ⟨rfl, rfl⟩
      rw [List.getElem?_map] at hx
      obtain ⟨f, hf, rfl⟩ := Option.map_eq_some_iff.mp hx
      refine ⟨_, _, rfl, ⟨f, rfl, rfl, ok f (List.mem_of_getElem? hf), ⟨_, _, rfl, rfl, ?_⟩⟩⟩
      rw [List.take_add_one, hf, List.map_append]
      rfl
    · rintro acc ω ⟨rfl, rfl⟩
      rw [List.length_map, List.take_length]
      refine ⟨fs.map (fun f => Dt.str f.opp.tx), .inl rfl, ⟨fs.map Fld.opp, ?_, rfl, by rw [List.length_map]; exact l1, by rw [List.length_map]; exact l3, fun f hf => ?_, rfl, _, _, rfl, .inl ⟨_, _, rfl, q⟩⟩⟩
      · rw [List.map_map (f := Fld.opp)]
        rfl
      · obtain ⟨g, hg, rfl⟩ := List.mem_map.mp hf
        exact opp_ok (ok g hg)
theorem o_eq : FnOk P w K mg base CX0 1 T.f_eq T.fd_eq ["self", "other"] (spD (dEq T.C)) := by
  refine fnd_ok T.F_eq scByEq (fun ds ω Q h => ?_) fun cdv A outer s H E hr => ⟨_, dss_one (ds_ret (de_and (de_isiO T.io (fun _ => T.m_isinstance) (fun _ => T.g_By) (de_var (k := 1))) (de_one (de_eq (fun _ => hr.units) (de_fld (de_var (k := 0)) T.cl T.n_sf) (de_fld (de_var (k := 1)) T.cl T.n_sf))))), ?_⟩
  · obtain ⟨y, fs, rfl, _⟩ := h
    rfl
  · rintro ds ω Q ⟨y, fs, rfl, rfl, l3, ok, hy, q⟩
    rcases hy with hy | ⟨gs, g3, okg, rfl⟩
    · refine ⟨y, false, rfl, hy, iteF (.inl ⟨_, _, rfl, q false ⟨fun z => (by cases z), fun z => ?_⟩⟩)⟩
      rw [z] at hy
      have hy' : (if T.C = T.C then some true else none) = some false := hy
      rw [if_pos rfl] at hy'
      cases hy'
    · refine ⟨ByD T.C gs, true, rfl, if_pos rfl, iteT ?_⟩
      refine ⟨_, _, _, rfl, rfl, _, _, _, rfl, rfl, tF fs, tF gs, rfl, rfl, (tF_sh ok 0).mono (by decide), (tF_sh okg 0).mono (by decide), .inl ⟨_, _, rfl, q _ ?_⟩⟩
      show eqb (tF fs) (tF gs) = true ↔ _
      rw [eqb_iff _ _ (tF_noB fs) (tF_noB gs)]
      constructor
      · intro e
        show Dt.obj _ _ [tF gs] = Dt.obj _ _ [tF fs]
        rw [e]
      · intro e
        have e' : Dt.obj T.C ["signed_fields"] [tF gs] = Dt.obj T.C ["signed_fields"] [tF fs] := e
        injection e' with _ _ e2
        exact (List.cons.inj e2).1.symm
theorem first_of {f : Fld} (h : f.Ok) : ∃ c, atI f.tx.cps.toList 0 = some c ∧ eqb (.str ⟨#[c]⟩) (.str "-") = f.neg := by
  obtain ⟨c, e1, e2⟩ := h.first
  refine ⟨c, e1, ?_⟩
  have e3 : eqb (.str ⟨#[c]⟩) (.str "-") = decide ((V.str ⟨#[c]⟩ : V) = V.str "-") := by
    by_cases z : (⟨#[c]⟩ : Str) = "-"
    · rw [decide_eq_true (congrArg V.str z)]
      exact (eqb_iff _ _ rfl rfl).mpr (congrArg Dt.str z)
    · rw [decide_eq_false (fun y => z (V.str.inj y))]
      exact eqb_ne rfl rfl fun y => z (by injection y)
  rw [e3, e2]
theorem o_turned : FnOk P w K mg base CX0 1 T.f_turned T.fd_turned ["_law_fields_here"] (spD dTurned) := by
  refine fnd_ok T.F_turned scTurned (fun ds ω Q h => ?_) fun cdv A outer s H E hr => ⟨_, dss_one (ds_ret (de_tuple (fun _ => T.m_tuple) (da_cons (de_lc (own := [("_law_field", 1)]) (fun _ => rfl) (fun _ => scTurned.nd) (di_seq (de_var (k := 0))) (fun _ => blkOk_by (own := [("_law_field", 1)]) (N := nTurned) (sc := defScope sTurned) (by decide +kernel)) (dg_name (k := 1) (fun _ => scTurned.nd)) dts_nil
    (de_if (dt_eq (fun _ => hr.units) (de_at (de_var (k := 1)) de_int) de_str) (de_slice (de_var (k := 1)) (do_some de_int) do_none) (de_add de_str (de_var (k := 1))))) da_nil))), ?_⟩
  · obtain ⟨fs, rfl, _⟩ := h
    rfl
  · rintro ds ω Q ⟨fs, rfl, rfl, l3, ok, q⟩
    refine ⟨fs.map (fun f => Dt.str f.tx), .inr rfl, ?_, fun i acc ω => ω = [] ∧ acc = (fs.take i).map fun f => Dt.str f.opp.tx, ⟨rfl, rfl⟩, ?_, ?_, ?_⟩
    · rw [List.length_map]
      exact line_lt (by omega)
    · rintro i acc ω hi ⟨rfl, rfl⟩
      refine ⟨rfl, ?_⟩
      rw [List.length_map, List.length_take]
      omega
    · rintro i x acc ω hx ⟨rfl, rfl⟩
      rw [List.getElem?_map] at hx
      obtain ⟨f, hf, rfl⟩ := Option.map_eq_some_iff.mp hx
      have okf := ok f (List.mem_of_getElem? hf)
      have h9 := okf.len
      obtain ⟨c, e1, e2⟩ := first_of okf
      have fin : ∀ z : Str, z = f.opp.tx → ∃ y ω5, freeze [] (dS z) = some (y, ω5) ∧ ω5 = [] ∧ (fs.take i).map (fun f => Dt.str f.opp.tx) ++ [y] = (fs.take (i + 1)).map fun f => Dt.str f.opp.tx := fun z hz => ⟨_, _, rfl, rfl, by
        rw [List.take_add_one, hf, List.map_append, hz]
        rfl⟩
      have c1 : c ∈ cs f.tx := by
        have : ∃ j : Nat, (cs f.tx)[j]? = some c := by
          unfold atI at e1
          cases e3 : ixN f.tx.cps.toList.length 0 with
          | none =>
            rw [e3] at e1
            cases e1
          | some j =>
            rw [e3] at e1
            exact ⟨j, e1⟩
        obtain ⟨j, hj⟩ := this
        exact List.mem_of_getElem? hj
      have csm : c < 0x110000 := by
        rw [okf.2] at c1
        rcases List.mem_append.mp c1 with e | e
        · cases hn : f.neg with
          | true =>
            rw [hn] at e
            have := List.mem_singleton.mp e
            omega
          | false =>
            rw [hn] at e
            cases e
        · have := (okf.1.1 c e)
          omega
      refine Or.inr ⟨f.tx, c, rfl, by omega, e1, ?_⟩
      refine ⟨.str ⟨#[c]⟩, .str "-", rfl, rfl, Sh.str 60 (fun x hx => by rw [List.mem_singleton.mp (show x ∈ [c] from hx)]; exact csm), Sh.str 60 (by decide +kernel), ?_⟩
      show if eqb (.str ⟨#[c]⟩) (.str "-") = true then _ else _
      rw [e2]
      cases hn : f.neg with
      | true =>
        refine iteT (.inr (.inr ⟨f.tx, rfl, by omega, ?_⟩))
        exact fin _ (cut_neg okf hn)
      | false =>
        refine iteF ⟨?_, fin _ (opp_pos okf hn)⟩
        have e1 : (("-" : String) : Str).length = 1 := rfl
        rw [e1]
        exact line_le (by omega)
    · rintro acc ω ⟨rfl, rfl⟩
      rw [List.length_map, List.take_length]
      have e0 : (fs.map Fld.opp).map (fun f => Dt.str f.tx) = fs.map fun f => Dt.str f.opp.tx := by
        rw [List.map_map]
        rfl
      have q' : Q (.dat (.tup (fs.map fun f => Dt.str f.opp.tx))) [] := by
        rw [← e0]
        exact q
      exact Or.inl ⟨_, _, rfl, q'⟩
end
end Dl
set_option Elab.async false
set_option linter.all false
set_option maxRecDepth 100000
set_option maxHeartbeats 4000000
/-! ED: orders joined and turned, as the law asks. -/
namespace Dl
open PySem PySem.Spec PyProof.Rows L2 G StX NdefX
theorem nameA : NameZ "a" := ⟨fun c hc => by
  have e : cs ("a" : Str) = [97] := by decide +kernel
  rw [e] at hc
  have := List.mem_singleton.mp hc
  omega, by decide, by decide⟩
theorem addF {a b : List Fld} {ω : Om} {Q : DK} (l : a.length + b.length ≤ 7000) (q : Q (.dat (tF (a ++ b))) ω) : rAddD (.dat (tF a)) (.dat (tF b)) ω Q := by
  refine Or.inr ⟨_, _, rfl, rfl, by rw [List.length_map, List.length_map]; exact l, ?_⟩
  rw [← List.map_append]
  exact q
def objF : Dt → Dt
  | .obj _ _ [t] => t
  | x => x
def negF : Dt → Dt
  | .int i => .int (0 - i)
  | x => x
abbrev L8 (r : List Fld) (g : Fld) : List (List Fld) := [r ++ [g], r ++ [g], [g] ++ r, [g] ++ r, r.map Fld.opp, (r ++ [g]).map Fld.opp, r.map Fld.opp ++ [g].map Fld.opp, (r.map Fld.opp).map Fld.opp]
abbrev D8 (r : List Fld) (g : Fld) : List (List Fld) := [r ++ [g], r ++ [g], [g] ++ r, [g] ++ r, r.map Fld.opp, (r ++ [g]).map Fld.opp, (r ++ [g]).map Fld.opp, r]
theorem opp_all {r : List Fld} (h : ∀ f ∈ r, f.Ok) : (r.map Fld.opp).map Fld.opp = r := by
  rw [List.map_map]
  refine (List.map_congr_left fun f hf => ?_).trans (List.map_id r)
  exact opp_opp (h f hf)
theorem L8_eq {r : List Fld} {g : Fld} (h : ∀ f ∈ r, f.Ok) : L8 r g = D8 r g := by
  unfold L8 D8
  rw [opp_all h, List.map_append]
theorem okApp {r s : List Fld} (h : ∀ f ∈ r, f.Ok) (h' : ∀ f ∈ s, f.Ok) : ∀ f ∈ r ++ s, f.Ok := fun f hf => by
  rcases List.mem_append.mp hf with hf | hf
  · exact h f hf
  · exact h' f hf
theorem okOpp {r : List Fld} (h : ∀ f ∈ r, f.Ok) : ∀ f ∈ r.map Fld.opp, f.Ok := fun f hf => by
  obtain ⟨g, hg, rfl⟩ := List.mem_map.mp hf
  exact opp_ok (h g hg)
theorem L8_ok {r : List Fld} {g : Fld} (h : ∀ f ∈ r, f.Ok) (hg : ∀ f ∈ [g], f.Ok) (l1 : 1 ≤ r.length) (l2 : r.length ≤ 2) : ∀ fs ∈ L8 r g, 1 ≤ fs.length ∧ fs.length ≤ 3 ∧ ∀ f ∈ fs, f.Ok := by
  have ha := okApp h hg
  have hb := okApp hg h
  intro fs hf
  simp only [L8, List.mem_cons, List.not_mem_nil, or_false] at hf
  rcases hf with rfl | rfl | rfl | rfl | rfl | rfl | rfl | rfl
  · exact ⟨by simp, by simp; omega, ha⟩
  · exact ⟨by simp, by simp; omega, ha⟩
  · exact ⟨by simp, by simp; omega, hb⟩
  · exact ⟨by simp, by simp; omega, hb⟩
  · exact ⟨by simp; omega, by simp; omega, okOpp h⟩
  · exact ⟨by simp, by simp; omega, okOpp ha⟩
  · exact ⟨by simp, by simp; omega, okApp (okOpp h) (okOpp hg)⟩
  · exact ⟨by simp; omega, by simp; omega, okOpp (okOpp h)⟩
theorem sh_ints (is : List Int) : Sh 60 (.tup (is.map Dt.int)) := (Sh.tup (k := 0) fun x hx => by
  obtain ⟨i, _, rfl⟩ := List.mem_map.mp hx
  exact Sh.int 0 i).mono (by decide)
theorem nb_ints (is : List Int) : noB (.tup (is.map Dt.int)) = true := noBs_of fun x hx => by
  obtain ⟨i, _, rfl⟩ := List.mem_map.mp hx
  rfl
theorem ans_tup (fs : List Fld) (kvs : List (Key × V)) : Dt.tup (fs.map fun f => Dt.int (f.ans kvs)) = .tup ((fs.map fun f => f.ans kvs).map Dt.int) := by
  rw [List.map_map]
  rfl
theorem sh_ans (fs : List Fld) (kvs : List (Key × V)) : Sh 60 (.tup (fs.map fun f => Dt.int (f.ans kvs))) := by
  rw [ans_tup]
  exact sh_ints _
theorem nb_ans (fs : List Fld) (kvs : List (Key × V)) : noB (.tup (fs.map fun f => Dt.int (f.ans kvs))) = true := by
  rw [ans_tup]
  exact nb_ints _
theorem ans_opp (f : Fld) (kvs : List (Key × V)) : 0 - f.ans kvs = f.opp.ans kvs := by
  unfold Fld.ans
  show _ = if (!f.neg) = true then _ else _
  cases f.neg with
  | true =>
    show 0 - (-(numK kvs f.nm)) = numK kvs f.nm
    omega
  | false =>
    show 0 - (numK kvs f.nm) = -(numK kvs f.nm)
    omega
theorem sh_tFs {L : List (List Fld)} (h : ∀ fs ∈ L, ∀ f ∈ fs, f.Ok) : Sh 60 (.lst (L.map tF)) := sh_lst fun x hx => by
  obtain ⟨fs, hf, rfl⟩ := List.mem_map.mp hx
  exact (tF_sh (h fs hf) 0).mono (by decide)
theorem nb_tFs (L : List (List Fld)) : noB (.lst (L.map tF)) = true := noB_lst fun x hx => by
  obtain ⟨fs, hf, rfl⟩ := List.mem_map.mp hx
  exact tF_noB fs
def dRight : Dsp := fun ds ω Q => ∃ (n : Nat) (zs : List Str), ds = [.ptr 0, .dat (lS zs)] ∧ ω = [some (.box n)] ∧ n ≤ 50000 ∧ 1 ≤ zs.length ∧ zs.length ≤ 100 ∧ (∀ z ∈ zs, NameZ z) ∧ ∀ m : Nat, m ≤ n + 1000 → Q (dB true) [some (.box m)]
section
variable {P : Program} {w : World} {K : PySem.W.Frag} {mg : Str → Option Value} {base : Heap} (T : Top K mg)
theorem o_right : FnOk P w K mg base CX0 6 T.f_right T.fd_right ["_law_box_here", "_law_names_here"] (spD dRight) := by
  refine fnd_ok T.F_right scRight (fun ds ω Q h => ?_) fun cdv A outer s H E hr => ⟨_, (dss_cons (ds_set (i := 2) scRight.nd (de_lst (da_cons (de_call (fun _ => o_fields T) (fun _ => hr.mono (by decide)) (fun _ => T.g_fields) (fun _ => T.k_fields) (fun _ => T.b_fields) (da_cons (de_var (k := 0)) (da_cons (de_var (k := 1)) (da_cons de_int da_nil)))) (da_cons (de_call (fun _ => o_fields T) (fun _ => hr.mono (by decide)) (fun _ => T.g_fields) (fun _ => T.k_fields) (fun _ => T.b_fields) (da_cons (de_var (k := 0)) (da_cons (de_var (k := 1)) (da_cons de_int da_nil)))) da_nil))))
    (dss_cons (ds_par3 (i := 3) (j := 4) (k := 5) rfl scRight.nd (by decide) (by decide) (by decide) (da_cons (de_call (fun _ => o_order T) (fun _ => hr.mono (by decide)) (fun _ => T.g_order) (fun _ => T.k_order) (fun _ => T.b_order) (da_cons (de_at (de_var (k := 2)) de_int) da_nil)) (da_cons (de_call (fun _ => o_order T) (fun _ => hr.mono (by decide)) (fun _ => T.g_order) (fun _ => T.k_order) (fun _ => T.b_order) (da_cons (de_at (de_var (k := 2)) de_int) da_nil)) (da_cons (de_at (de_at (de_var (k := 2)) de_int) de_int) da_nil))))
    (dss_cons (ds_set (i := 6) scRight.nd (de_lst (da_cons (de_addO (fun _ => T.ao) (fun _ => o_add T) (fun _ => o_radd T) (fun _ => T.b_add) (fun _ => T.b_radd) (fun _ => hr.mono (by decide)) (fun _ => hr.mono (by decide)) (de_var (k := 3)) (de_var (k := 4))) (da_cons (de_addO (fun _ => T.ao) (fun _ => o_add T) (fun _ => o_radd T) (fun _ => T.b_add) (fun _ => T.b_radd) (fun _ => hr.mono (by decide)) (fun _ => hr.mono (by decide)) (de_var (k := 3)) (de_var (k := 5))) (da_cons (de_addO (fun _ => T.ao) (fun _ => o_add T) (fun _ => o_radd T) (fun _ => T.b_add) (fun _ => T.b_radd) (fun _ => hr.mono (by decide)) (fun _ => hr.mono (by decide)) (de_var (k := 4)) (de_var (k := 3))) (da_cons (de_addO (fun _ => T.ao) (fun _ => o_add T) (fun _ => o_radd T) (fun _ => T.b_add) (fun _ => T.b_radd) (fun _ => hr.mono (by decide)) (fun _ => hr.mono (by decide)) (de_var (k := 5)) (de_var (k := 3))) (da_cons (de_negO (fun _ => T.ng) (fun _ => T.ngf) (fun _ => o_neg T) (fun _ => T.b_neg) (fun _ => hr.mono (by decide)) (de_var (k := 3))) (da_cons (de_negO (fun _ => T.ng) (fun _ => T.ngf) (fun _ => o_neg T) (fun _ => T.b_neg) (fun _ => hr.mono (by decide)) (de_addO (fun _ => T.ao) (fun _ => o_add T) (fun _ => o_radd T) (fun _ => T.b_add) (fun _ => T.b_radd) (fun _ => hr.mono (by decide)) (fun _ => hr.mono (by decide)) (de_var (k := 3)) (de_var (k := 4)))) (da_cons (de_addO (fun _ => T.ao) (fun _ => o_add T) (fun _ => o_radd T) (fun _ => T.b_add) (fun _ => T.b_radd) (fun _ => hr.mono (by decide)) (fun _ => hr.mono (by decide)) (de_negO (fun _ => T.ng) (fun _ => T.ngf) (fun _ => o_neg T) (fun _ => T.b_neg) (fun _ => hr.mono (by decide)) (de_var (k := 3))) (de_negO (fun _ => T.ng) (fun _ => T.ngf) (fun _ => o_neg T) (fun _ => T.b_neg) (fun _ => hr.mono (by decide)) (de_var (k := 4)))) (da_cons (de_negO (fun _ => T.ng) (fun _ => T.ngf) (fun _ => o_neg T) (fun _ => T.b_neg) (fun _ => hr.mono (by decide)) (de_negO (fun _ => T.ng) (fun _ => T.ngf) (fun _ => o_neg T) (fun _ => T.b_neg) (fun _ => hr.mono (by decide)) (de_var (k := 3)))) da_nil))))))))))
    (dss_cons (ds_set (i := 7) scRight.nd (de_lst (da_cons (de_add (de_at (de_var (k := 2)) de_int) (de_at (de_var (k := 2)) de_int)) (da_cons (de_add (de_at (de_var (k := 2)) de_int) (de_at (de_var (k := 2)) de_int)) (da_cons (de_add (de_at (de_var (k := 2)) de_int) (de_at (de_var (k := 2)) de_int)) (da_cons (de_add (de_at (de_var (k := 2)) de_int) (de_at (de_var (k := 2)) de_int)) (da_cons (de_call (fun _ => o_turned T) (fun _ => hr.mono (by decide)) (fun _ => T.g_turned) (fun _ => T.k_turned) (fun _ => T.b_turned) (da_cons (de_at (de_var (k := 2)) de_int) da_nil)) da_nil)))))))
    (dss_cons (ds_set (i := 7) scRight.nd (de_add (de_add (de_var (k := 7)) (de_rep (de_lst (da_cons (de_call (fun _ => o_turned T) (fun _ => hr.mono (by decide)) (fun _ => T.g_turned) (fun _ => T.k_turned) (fun _ => T.b_turned) (da_cons (de_add (de_at (de_var (k := 2)) de_int) (de_at (de_var (k := 2)) de_int)) da_nil)) da_nil)) de_int)) (de_lst (da_cons (de_at (de_var (k := 2)) de_int) da_nil))))
    (dss_cons (ds_if (dt_w (dw_or (dt_ne (fun _ => hr.units) (de_lc (own := [("_law_order_here", 8)]) (fun _ => rfl) (fun _ => scRight.nd) (di_seq (de_var (k := 6))) (fun _ => blkOk_by (own := [("_law_order_here", 8)]) (N := nRight) (sc := defScope sRight) (by decide +kernel)) (dg_name (k := 8) (fun _ => scRight.nd)) dts_nil (de_prop (de_var (k := 8)) (fun _ => T.cl) (fun _ => T.pf) (fun _ => o_flds T) (fun _ => hr.mono (by decide)) (fun _ => T.b_flds))) (de_var (k := 7))) (dw_or1 (dt_ne (fun _ => hr.units) (de_lst (da_cons (de_prop (de_var (k := 3)) (fun _ => T.cl) (fun _ => T.pf) (fun _ => o_flds T) (fun _ => hr.mono (by decide)) (fun _ => T.b_flds)) (da_cons (de_prop (de_var (k := 4)) (fun _ => T.cl) (fun _ => T.pf) (fun _ => o_flds T) (fun _ => hr.mono (by decide)) (fun _ => T.b_flds)) da_nil))) (de_var (k := 2)))))) (dss_one (ds_ret de_bl)) dss_nil)
    (dss_cons (ds_set (i := 9) scRight.nd (de_call (fun _ => o_value T) (fun _ => hr.mono (by decide)) (fun _ => T.g_value) (fun _ => T.k_value) (fun _ => T.b_value) (da_cons (de_var (k := 0)) (da_cons (de_var (k := 1)) da_nil))))
    (dss_cons (ds_for PassesOwn.never rfl (di_zip (fun _ => T.m_zip) (da_cons (de_var (k := 6)) (da_cons (de_var (k := 7)) da_nil))) (dg_tup (n := 2) (fun _ => rfl) (dgs_cons (dg_name (k := 8) (fun _ => scRight.nd)) (dgs_cons (dg_name (k := 10) (fun _ => scRight.nd)) dgs_nil))) (dss_one (ds_if (dt_w (dw_or (dt_ne (fun _ => hr.units) (de_callO (de_var (k := 8)) (fun _ => T.co) (fun _ => raw0 (o_call T) T.b_call) (fun _ => hr.mono (by decide)) (da_cons de_str (da_cons (de_var (k := 9)) da_nil))) (de_call (fun _ => o_answer T) (fun _ => hr.mono (by decide)) (fun _ => T.g_answer) (fun _ => T.k_answer) (fun _ => T.b_answer) (da_cons (de_var (k := 10)) (da_cons (de_var (k := 9)) da_nil)))) (dw_or (dt_not (dt_eqO T.nf T.eo (fun _ => o_eq T) (fun _ => T.b_eq) (fun _ => hr.mono (by decide)) (de_var (k := 8)) (de_call (fun _ => o_order T) (fun _ => hr.mono (by decide)) (fun _ => T.g_order) (fun _ => T.k_order) (fun _ => T.b_order) (da_cons (de_var (k := 10)) da_nil)))) (dw_or1 (dt_neO T.nf T.eo (fun _ => o_eq T) (fun _ => T.b_eq) (fun _ => hr.mono (by decide)) (de_var (k := 8)) (de_call (fun _ => o_order T) (fun _ => hr.mono (by decide)) (fun _ => T.g_order) (fun _ => T.k_order) (fun _ => T.b_order) (da_cons (de_var (k := 10)) da_nil))))))) (dss_one (ds_ret de_bl)) dss_nil)))
    (dss_cons (ds_if (dt_ne (fun _ => hr.units) (de_callO (de_negO (fun _ => T.ng) (fun _ => T.ngf) (fun _ => o_neg T) (fun _ => T.b_neg) (fun _ => hr.mono (by decide)) (de_var (k := 3))) (fun _ => T.co) (fun _ => raw0 (o_call T) T.b_call) (fun _ => hr.mono (by decide)) (da_cons de_str (da_cons (de_var (k := 9)) da_nil))) (de_tuple (fun _ => T.m_tuple) (da_cons (de_lc (own := [("_law_part", 12)]) (fun _ => rfl) (fun _ => scRight.nd) (di_seq (de_callO (de_var (k := 3)) (fun _ => T.co) (fun _ => raw0 (o_call T) T.b_call) (fun _ => hr.mono (by decide)) (da_cons de_str (da_cons (de_var (k := 9)) da_nil)))) (fun _ => blkOk_by (own := [("_law_part", 12)]) (N := nRight) (sc := defScope sRight) (by decide +kernel)) (dg_name (k := 12) (fun _ => scRight.nd)) dts_nil (de_sub de_int (de_var (k := 12)))) da_nil))) (dss_one (ds_ret de_bl)) dss_nil)
    (dss_cons (ds_set (i := 11) scRight.nd (de_var (k := 3)))
    (dss_cons (ds_aug (i := 3) (op := .Add) scRight.nd (de_var (k := 4)) (ip_addO T.ao (o_add T) (o_radd T) T.b_add T.b_radd (hr.mono (by decide)) (hr.mono (by decide))) lift_augO)
    (dss_one (ds_ret (de_eq (fun _ => hr.units) (de_lst (da_cons (de_prop (de_var (k := 11)) (fun _ => T.cl) (fun _ => T.pf) (fun _ => o_flds T) (fun _ => hr.mono (by decide)) (fun _ => T.b_flds)) (da_cons (de_prop (de_var (k := 3)) (fun _ => T.cl) (fun _ => T.pf) (fun _ => o_flds T) (fun _ => hr.mono (by decide)) (fun _ => T.b_flds)) (da_cons (de_prop (de_var (k := 4)) (fun _ => T.cl) (fun _ => T.pf) (fun _ => o_flds T) (fun _ => hr.mono (by decide)) (fun _ => T.b_flds)) da_nil)))) (de_lst (da_cons (de_at (de_var (k := 2)) de_int) (da_cons (de_add (de_at (de_var (k := 2)) de_int) (de_at (de_var (k := 2)) de_int)) (da_cons (de_at (de_var (k := 2)) de_int) da_nil)))))))))))))))))), ?_⟩
  · obtain ⟨n, zs, rfl, _⟩ := h
    rfl
  · rintro ds ω Q ⟨n, zs, rfl, rfl, hn, l1, l2, hz, q⟩
    rw [show startD nRight [D.ptr 0, .dat (lS zs)] = [some (.ptr 0), some (.dat (lS zs)), none, none, none, none, none, none, none, none, none, none, none] from rfl]
    refine ⟨_, _, rfl, rfl, n, rfl, ⟨n, 2, zs, rfl, rfl, by decide, by decide, by omega, l1, l2, hz, fun r0 a1 a2 ok0 => ?_⟩⟩
    refine ⟨_, _, rfl, rfl, n + 7, rfl, ⟨n + 7, 1, zs, rfl, rfl, by decide, by decide, by omega, l1, l2, hz, fun r1 b1 b2 ok1 => ?_⟩⟩
    obtain ⟨g, rfl⟩ : ∃ g, r1 = [g] := by
      match r1, b1, b2 with
      | [g], _, _ => exact ⟨g, rfl⟩
    have c1 : r0.length + [g].length ≤ 3 := Nat.succ_le_succ a2
    have c2 : [g].length + r0.length ≤ 3 := by rw [Nat.add_comm]; exact c1
    have c3 : r0.length ≤ 3 := by omega
    have c4 : r0.length + [g].length ≤ 7000 := by omega
    have c5 : [g].length + r0.length ≤ 7000 := by omega
    have g1 : 1 ≤ [g].length := Nat.le_refl 1
    have g3 : [g].length ≤ 3 := by show 1 ≤ 3; decide
    have oa := okApp ok0 ok1
    have la1 : 1 ≤ (r0 ++ [g]).length := by rw [List.length_append]; omega
    have la3 : (r0 ++ [g]).length ≤ 3 := by rw [List.length_append]; exact c1
    have lo1 : 1 ≤ (r0.map Fld.opp).length := by rw [List.length_map]; exact a1
    have lo3 : (r0.map Fld.opp).length ≤ 3 := by rw [List.length_map]; exact c3
    have lo4 : (r0.map Fld.opp).length + ([g].map Fld.opp).length ≤ 3 := by rw [List.length_map]; exact c1
    refine ⟨[tF r0, tF [g]], _, rfl, (by show 2 ≤ 7000; decide), ?_⟩
    refine .inl ⟨_, _, .inl rfl, rfl, _, _, rfl, ⟨r0, rfl, rfl, a1, c3, ok0, ?_⟩⟩
    refine .inl ⟨_, _, .inl rfl, rfl, _, _, rfl, ⟨[g], rfl, rfl, g1, g3, ok1, ?_⟩⟩
    refine .inl ⟨_, _, .inl rfl, rfl, .inl ⟨_, _, .inr rfl, rfl, ?_⟩⟩
    try dsimp only [List.set_cons_zero, List.set_cons_succ, List.cons_append, List.nil_append, List.length_cons, List.length_nil, Nat.reduceAdd]
    -- the sums
    refine .inl ⟨_, _, _, _, rfl, rfl, ⟨_, r0, [g], rfl, rfl, .inl rfl, a1, c1, ok0, ok1, ⟨_, _, _, rfl⟩, ?_⟩⟩
    refine .inr (.inl ⟨_, _, _, rfl, rfl, ⟨_, r0, [g], rfl, rfl, .inr ⟨g, rfl, rfl⟩, a1, c1, ok0, ok1, ⟨_, _, _, rfl⟩, ?_⟩⟩)
    refine .inl ⟨_, _, _, _, rfl, rfl, ⟨_, [g], r0, rfl, rfl, .inl rfl, g1, c2, ok1, ok0, ⟨_, _, _, rfl⟩, ?_⟩⟩
    refine .inr (.inr ⟨_, _, _, rfl, rfl, ⟨_, r0, [g], rfl, rfl, .inr ⟨g, rfl, rfl⟩, a1, c1, ok0, ok1, ⟨_, _, _, rfl⟩, ?_⟩⟩)
    refine ⟨_, _, rfl, ⟨r0, rfl, rfl, a1, c3, ok0, ?_⟩⟩
    refine .inl ⟨_, _, _, _, rfl, rfl, ⟨_, r0, [g], rfl, rfl, .inl rfl, a1, c1, ok0, ok1, ⟨_, _, _, rfl⟩, ⟨_, _, rfl, ⟨r0 ++ [g], rfl, rfl, la1, la3, oa, ?_⟩⟩⟩⟩
    refine ⟨_, _, rfl, ⟨r0, rfl, rfl, a1, c3, ok0, ⟨_, _, rfl, ⟨[g], rfl, rfl, g1, g3, ok1, .inl ⟨_, _, _, _, rfl, rfl, ⟨_, r0.map Fld.opp, [g].map Fld.opp, rfl, rfl, .inl rfl, lo1, lo4, okOpp ok0, okOpp ok1, ⟨_, _, _, rfl⟩, ?_⟩⟩⟩⟩⟩⟩
    refine ⟨_, _, rfl, ⟨r0, rfl, rfl, a1, c3, ok0, ⟨_, _, rfl, ⟨r0.map Fld.opp, rfl, rfl, lo1, lo3, okOpp ok0, ?_⟩⟩⟩⟩
    refine ⟨(L8 r0 g).map (ByD T.C), _, rfl, (by show 8 ≤ 7000; decide), ?_⟩
    try dsimp only [List.set_cons_zero, List.set_cons_succ, List.cons_append, List.nil_append, List.length_cons, List.length_nil, Nat.reduceAdd]
    -- what is due
    refine .inl ⟨_, _, .inl rfl, rfl, .inl ⟨_, _, .inl rfl, rfl, addF (a := r0) (b := [g]) c4 ?_⟩⟩
    refine .inl ⟨_, _, .inl rfl, rfl, .inl ⟨_, _, .inl rfl, rfl, addF (a := r0) (b := [g]) c4 ?_⟩⟩
    refine .inl ⟨_, _, .inl rfl, rfl, .inl ⟨_, _, .inl rfl, rfl, addF (a := [g]) (b := r0) c5 ?_⟩⟩
    refine .inl ⟨_, _, .inl rfl, rfl, .inl ⟨_, _, .inl rfl, rfl, addF (a := [g]) (b := r0) c5 ?_⟩⟩
    refine .inl ⟨_, _, .inl rfl, rfl, _, _, rfl, ⟨r0, rfl, rfl, c3, ok0, ?_⟩⟩
    refine ⟨[tF (r0 ++ [g]), tF (r0 ++ [g]), tF ([g] ++ r0), tF ([g] ++ r0), tF (r0.map Fld.opp)], _, rfl, (by show 5 ≤ 7000; decide), ?_⟩
    refine .inl ⟨_, _, .inl rfl, rfl, .inl ⟨_, _, .inl rfl, rfl, addF (a := r0) (b := [g]) c4 ⟨_, _, rfl, ⟨r0 ++ [g], rfl, rfl, la3, oa, ?_⟩⟩⟩⟩
    refine ⟨[tF ((r0 ++ [g]).map Fld.opp)], _, rfl, (by show 1 ≤ 7000; decide), ?_⟩
    refine ⟨_, 2, rfl, rfl, by decide, by decide, (by show 1 * 2 ≤ 7000; decide), ?_⟩
    refine .inl ⟨_, _, rfl, rfl, (by show 5 + 2 ≤ 7000; decide), ?_⟩
    refine .inl ⟨_, _, .inl rfl, rfl, ⟨[tF r0], _, rfl, (by show 1 ≤ 7000; decide), .inl ⟨_, _, rfl, rfl, (by show 7 + 1 ≤ 7000; decide), ?_⟩⟩⟩
    try dsimp only [List.set_cons_zero, List.set_cons_succ, List.cons_append, List.nil_append, List.length_cons, List.length_nil, Nat.reduceAdd]
    -- the fields of the sums
    try dsimp only [backN]
    refine wLc_map objF (xs := (L8 r0 g).map (ByD T.C)) (fun R h => h) (.inl rfl) (by show 8 ≤ 7000; decide) (fun x hx R hR => ?_) ?_
    · obtain ⟨fs, _, rfl⟩ := List.mem_map.mp hx
      exact ⟨_, _, rfl, ⟨fs, rfl, rfl, hR⟩⟩
    have okL := L8_ok ok0 ok1 a1 a2
    have e1 : ((L8 r0 g).map (ByD T.C)).map objF = (D8 r0 g).map tF := by
      rw [← L8_eq ok0, List.map_map]
      rfl
    have okD : ∀ fs ∈ D8 r0 g, ∀ f ∈ fs, f.Ok := fun fs hf => (okL fs (by rw [L8_eq ok0]; exact hf)).2.2
    refine ⟨.lst (((L8 r0 g).map (ByD T.C)).map objF), .lst ((D8 r0 g).map tF), rfl, rfl, by rw [e1]; exact sh_tFs okD, sh_tFs okD, ?_⟩
    rw [e1, eqb_self (nb_tFs _)]
    refine ⟨_, _, rfl, ⟨r0, rfl, rfl, ⟨_, _, rfl, ⟨[g], rfl, rfl, ⟨[tF r0, tF [g]], _, rfl, (by show 2 ≤ 7000; decide), ?_⟩⟩⟩⟩⟩
    have okR : ∀ fs ∈ [r0, [g]], ∀ f ∈ fs, f.Ok := fun fs hf => by
      simp only [List.mem_cons, List.not_mem_nil, or_false] at hf
      rcases hf with rfl | rfl
      · exact ok0
      · exact ok1
    refine ⟨.lst ([r0, [g]].map tF), .lst ([r0, [g]].map tF), rfl, rfl, sh_tFs okR, sh_tFs okR, ?_⟩
    rw [eqb_self (nb_tFs _)]
    try dsimp only [List.set_cons_zero, List.set_cons_succ, List.cons_append, List.nil_append, List.length_cons, List.length_nil, Nat.reduceAdd]
    -- a value
    refine ⟨_, _, rfl, rfl, n + 7 + 7, rfl, ⟨n + 7 + 7, zs, rfl, rfl, by omega, hz, l1, l2, fun kvs hv k1 k6 => ?_⟩⟩
    have vo : ValOk zs kvs := ⟨hz, hv, k1, k6⟩
    try dsimp only [List.set_cons_zero, List.set_cons_succ, List.cons_append, List.nil_append, List.length_cons, List.length_nil, Nat.reduceAdd]
    refine wFor_pairs (i := 8) (j := 10) (by show 8 < 13; decide) (by show 10 < 13; decide) (fun R h => h) (xs := (L8 r0 g).map (ByD T.C)) (ys := (D8 r0 g).map tF) rfl rfl rfl (fun m x y ρ' hx hy ho => ?_) fun ρ' ho => ?_
    · obtain ⟨a, b, rfl⟩ := ho
      rw [← L8_eq ok0] at hy
      rw [List.getElem?_map] at hx hy
      obtain ⟨fs, hf, rfl⟩ := Option.map_eq_some_iff.mp hx
      rw [hf] at hy
      obtain rfl : tF fs = y := Option.some.inj hy
      obtain ⟨f1, f3, okf⟩ := okL fs (List.mem_of_getElem? hf)
      refine ⟨_, rfl, rfl, rfl, ?_⟩
      try dsimp only [List.set_cons_zero, List.set_cons_succ, List.cons_append, List.nil_append, List.length_cons, List.length_nil, Nat.reduceAdd]
      refine ⟨_, _, rfl, _, _, rfl, ⟨fs, "a", zs, kvs, rfl, rfl, f3, okf, nameA, vo, ?_⟩⟩
      refine ⟨_, _, rfl, ⟨fs, zs, kvs, rfl, rfl, f3, okf, hv, ⟨.tup (fs.map fun f => .int (f.ans kvs)), .tup (fs.map fun f => .int (f.ans kvs)), rfl, rfl, sh_ans fs kvs, sh_ans fs kvs, ?_⟩⟩⟩
      rw [eqb_self (nb_ans fs kvs)]
      refine ⟨_, _, rfl, ⟨fs, rfl, rfl, f1, f3, okf, ?_⟩⟩
      refine ⟨_, _, _, rfl, rfl, decide_eq_true rfl, _, _, rfl, ⟨ByD T.C fs, fs, rfl, rfl, f3, okf, .inr ⟨fs, f3, okf, rfl⟩, fun k hk => ⟨k, rfl, ?_⟩⟩⟩
      obtain rfl : k = true := hk.mpr rfl
      refine ⟨_, _, rfl, ⟨fs, rfl, rfl, f1, f3, okf, ?_⟩⟩
      refine ⟨_, _, _, rfl, rfl, decide_eq_true rfl, _, _, rfl, ⟨ByD T.C fs, fs, rfl, rfl, f3, okf, .inr ⟨fs, f3, okf, rfl⟩, fun k hk => ⟨k, rfl, ?_⟩⟩⟩
      obtain rfl : k = true := hk.mpr rfl
      exact ⟨rfl, _, _, rfl⟩
    · obtain ⟨a, b, rfl⟩ := ho
      try dsimp only [List.set_cons_zero, List.set_cons_succ, List.cons_append, List.nil_append, List.length_cons, List.length_nil, Nat.reduceAdd]
      refine ⟨_, _, rfl, ⟨r0, rfl, rfl, a1, c3, ok0, ⟨_, _, rfl, _, _, rfl, ⟨r0.map Fld.opp, "a", zs, kvs, rfl, rfl, lo3, okOpp ok0, nameA, vo, ?_⟩⟩⟩⟩
      try dsimp only [backN]
      refine wLc_map negF (d := D.dat (Dt.tup (List.map (fun f : Fld => Dt.int (Fld.ans f kvs)) r0))) (fun R h => ⟨_, _, rfl, _, _, rfl, ⟨r0, "a", zs, kvs, rfl, rfl, c3, ok0, nameA, vo, h⟩⟩) (.inr rfl) (by rw [List.length_map]; omega) (fun x hx R hR => ?_) ?_
      · obtain ⟨f, _, rfl⟩ := List.mem_map.mp hx
        exact hR
      have e2 : (r0.map fun f => Dt.int (f.ans kvs)).map negF = (r0.map Fld.opp).map fun f => .int (f.ans kvs) := by
        rw [List.map_map, List.map_map]
        exact List.map_congr_left fun f _ => congrArg Dt.int (ans_opp f kvs)
      refine ⟨.tup ((r0.map Fld.opp).map fun f => .int (f.ans kvs)), .tup ((r0.map fun f => .int (f.ans kvs)).map negF), rfl, rfl, sh_ans _ kvs, by rw [e2]; exact sh_ans _ kvs, ?_⟩
      rw [e2, eqb_self (nb_ans _ kvs)]
      refine ⟨⟨_, _, rfl⟩, .inl ⟨_, _, _, _, rfl, rfl, ⟨_, r0, [g], rfl, rfl, .inl rfl, a1, c1, ok0, ok1, ⟨_, _, _, rfl⟩, ?_⟩⟩⟩
      refine ⟨_, _, rfl, ⟨r0, rfl, rfl, ⟨_, _, rfl, ⟨r0 ++ [g], rfl, rfl, ⟨_, _, rfl, ⟨[g], rfl, rfl, ⟨[tF r0, tF (r0 ++ [g]), tF [g]], _, rfl, (by show 3 ≤ 7000; decide), ?_⟩⟩⟩⟩⟩⟩⟩
      refine .inl ⟨_, _, .inl rfl, rfl, ?_⟩
      refine .inl ⟨_, _, .inl rfl, rfl, .inl ⟨_, _, .inl rfl, rfl, addF (a := r0) (b := [g]) c4 ?_⟩⟩
      refine .inl ⟨_, _, .inl rfl, rfl, ⟨[tF r0, tF (r0 ++ [g]), tF [g]], _, rfl, (by show 3 ≤ 7000; decide), ?_⟩⟩
      have okS : ∀ fs ∈ [r0, r0 ++ [g], [g]], ∀ f ∈ fs, f.Ok := fun fs hf => by
        simp only [List.mem_cons, List.not_mem_nil, or_false] at hf
        rcases hf with rfl | rfl | rfl
        · exact ok0
        · exact oa
        · exact ok1
      refine ⟨.lst ([r0, r0 ++ [g], [g]].map tF), .lst ([r0, r0 ++ [g], [g]].map tF), rfl, rfl, sh_tFs okS, sh_tFs okS, ?_⟩
      rw [eqb_self (nb_tFs _)]
      exact .inl ⟨_, _, rfl, q _ (by omega)⟩
end
end Dl
set_option Elab.async false
set_option linter.all false
set_option maxRecDepth 100000
set_option maxHeartbeats 4000000
/-! EE: orders compared, as the law asks. -/
namespace Dl
open PySem PySem.Spec PyProof.Rows L2 G StX NdefX
structure Fs (fs : List Fld) : Prop where
  l1 : 1 ≤ fs.length
  l3 : fs.length ≤ 3
  ok : ∀ f ∈ fs, f.Ok
theorem by_iff {C : Addr} {fs gs : List Fld} : ByD C gs = ByD C fs ↔ tF fs = tF gs := by
  constructor
  · intro e
    injection e with _ _ e2
    exact (List.cons.inj e2).1.symm
  · intro e
    show Dt.obj _ _ [tF gs] = Dt.obj _ _ [tF fs]
    rw [e]
theorem bool_of {k d : Bool} {p : Prop} (h : k = true ↔ p) (h' : d = true ↔ p) : k = d := Bool.eq_iff_iff.mpr (h.trans h'.symm)
theorem text_sh (d : Bool) : Sh 60 (.str (bText [d, d, !d])) := Sh.str 60 (by cases d <;> decide +kernel)
abbrev roE (zs : List Str) (x3 x4 : Option D) : Rho := [some (.ptr 0), some (.dat (lS zs)), some (.ptr 1), x3, x4, none, none, none, none]
section
variable {P : Program} {w : World} {K : PySem.W.Frag} {mg : Str → Option Value} {base : Heap} (T : Top K mg) {cdv : Value} {A : Around} {outer : List Env} {s : Shared} {H : Hp} {E : XK}
theorem eq_tail
  (hg : (A.deeper (envOfC "_law_equal_right" (defScope sEqual) s.heap.objs.size T.f_equal cdv)).guards = some []) (hr : Room 5 (A.deeper (envOfC "_law_equal_right" (defScope sEqual) s.heap.objs.size T.f_equal cdv))) : ∃ t, DSs (cxOf CX0 P w K mg base nEqual "_law_equal_right" (defScope sEqual) T.f_equal cdv A outer s H E).nox ((defBody sEqual).drop 3) t ∧
    ∀ (Q : DK) (zs : List Str) (x3 x4 : Option D) (r0 r1 : List Fld) (m : Nat) (om : Om), (om = [] ∨ om = [some (.lst [.int 1, .int (-1)])]) → Fs r0 → Fs r1 → Q (dB true) [some (.box m)] → t (fnEnds 1 Q) (roE zs x3 x4) (some (.box m) :: some (.lst [tF r0, tF r1]) :: om) := by
  refine ⟨_, (dss_cons (ds_asg (de_tup (da_cons (de_call (fun _ => o_order T) (fun _ => hr.mono (by decide)) (fun _ => T.g_order) (fun _ => T.k_order) (fun _ => T.b_order) (da_cons (de_at (de_var (k := 2)) de_int) da_nil)) (da_cons (de_call (fun _ => o_order T) (fun _ => hr.mono (by decide)) (fun _ => T.g_order) (fun _ => T.k_order) (fun _ => T.b_order) (da_cons (de_at (de_var (k := 2)) de_int) da_nil)) (da_cons (de_eq (fun _ => hr.units) (de_at (de_var (k := 2)) de_int) (de_at (de_var (k := 2)) de_int)) da_nil)))) (dg_tup (n := 3) (fun _ => rfl) (dgs_cons (dg_name (k := 4) (fun _ => scEqual.nd)) (dgs_cons (dg_name (k := 5) (fun _ => scEqual.nd)) (dgs_cons (dg_name (k := 6) (fun _ => scEqual.nd)) dgs_nil)))))
    (dss_cons (ds_if (dt_ne (fun _ => hr.units) (de_reprBs (fun _ => hg) (fun _ => hr.units) (fun _ => T.m_repr) (da_cons (de_lst (da_cons (de_eqO T.nf T.eo (fun _ => o_eq T) (fun _ => T.b_eq) (fun _ => hr.mono (by decide)) (de_var (k := 4)) (de_var (k := 5))) (da_cons (de_eqO T.nf T.eo (fun _ => o_eq T) (fun _ => T.b_eq) (fun _ => hr.mono (by decide)) (de_var (k := 5)) (de_var (k := 4))) (da_cons (de_neO T.nf T.eo (fun _ => o_eq T) (fun _ => T.b_eq) (fun _ => hr.mono (by decide)) (de_var (k := 4)) (de_var (k := 5))) da_nil)))) da_nil)) (de_reprBs (fun _ => hg) (fun _ => hr.units) (fun _ => T.m_repr) (da_cons (de_lst (da_cons (de_var (k := 6)) (da_cons (de_var (k := 6)) (da_cons (de_not (de_var (k := 6))) da_nil)))) da_nil))) (dss_one (ds_ret de_bl)) dss_nil)
    (dss_cons (ds_set (i := 7) scEqual.nd (de_lst (da_cons de_non (da_cons (de_at (de_var (k := 2)) de_int) (da_cons (de_list (fun _ => T.m_list) (da_cons (de_at (de_var (k := 2)) de_int) da_nil)) (da_cons (de_strO (fun _ => T.so) (fun _ => T.sof) (fun _ => T.b_str) (fun _ => o_str T) (fun _ => hr.mono (by decide)) (fun _ => T.m_str) (de_var (k := 4))) (da_cons de_int da_nil)))))))
    (dss_one (ds_ret (de_and (de_eq (fun _ => hr.units) (de_lc (own := [("_law_thing", 8)]) (fun _ => rfl) (fun _ => scEqual.nd) (di_seq (de_var (k := 7))) (fun _ => blkOk_by (own := [("_law_thing", 8)]) (N := nEqual) (sc := defScope sEqual) (by decide +kernel)) (dg_name (k := 8) (fun _ => scEqual.nd)) (dts_one (dt_eqO T.nf T.eo (fun _ => o_eq T) (fun _ => T.b_eq) (fun _ => hr.mono (by decide)) (de_var (k := 4)) (de_var (k := 8)))) (de_var (k := 8))) (de_lst da_nil)) (de_one (de_eqO T.nf T.eo (fun _ => o_eq T) (fun _ => T.b_eq) (fun _ => hr.mono (by decide)) (de_var (k := 4)) (de_call (fun _ => o_order T) (fun _ => hr.mono (by decide)) (fun _ => T.g_order) (fun _ => T.k_order) (fun _ => T.b_order) (da_cons (de_at (de_var (k := 2)) de_int) da_nil)))))))))), ?_⟩
  rintro Q zs x3 x4 r0 r1 m om (rfl | rfl) F0 F1 q
  all_goals
    have s0 := (tF_sh F0.ok 0).mono (show 1 ≤ 60 by decide)
    have s1 := (tF_sh F1.ok 0).mono (show 1 ≤ 60 by decide)
    refine .inl ⟨_, _, .inl rfl, rfl, _, _, rfl, ⟨r0, rfl, rfl, F0.l1, F0.l3, F0.ok, ?_⟩⟩
    refine .inl ⟨_, _, .inl rfl, rfl, _, _, rfl, ⟨r1, rfl, rfl, F1.l1, F1.l3, F1.ok, ?_⟩⟩
    refine .inl ⟨_, _, .inl rfl, rfl, .inl ⟨_, _, .inl rfl, rfl, ⟨tF r0, tF r1, rfl, rfl, s0, s1, ?_⟩⟩⟩
    have hd : eqb (tF r0) (tF r1) = true ↔ tF r0 = tF r1 := eqb_iff _ _ (tF_noB r0) (tF_noB r1)
    generalize eqb (tF r0) (tF r1) = due at hd ⊢
    refine ⟨[ByD T.C r0, ByD T.C r1, .bl due], _, rfl, (by show 3 ≤ 7000; decide), _, rfl, rfl, rfl, ?_⟩
    try dsimp only [List.set_cons_zero, List.set_cons_succ, List.cons_append, List.nil_append, List.length_cons, List.length_nil, Nat.reduceAdd]
    -- repr
    refine ⟨_, _, _, rfl, rfl, decide_eq_true rfl, _, _, rfl, ⟨ByD T.C r1, r0, rfl, rfl, F0.l3, F0.ok, .inr ⟨r1, F1.l3, F1.ok, rfl⟩, fun k hk => ⟨k, rfl, ?_⟩⟩⟩
    obtain rfl : k = due := bool_of (hk.trans by_iff) hd
    refine ⟨_, _, _, rfl, rfl, decide_eq_true rfl, _, _, rfl, ⟨ByD T.C r0, r1, rfl, rfl, F1.l3, F1.ok, .inr ⟨r0, F0.l3, F0.ok, rfl⟩, fun k2 hk2 => ⟨k2, rfl, ?_⟩⟩⟩
    obtain rfl : k2 = k := bool_of (hk2.trans (by_iff.trans eq_comm)) hd
    refine ⟨_, _, _, rfl, rfl, decide_eq_true rfl, _, _, rfl, ⟨ByD T.C r1, r0, rfl, rfl, F0.l3, F0.ok, .inr ⟨r1, F1.l3, F1.ok, rfl⟩, fun k3 hk3 => ⟨k3, rfl, ?_⟩⟩⟩
    obtain rfl : k3 = k2 := bool_of (hk3.trans by_iff) hd
    refine ⟨[.bl k3, .bl k3, .bl (!k3)], _, rfl, (by show 3 ≤ 7000; decide), ⟨_, [k3, k3, !k3], rfl, rfl, (by show 3 ≤ 100; decide), ?_⟩⟩
    refine ⟨[.bl k3, .bl k3, .bl (!k3)], _, rfl, (by show 3 ≤ 7000; decide), ⟨_, [k3, k3, !k3], rfl, rfl, (by show 3 ≤ 100; decide), ?_⟩⟩
    refine ⟨.str (bText [k3, k3, !k3]), .str (bText [k3, k3, !k3]), rfl, rfl, text_sh k3, text_sh k3, ?_⟩
    rw [eqb_self rfl]
    -- other things
    refine .inl ⟨_, _, .inl rfl, rfl, .inl ⟨_, _, .inl rfl, rfl, ⟨_, _, rfl, ⟨r0, rfl, rfl, F0.l3, F0.ok, fun z => ⟨z, rfl, ?_⟩⟩⟩⟩⟩
    refine ⟨[.non, tF r0, .lst (r0.map fun f => .str f.tx), .str z, .int 5], _, rfl, (by show 5 ≤ 7000; decide), ?_⟩
    try dsimp only [backN, wRet, wB, wAndV, wAsg, wgTup, wgCons, wgName, wgNil, List.set_cons_zero, List.set_cons_succ, List.cons_append, List.nil_append, List.length_cons, List.length_nil, Nat.reduceAdd]
    refine wLc_filter (fun _ => false) id (xs := [.non, tF r0, .lst (r0.map fun f => .str f.tx), .str z, .int 5]) (fun R h => h) (.inl rfl) (by show 5 ≤ 7000; decide) (fun x hx R hR => ?_) (fun x hx R hR => hR) ?_
    · have hi : isiO T.C x = some false ∧ okRight T.C x = true := by
        simp only [List.mem_cons, List.not_mem_nil, or_false] at hx
        rcases hx with rfl | rfl | rfl | rfl | rfl <;> exact ⟨rfl, rfl⟩
      refine ⟨_, _, x, rfl, rfl, hi.2, _, _, rfl, ⟨x, r0, rfl, rfl, F0.l3, F0.ok, .inl hi.1, fun k hk => ⟨k, rfl, ?_⟩⟩⟩
      cases k with
      | false => exact hR
      | true =>
        have e := hk.mp rfl
        have h1 := hi.1
        rw [e] at h1
        have h2 : (if T.C = T.C then some true else none) = some false := h1
        rw [if_pos rfl] at h2
        cases h2
    refine ⟨[], _, rfl, (by show 0 ≤ 7000; decide), ⟨.lst [], .lst [], rfl, rfl, sh_lst (fun x h => by cases h), sh_lst (fun x h => by cases h), ?_⟩⟩
    rw [eqb_self rfl]
    refine .inl ⟨_, _, .inl rfl, rfl, _, _, rfl, ⟨r0, rfl, rfl, F0.l1, F0.l3, F0.ok, ?_⟩⟩
    refine ⟨_, _, _, rfl, rfl, decide_eq_true rfl, _, _, rfl, ⟨ByD T.C r0, r0, rfl, rfl, F0.l3, F0.ok, .inr ⟨r0, F0.l3, F0.ok, rfl⟩, fun k hk => ⟨k, rfl, ?_⟩⟩⟩
    obtain rfl : k = true := hk.mpr rfl
    exact .inl ⟨_, _, rfl, q⟩
end
end Dl
set_option Elab.async false
set_option linter.all false
set_option maxRecDepth 100000
set_option maxHeartbeats 4000000
/-! EF: two orders drawn, one made of the other, compared. -/
namespace Dl
open PySem PySem.Spec PyProof.Rows L2 G StX NdefX
theorem cutA (g : Fld → Dt) (fs : List Fld) (a : Nat) : cutD (fs.map g) none (some (a : Int)) = (fs.take a).map g := by
  unfold cutD
  rw [HT.sIx_none, HT.sIx_nat, List.drop_zero, Nat.sub_zero, List.length_map, ← List.map_take]
  congr 1
  by_cases h : a ≤ fs.length
  · rw [Nat.min_eq_left h]
  · rw [Nat.min_eq_right (by omega), List.take_length, List.take_of_length_le (by omega)]
theorem cutB (g : Fld → Dt) (fs : List Fld) (a : Nat) (h : a < fs.length) : cutD (fs.map g) (some (a : Int)) (some ((a : Int) + 1)) = ((fs.drop a).take 1).map g := by
  unfold cutD
  rw [show ((a : Int) + 1) = ((a + 1 : Nat) : Int) from rfl, HT.sIx_nat, HT.sIx_nat, List.length_map, ← List.map_drop, ← List.map_take, Nat.min_eq_left (by omega), Nat.min_eq_left (by omega), Nat.add_sub_cancel_left]
theorem cutC (g : Fld → Dt) (fs : List Fld) (a : Nat) (h : a < fs.length) : cutD (fs.map g) (some ((a : Int) + 1)) none = (fs.drop (a + 1)).map g := by
  unfold cutD
  rw [show ((a : Int) + 1) = ((a + 1 : Nat) : Int) from rfl, HT.sIx_nat, HT.sIx_none, List.length_map, ← List.map_drop, ← List.map_take, Nat.min_eq_left (by omega), List.take_of_length_le (by rw [List.length_drop]; exact Nat.le_refl _)]
theorem Fs.rev {fs : List Fld} (h : Fs fs) : Fs fs.reverse := ⟨by rw [List.length_reverse]; exact h.l1, by rw [List.length_reverse]; exact h.l3, fun f hf => h.ok f (List.mem_reverse.mp hf)⟩
section
variable {P : Program} {w : World} {K : PySem.W.Frag} {mg : Str → Option Value} {base : Heap} (T : Top K mg) {cdv : Value} {A : Around} {outer : List Env} {s : Shared} {H : Hp} {E : XK}
theorem eq_mid
  (hg : (A.deeper (envOfC "_law_equal_right" (defScope sEqual) s.heap.objs.size T.f_equal cdv)).guards = some []) (hr : Room 5 (A.deeper (envOfC "_law_equal_right" (defScope sEqual) s.heap.objs.size T.f_equal cdv))) :
    ∃ t, DSs (cxOf CX0 P w K mg base nEqual "_law_equal_right" (defScope sEqual) T.f_equal cdv A outer s H E).nox ((defBody sEqual).drop 2) t ∧
    ∀ (Q : DK) (zs : List Str) (x3 x4 : Option D) (r0 r1 : List Fld) (m : Nat), Fs r0 → Fs r1 → m ≤ 90000 → (∀ m', m' ≤ m + 2 → Q (dB true) [some (.box m')]) → t (fnEnds 1 Q) (roE zs x3 x4) [some (.box m), some (.lst [tF r0, tF r1])] := by
  obtain ⟨t, ht, hq⟩ := eq_tail (P := P) (w := w) (base := base) (outer := outer) (H := H) (E := E) T hg hr
  refine ⟨_, (dss_cons (ds_if (dt_eq (fun _ => hr.units) (de_call (fun _ => o_take T) (fun _ => hr.mono (by decide)) (fun _ => T.g_take) (fun _ => T.k_take) (fun _ => T.b_take) (da_cons (de_var (k := 0)) (da_cons de_int da_nil))) de_int) (dss_one (ds_setIx (de_stepT (de_at (de_var (k := 2)) de_int) (do_some (de_at (de_lst (da_cons de_int (da_cons (de_neg de_int) da_nil))) (de_call (fun _ => o_take T) (fun _ => hr.mono (by decide)) (fun _ => T.g_take) (fun _ => T.k_take) (fun _ => T.b_take) (da_cons (de_var (k := 0)) (da_cons de_int da_nil)))))) (de_var (k := 2)) de_int)) dss_nil) ht), ?_⟩
  intro Q zs x3 x4 r0 r1 m F0 F1 hm q
  refine ⟨_, _, rfl, rfl, m, rfl, ⟨m, 3, rfl, rfl, by omega, by decide, by decide, fun j hj => ?_⟩⟩
  refine ⟨.int j, .int 0, rfl, rfl, Sh.int _ _, Sh.int _ _, ?_⟩
  generalize eqb (.int (j : Int)) (.int 0) = b
  cases b with
  | false => exact hq Q zs x3 x4 r0 r1 (m + 1) [] (.inl rfl) F0 F1 (q _ (by omega))
  | true =>
    refine .inl ⟨_, _, .inl rfl, rfl, ⟨[.int 1, .int (-1)], _, rfl, (by show 2 ≤ 7000; decide), ?_⟩⟩
    refine ⟨_, _, rfl, rfl, m + 1, rfl, ⟨m + 1, 2, rfl, rfl, by omega, by decide, by decide, fun i hi => ?_⟩⟩
    match i, hi with
    | 0, _ => exact .inl ⟨_, .int 1, .inl rfl, rfl, ⟨_, rfl, .inl ⟨rfl, ⟨_, _, rfl, ⟨_, 1, rfl, rfl, hq Q zs x3 x4 r0 r0 (m + 2) _ (.inr rfl) F0 F0 (q _ (Nat.le_refl _))⟩⟩⟩⟩⟩
    | 1, _ =>
      refine .inl ⟨_, .int (-1), .inl rfl, rfl, ⟨_, rfl, .inr ⟨rfl, ?_⟩⟩⟩
      rw [← List.map_reverse]
      exact ⟨_, _, rfl, ⟨_, 1, rfl, rfl, hq Q zs x3 x4 r0 r0.reverse (m + 2) _ (.inr rfl) F0 F0.rev (q _ (Nat.le_refl _))⟩⟩
    | i + 2, hi =>
      have : ((i + 2 : Nat) : Int) < 2 := hi
      omega
theorem o_equal : FnG P w K mg base CX0 6 T.f_equal T.fd_equal ["_law_box_here", "_law_names_here"] (spD dRight) := by
  refine fndG_ok T.F_equal scEqual (fun ds ω Q h => ?_) fun cdv A outer s H E hg hr => ?_
  · obtain ⟨n, zs, rfl, _⟩ := h
    rfl
  obtain ⟨t, ht, hq⟩ := eq_mid (P := P) (w := w) (base := base) (outer := outer) (H := H) (E := E) T hg hr
  refine ⟨_, (dss_cons (ds_set (i := 2) scEqual.nd (de_lst (da_cons (de_call (fun _ => o_fields T) (fun _ => hr.mono (by decide)) (fun _ => T.g_fields) (fun _ => T.k_fields) (fun _ => T.b_fields) (da_cons (de_var (k := 0)) (da_cons (de_var (k := 1)) (da_cons de_int da_nil)))) (da_cons (de_call (fun _ => o_fields T) (fun _ => hr.mono (by decide)) (fun _ => T.g_fields) (fun _ => T.k_fields) (fun _ => T.b_fields) (da_cons (de_var (k := 0)) (da_cons (de_var (k := 1)) (da_cons de_int da_nil)))) da_nil))))
    (dss_cons (ds_if (dt_eq (fun _ => hr.units) (de_call (fun _ => o_take T) (fun _ => hr.mono (by decide)) (fun _ => T.g_take) (fun _ => T.k_take) (fun _ => T.b_take) (da_cons (de_var (k := 0)) (da_cons de_int da_nil))) de_int) (dss_cons (ds_set (i := 3) scEqual.nd (de_call (fun _ => o_take T) (fun _ => hr.mono (by decide)) (fun _ => T.g_take) (fun _ => T.k_take) (fun _ => T.b_take) (da_cons (de_var (k := 0)) (da_cons (de_len (fun _ => T.m_len) (da_cons (de_at (de_var (k := 2)) de_int) da_nil)) da_nil))))
    (dss_cons (ds_set (i := 4) scEqual.nd (de_at (de_var (k := 2)) de_int))
    (dss_one (ds_setIx (de_add (de_add (de_slice (de_var (k := 4)) do_none (do_some (de_var (k := 3)))) (de_call (fun _ => o_turned T) (fun _ => hr.mono (by decide)) (fun _ => T.g_turned) (fun _ => T.k_turned) (fun _ => T.b_turned) (da_cons (de_slice (de_var (k := 4)) (do_some (de_var (k := 3))) (do_some (de_add (de_var (k := 3)) de_int))) da_nil))) (de_slice (de_var (k := 4)) (do_some (de_add (de_var (k := 3)) de_int)) do_none)) (de_var (k := 2)) de_int)))) dss_nil) ht)), ?_⟩
  rintro ds ω Q ⟨n, zs, rfl, rfl, hn, l1, l2, hz, q⟩
  rw [show startD nEqual [D.ptr 0, .dat (lS zs)] = [some (.ptr 0), some (.dat (lS zs)), none, none, none, none, none, none, none] from rfl]
  refine ⟨_, _, rfl, rfl, n, rfl, ⟨n, 3, zs, rfl, rfl, by decide, by decide, by omega, l1, l2, hz, fun r0 a1 a2 ok0 => ?_⟩⟩
  refine ⟨_, _, rfl, rfl, n + 7, rfl, ⟨n + 7, 3, zs, rfl, rfl, by decide, by decide, by omega, l1, l2, hz, fun r1 b1 b2 ok1 => ?_⟩⟩
  refine ⟨[tF r0, tF r1], _, rfl, (by show 2 ≤ 7000; decide), ?_⟩
  try dsimp only [List.set_cons_zero, List.set_cons_succ, List.cons_append, List.nil_append, List.length_cons, List.length_nil, Nat.reduceAdd]
  have F0 : Fs r0 := ⟨a1, a2, ok0⟩
  have F1 : Fs r1 := ⟨b1, b2, ok1⟩
  refine ⟨_, _, rfl, rfl, n + 7 + 7, rfl, ⟨n + 7 + 7, 2, rfl, rfl, by omega, by decide, by decide, fun j hj => ?_⟩⟩
  refine ⟨.int j, .int 0, rfl, rfl, Sh.int _ _, Sh.int _ _, ?_⟩
  generalize eqb (.int (j : Int)) (.int 0) = b
  cases b with
  | false => exact hq Q zs none none r0 r1 (n + 7 + 7 + 1) F0 F1 (by omega) fun m' hm => q m' (by omega)
  | true =>
    refine .inl ⟨_, _, .inl rfl, rfl, ?_⟩
    refine ⟨_, _, rfl, rfl, n + 7 + 7 + 1, rfl, ⟨n + 7 + 7 + 1, ((r0.map fun f => Dt.str f.tx).length : Nat), rfl, rfl, by omega, by rw [List.length_map]; omega, by rw [List.length_map]; exact Int.lt_of_le_of_lt (show (r0.length : Int) ≤ 3 by omega) (by decide), fun a ha => ?_⟩⟩
    rw [List.length_map] at ha
    have ha' : a < r0.length := by omega
    refine .inl ⟨_, _, .inl rfl, rfl, ?_⟩
    try dsimp only [List.set_cons_zero, List.set_cons_succ, List.cons_append, List.nil_append, List.length_cons, List.length_nil, Nat.reduceAdd]
    refine .inr (.inl ⟨_, rfl, ?_⟩)
    rw [cutA]
    refine .inr (.inl ⟨_, rfl, ?_⟩)
    rw [cutB _ _ _ ha']
    have oT : ∀ f ∈ r0.take a, f.Ok := fun f hf => ok0 f (List.mem_of_mem_take hf)
    have oM : ∀ f ∈ (r0.drop a).take 1, f.Ok := fun f hf => ok0 f (List.mem_of_mem_drop (List.mem_of_mem_take hf))
    have oD : ∀ f ∈ r0.drop (a + 1), f.Ok := fun f hf => ok0 f (List.mem_of_mem_drop hf)
    have e1 : (r0.take a).length = a := by rw [List.length_take]; omega
    have e2 : (((r0.drop a).take 1).map Fld.opp).length = 1 := by rw [List.length_map, List.length_take, List.length_drop]; omega
    have e3 : (r0.drop (a + 1)).length = r0.length - (a + 1) := List.length_drop
    refine ⟨_, _, rfl, ⟨(r0.drop a).take 1, rfl, rfl, by rw [List.length_take]; omega, oM, ?_⟩⟩
    try dsimp only [backN]
    refine addF (a := r0.take a) (b := ((r0.drop a).take 1).map Fld.opp) (by rw [e1, e2]; omega) ?_
    refine .inr (.inl ⟨_, rfl, ?_⟩)
    rw [cutC _ _ _ ha']
    refine addF (a := r0.take a ++ ((r0.drop a).take 1).map Fld.opp) (b := r0.drop (a + 1)) (by rw [List.length_append, e1, e2, e3]; omega) ?_
    refine ⟨_, _, rfl, ⟨_, 1, rfl, rfl, ?_⟩⟩
    exact hq Q zs _ _ r0 (r0.take a ++ ((r0.drop a).take 1).map Fld.opp ++ r0.drop (a + 1)) (n + 7 + 7 + 1 + 1) F0
      ⟨by rw [List.length_append, List.length_append, e1, e2, e3]; omega, by rw [List.length_append, List.length_append, e1, e2, e3]; omega, okApp (okApp oT (okOpp oM)) oD⟩ (by omega) fun m' hm => q m' (by omega)
end
end Dl
set_option Elab.async false
set_option linter.all false
set_option maxRecDepth 100000
set_option maxHeartbeats 4000000
/-! EG: the law. -/
namespace Dl
open PySem PySem.Spec PyProof.Rows L2 G StX NdefX
theorem sqL_same {K : PySem.W.Frag} {H H' : Hp} {a : Addr} {xs : List V} (h : SqL K H a xs) (s : Same H H') : SqL K H' a xs := by
  rcases h with (h | ⟨o, h⟩) | h
  · exact .inl (.inl (s _ _ h))
  · exact .inl (.inr ⟨o, s _ _ h⟩)
  · exact .inr h
theorem same_but {b : Addr} {H H1 H2 : Hp} (s : Same H H1) (n : H b = none) (k : But b H1 H2) : Same H H2 := fun c o e => k c o (ne_of_none e n) (s c o e)
/-- a def of the law that takes the box and some names, and says True -/
theorem into_right {H : Hp} {b p : Addr} {n : Nat} {zs : List Str} {R : VK} {E : XK} (B : G.BoxAt H b n) (hn : n ≤ 50000) (npb : p ≠ b) (ep : H p = some (.lst (zs.map V.str))) (l1 : 1 ≤ zs.length) (l2 : zs.length ≤ 100) (hz : ∀ z ∈ zs, NameZ z)
    (q : ∀ H', G.BoxAt H' b (n + 1000) → But b H H' → R (.bl true) H') : spD dRight [.ref b, .ref p] H R E := by
  refine ⟨⟨G.hide b H, fun _ => b, 1⟩, fun _ => none, [some (.box n)], [.ptr 0, .dat (lS zs)], fun d ω' => d = dB true ∧ ∃ m, m ≤ n + 1000 ∧ ω' = [some (.box m)], enter B, .cons ⟨Nat.zero_lt_one, rfl⟩ (.cons (RD.lst (hide_rd npb ep) (rds_strs zs)) .nil), ⟨n, zs, rfl, rfl, hn, l1, l2, hz, fun m hm => ⟨rfl, m, hm, rfl⟩⟩, ?_⟩
  rintro W' ω' d v H' e rp r ⟨rfl, m, hm, rfl⟩
  cases r
  obtain ⟨B', k⟩ := leave e rp
  exact q H' (B'.mono hm) k
def spLaw (K : PySem.W.Frag) : Sp := fun vs H Q _ => ∃ (a : Addr) (ns : List Int), vs = [.ref a] ∧ SqL K H a (ns.map V.int) ∧ ns.length ≤ 63 ∧ ∀ H', Q (.bl true) H'
section
variable {P : Program} {w : World} {K : PySem.W.Frag} {mg : Str → Option Value} {base : Heap} (T : Top K mg)
theorem o_law : FnG P w K mg base CX0 7 T.f_law T.fd_law ["_law_script"] (spLaw K) := by
  have Gc : FnOk P w K mg base CX0 1 T.f_cell T.fd_cell ["_law_script", "_law_k"] (spCell' K) := ok_cell T.F_cell T.m_len
  have Gb : FnOk P w K mg base CX0 1 T.f_box T.fd_box ["_law_cell_here"] spBox := ok_box T.F_box T.m_max
  have GT : FnOk P w K mg base CX0 1 T.f_take T.fd_take ["_law_box_here", "_law_many"] spTake := ok_take T.F_take
  have Gn : FnOk P w K mg base CX0 3 T.f_names T.fd_names ["_law_box_here", "_law_many"] spNames := o_names T
  have GR : FnOk P w K mg base CX0 6 T.f_right T.fd_right ["_law_box_here", "_law_names_here"] (spD dRight) := o_right T
  have GE : FnG P w K mg base CX0 6 T.f_equal T.fd_equal ["_law_box_here", "_law_names_here"] (spD dRight) := o_equal T
  refine FnG.of_body T.F_law scLaw (fun vs H Q E h => ?_) (fun cdv A outer s H vs Q E hg hr h => ?_)
  · obtain ⟨a, ns, rfl, _⟩ := h
    rfl
  · obtain ⟨a, ns, rfl, hS, hl, q⟩ := h
    have hr1 := hr.mono (show 1 ≤ 6 by decide)
    have hr3 := hr.mono (show 3 ≤ 6 by decide)
    refine ⟨_, pss_cons (ps_for PassesOwn.never rfl (pi_range1 rfl T.m_range (pa_cons (pe_callB (call_max2 rfl) (by rfl) T.m_max (by decide +kernel) (pa_cons pe_int (pa_cons (pe_callB (call_min2 rfl) (by rfl) T.m_min (by decide +kernel)
          (pa_cons (pe_callB call_len_seq (by rfl) T.m_len PySem.boot_len (pa_cons (pv 0) pa_nil)) (pa_cons pe_int pa_nil))) pa_nil))) pa_nil)) (pg_name (i := 1) scLaw.nd rfl (.inl rfl))
        (pss_cons (ps_set (i := 2) scLaw.nd rfl (.inl rfl) (pe_call Gb hr1 rfl T.g_box T.k_box T.b_box .nil pass0 (pa_cons (pe_call Gc hr1 rfl T.g_cell T.k_cell T.b_cell .nil pass0 (pa_cons (pv 0) (pa_cons (pv 1) pa_nil))) pa_nil)))
        (pss_cons (ps_set (i := 3) scLaw.nd rfl (.inl rfl) (pe_call Gn hr3 rfl T.g_names T.k_names T.b_names .nil pass0 (pa_cons (pv 2) (pa_cons (pe_op op_add pe_int (pe_call GT hr1 rfl T.g_take T.k_take T.b_take .nil pass0 (pa_cons (pv 2) (pa_cons pe_int pa_nil)))) pa_nil))))
        (pss_one (ps_if (PW.pt (pw_or (pt_not (pt_val (pe_call GR hr rfl T.g_right T.k_right T.b_right .nil pass0 (pa_cons (pv 2) (pa_cons (pv 3) pa_nil)))))
          (pw_or1 (pt_not (pt_val (pe_callG GE hg hr rfl T.g_equal T.k_equal T.b_equal .nil pass0 (pa_cons (pv 2) (pa_cons (pv 3) pa_nil)))))))) (pss_one (ps_ret pe_bl)) pss_nil)))))
      (pss_one (ps_ret pe_bl)), ?_⟩
    refine ⟨_, rfl, a, _, rfl, .inl hS, _, _, rfl, _, _, rfl, ?_⟩
    generalize hm : (if (if (8 : Int) < ((ns.map V.int).length : Int) then (8 : Int) else ((ns.map V.int).length : Int)) > 2 then (if (8 : Int) < ((ns.map V.int).length : Int) then (8 : Int) else ((ns.map V.int).length : Int)) else 2) = m
    have hm8 : 0 ≤ m ∧ m ≤ 8 := by
      rw [← hm]
      split <;> split at * <;> omega
    refine ⟨m, rfl, by omega, by omega, ?_⟩
    refine for_range (lo := 0) (n := m.toNat) (fun i σ H' => Same H H' ∧ ∃ x1 x2 x3 : Option V, σ = [some (.ref a), x1, x2, x3]) ?_ ?_ ?_
    · exact ⟨Same.refl H, none, none, none, rfl⟩
    · rintro i σ H1 hi ⟨s1, x1, x2, x3, rfl⟩
      refine ⟨_, rfl, _, rfl, a, ns, 0 + i, rfl, sqL_same hS s1, by omega, by omega, fun cell => ⟨cell, rfl, fun b H2 nb s2 B2 => ?_⟩⟩
      refine ⟨_, rfl, _, rfl, b, 4, 0, rfl, B2, by omega, by decide, by decide, fun r H3 r0 r1 B3 k3 => ⟨_, _, rfl, rfl, ?_⟩⟩
      obtain ⟨j, rfl, hj⟩ := draw_at (n := 4) r0 r1 rfl
      have ej : (1 + (j : Int) : Int) = ((1 + j : Nat) : Int) := by omega
      refine ⟨b, 1 + j, 0 + 1, (by show [V.ref b, V.int (1 + (j : Int))] = _; rw [ej]), B3, by decide, by omega, fun p H4 zs lz zn np e4 B4 k4 => ?_⟩
      have npb := G.box_ne B3 np
      refine ⟨_, rfl, _, rfl, into_right (E := E0) B4 (by omega) npb e4 (by omega) (by omega) zn fun H5 B5 k5 => ⟨_, rfl, iteF ?_⟩⟩
      refine ⟨_, rfl, _, rfl, into_right (E := E0) B5 (by omega) npb (k5 _ _ npb e4) (by omega) (by omega) zn fun H6 B6 k6 => ⟨_, rfl, iteF ?_⟩⟩
      have nbH : H b = none := s1.free nb
      have s12 : Same H H2 := s1.trans s2
      exact ⟨same_but (same_but (same_but (same_but s12 nbH k3) nbH k4) nbH k5) nbH k6, _, _, _, rfl⟩
    · rintro σ H1 ⟨s1, x1, x2, x3, rfl⟩
      exact q H1
end
end Dl
set_option Elab.async false
set_option linter.all false
set_option maxRecDepth 100000
set_option maxHeartbeats 2000000
/-! HK: the head's facts by a Hook of our own: methods that capture __class__, properties, instances that are called; the law's end over it. -/
namespace G
open PySem PySem.Spec PyProof.Rows L2 NdefX StX He

/-! ### defs by where they stand -/
/-- a def of the text: where it stands, its names, its statement, the names that it captures -/
structure Dp where
  at_ : PySem.W.Frag → Addr
  name : Str
  qual : Str
  st : Stmt
  clo : List Str
abbrev FnY : Type := Option (Str × Str × Arguments × FuncBody × Scope × Addr × List Str × Addr)
def fnY (K : PySem.W.Frag) (a : Addr) : FnY := match K.lookup a with
  | some ⟨_, _, .func fd, _⟩ => some (fd.name, fd.qualname, fd.params, fd.body, fd.scope, fd.globals, fd.closure.map (·.1), fd.builtins)
  | _ => none
def Dp.val (d : Dp) : FnY := some (d.name, d.qual, defArgs d.st, .stmts (defBody d.st), defScope d.st, mainGlobals, d.clo, builtinsNs)
def noneB : Value → Bool
  | .none => true
  | _ => false
/-- the def's code, no positional defaults -/
def codB (K : PySem.W.Frag) (a : Addr) (q : Str) : Bool := match K.lookup a with
  | some ⟨_, _, .func fd, _⟩ => PySem.W.codeIn K fd.code q && noneB fd.defaults
  | _ => false
def plainB (K : PySem.W.Frag) (a : Addr) (q : Str) : Bool := PySem.W.keepIn K (.ref a) && codB K a q
theorem fun_of {K : PySem.W.Frag} {a : Addr} {d : Dp} (e : fnY K a = d.val) (hc : d.clo = []) (c : plainB K a d.qual = true) : ∃ fd, Fun K d.name d.qual d.st a fd := by
  obtain ⟨kp, c2⟩ := ba c
  unfold fnY Dp.val at e
  rw [hc] at e
  unfold codB at c2
  cases q : K.lookup a with
  | none =>
    rw [q] at c2
    cases c2
  | some o =>
    obtain ⟨oc, od, dt, osl⟩ := o
    rw [q] at c2 e
    cases dt with
    | func fd =>
      obtain ⟨n1, n2, n3, n4, n5, n6, n7, n8, n9, n10, n11, n12, n13, n14, n15⟩ := fd
      have e2 : (some (n1, n2, n3, n4, n5, n6, n7.map (·.1), n15) : FnY) = some (d.name, d.qual, defArgs d.st, .stmts (defBody d.st), defScope d.st, mainGlobals, [], builtinsNs) := e
      simp only [Option.some.injEq, Prod.mk.injEq] at e2
      obtain ⟨h1, h2, h3, h4, h5, h6, h7, h8⟩ := e2
      have h7' : n7 = [] := List.map_eq_nil_iff.mp h7
      subst h1 h2 h3 h4 h5 h6 h7' h8
      have c3 : (PySem.W.codeIn K n13 d.qual && noneB n8) = true := c2
      obtain ⟨k1, k2⟩ := ba c3
      cases n8 with
      | none => exact ⟨_, ⟨oc, od, n9, n10, n11, n12, n13, n14, osl, rfl, q, k1⟩, kp⟩
      | _ => cases k2
    | _ => cases c2
/-- a method that captures __class__ -/
def celC (K : PySem.W.Frag) (cc C : Addr) : Bool := match K.lookup cc with
  | some ⟨_, _, .cell (some (.ref D)), _⟩ => decide (D = C)
  | _ => false
def cloB (K : PySem.W.Frag) (a C : Addr) : Bool := match K.lookup a with
  | some ⟨_, _, .func fd, _⟩ => (match fd.closure with
    | [(_, cc)] => celC K cc C
    | _ => false)
  | _ => false
/-- .. its code object's file -/
def filC (K : PySem.W.Frag) (c : Addr) (file : Str) : Bool := match K.lookup c with
  | some ⟨_, _, .fields vs, _⟩ => (match vs.toList[2]? with
    | some (Value.str fl _) => file == fl
    | _ => false)
  | _ => false
def filV (K : PySem.W.Frag) (v : Value) (file : Str) : Bool := match v with
  | .ref c => filC K c file
  | _ => false
def filB (K : PySem.W.Frag) (a : Addr) (file : Str) : Bool := match K.lookup a with
  | some ⟨_, _, .func fd, _⟩ => filV K fd.code file
  | _ => false
def kwV (K : PySem.W.Frag) (a : Addr) : Value := match K.lookup a with
  | some ⟨_, _, .func fd, _⟩ => fd.kwdefaults
  | _ => .none
/-- what FunX and SupOf want of the def at a, of the class at C -/
structure ClsDef (P : Program) (K : PySem.W.Frag) (d : Dp) (a C : Addr) : Prop where
  ex : ∃ (oc : Value) (od : Option Addr) (doc pm ct : Value) (an : Option Addr) (osl : Array (Option Value)) (cda cc : Addr) (oc3 : Value) (od3 : Option Addr) (sl3 : Array (Option Value)) (oc2 : Value) (od2 : Option Addr) (vs : Array Value) (sl2 : Array (Option Value)) (fl : Str) (tf : Tok),
    K.lookup a = some ⟨oc, od, .func (PySem.W.ksFn d.name d.qual (defArgs d.st) (defBody d.st) (defScope d.st) .none (kwV K a) doc pm an (.ref cda) ct cc), osl⟩ ∧ PySem.W.codeIn K (.ref cda) d.qual = true ∧
    K.lookup cc = some ⟨oc3, od3, .cell (some (.ref C)), sl3⟩ ∧ K.lookup cda = some ⟨oc2, od2, .fields vs, sl2⟩ ∧ vs.toList[2]? = some (Value.str fl tf) ∧ ((P.main.file : Str) == fl) = true
theorem clsdef_of {P : Program} {K : PySem.W.Frag} {a C : Addr} {d : Dp} (e : fnY K a = d.val) (hc : d.clo = [("__class__" : Str)]) (c : (codB K a d.qual && (cloB K a C && filB K a P.main.file)) = true) : ClsDef P K d a C := by
  obtain ⟨c1, c23⟩ := ba c
  obtain ⟨c2, c3⟩ := ba c23
  unfold fnY Dp.val at e
  rw [hc] at e
  unfold codB at c1
  unfold cloB at c2
  unfold filB at c3
  cases q : K.lookup a with
  | none =>
    rw [q] at c1
    cases c1
  | some o =>
    obtain ⟨oc, od, dt, osl⟩ := o
    rw [q] at c1 c2 c3 e
    cases dt with
    | func fd =>
      have ekw : kwV K a = fd.kwdefaults := by
        unfold kwV
        rw [q]
      obtain ⟨n1, n2, n3, n4, n5, n6, n7, n8, n9, n10, n11, n12, n13, n14, n15⟩ := fd
      have e2 : (some (n1, n2, n3, n4, n5, n6, n7.map (·.1), n15) : FnY) = some (d.name, d.qual, defArgs d.st, .stmts (defBody d.st), defScope d.st, mainGlobals, [("__class__" : Str)], builtinsNs) := e
      simp only [Option.some.injEq, Prod.mk.injEq] at e2
      obtain ⟨h1, h2, h3, h4, h5, h6, h7, h8⟩ := e2
      obtain ⟨cc, rfl⟩ : ∃ cc, n7 = [(("__class__" : Str), cc)] := by
        match n7, h7 with
        | [(y, cc)], h7 =>
          have : y = ("__class__" : Str) := by
            have h9 : [y] = [("__class__" : Str)] := h7
            exact List.head_eq_of_cons_eq h9
          exact ⟨cc, by rw [this]⟩
      subst h1 h2 h3 h4 h5 h6 h8
      have c4 : (PySem.W.codeIn K n13 d.qual && noneB n8) = true := c1
      obtain ⟨k1, k2⟩ := ba c4
      have c5 : celC K cc C = true := c2
      unfold celC at c5
      have c6 : filV K n13 P.main.file = true := c3
      obtain ⟨oc3, od3, sl3, hcell⟩ : ∃ oc3 od3 sl3, K.lookup cc = some ⟨oc3, od3, .cell (some (.ref C)), sl3⟩ := by
        split at c5
        · rename_i x1 x2 D x3 ho
          rw [of_decide_eq_true c5] at ho
          exact ⟨_, _, _, ho⟩
        · cases c5
      cases n13 with
      | ref cda =>
        have c7 : filC K cda P.main.file = true := c6
        unfold filC at c7
        obtain ⟨oc2, od2, vs, sl2, fl, tf, w1, w2, w3⟩ : ∃ oc2 od2 vs sl2 fl tf, K.lookup cda = some ⟨oc2, od2, .fields vs, sl2⟩ ∧ vs.toList[2]? = some (Value.str fl tf) ∧ ((P.main.file : Str) == fl) = true := by
          split at c7
          · rename_i x1 x2 vs x3 ho
            split at c7
            · rename_i fl tf hv
              exact ⟨_, _, vs, _, fl, tf, ho, hv, c7⟩
            · cases c7
          · cases c7
        cases n8 with
        | none =>
          refine ⟨oc, od, n10, n11, n14, n12, osl, cda, cc, oc3, od3, sl3, oc2, od2, vs, sl2, fl, tf, ?_, k1, hcell, w1, w2, w3⟩
          rw [ekw]
          exact q
        | _ => cases k2
      | _ => cases c6
    | _ => cases c1
/-- what super() rests on besides -/
def supB (K : PySem.W.Frag) (C f2 : Addr) : Bool := PySem.W.isClsIn K C && (decide (PySem.W.mroIn K C (.ref C) = some true) && (eqO (PySem.W.nsIn K cStatics "thirdparty.any") (some none) && (eqO (PySem.W.ks_superIn K C C "__init__") (some (some (.ref f2))) &&
  (decide (PySem.W.typeIn K (.ref f2) = some (.type "function")) && PySem.W.fnIn K f2))))
/-! ### properties, calls -/
def getr (K : PySem.W.Frag) (p : Addr) : Addr := match PySem.W.recIn K p "property" with
  | some (.ref g :: _) => g
  | _ => 0
def proB (K : PySem.W.Frag) (C : Addr) (f : Str) : Bool := eqO (PySem.W.findIn K (.ref C) f) (some (some (.ref (ma K C f)))) && (eqO (PySem.W.specialIn K (.ref (ma K C f)) "__get__") (some (some (.builtin "property.__get__"))) &&
  (decide (PySem.W.takesIn K (.ref (ma K C f)) = some true) && (match PySem.W.recIn K (ma K C f) "property" with
    | some (.ref _ :: _) => true
    | _ => false)))
theorem pro_ok {K : PySem.W.Frag} {C : Addr} {f : Str} (h : proB K C f = true) : PropOf K C f (ma K C f) (getr K (ma K C f)) := by
  obtain ⟨c1, c⟩ := ba h
  obtain ⟨c2, c⟩ := ba c
  obtain ⟨c3, c4⟩ := ba c
  refine ⟨eqO_ok c1, eqO_ok c2, of_decide_eq_true c3, ?_⟩
  unfold getr
  split at c4
  · rename_i g rest e
    rw [e]
    exact ⟨rest, rfl⟩
  · cases c4
def calB (K : PySem.W.Frag) (C : Addr) : Bool := eqO (PySem.W.findIn K (.ref C) "__call__") (some (some (.ref (ma K C "__call__")))) && (PySem.W.isFn K (.ref (ma K C "__call__")) && PySem.W.fnIn K (ma K C "__call__"))
theorem cal_ok {K : PySem.W.Frag} {C : Addr} (h : calB K C = true) : CallO K C (ma K C "__call__") := by
  obtain ⟨c1, c⟩ := ba h
  obtain ⟨c2, c3⟩ := ba c
  exact ⟨eqO_ok c1, c2, c3⟩
/-! ### the Hook -/
/-- what an object names, as far as the facts ask -/
def refsQ (o : Obj) : List Addr := match o.data with
  | .dict es _ => es.toList.flatMap fun e => refV e.val
  | .func fd => refV fd.code ++ (refV fd.kwdefaults ++ fd.closure.map (·.2))
  | .cls cd => [cd.ns]
  | .fields vs => (match o.cls with
    | .type n => (match decide (n = "property") with
      | true => vs.toList.flatMap refV
      | false => [])
    | _ => [])
  | _ => []
def frL {α : Type} : List Addr → (List Addr → α) → α
  | [], k => k []
  | a :: r, k => HandSHeadRun.frNat a fun a => frL r fun r => k (a :: r)
theorem frL_eq {α : Type} : ∀ (l : List Addr) (k : List Addr → α), frL l k = k l
  | [], _ => rfl
  | a :: r, k => by
    show (HandSHeadRun.frNat a fun a => frL r fun r => k (a :: r)) = _
    rw [HandSHeadRun.frNat_eq, frL_eq r]
def lvl (g : Addr → Option Obj) (as : List Addr) : List Addr := as.flatMap fun a => match g a with
  | some o => refsQ o
  | none => []
def asQ {α : Type} (g : Addr → Option Obj) : Nat → List Addr → List Addr → (List Addr → α) → α
  | 0, fr, acc, k => k (acc ++ fr)
  | n + 1, fr, acc, k => frL (lvl g fr) fun f2 => asQ g n f2 (acc ++ fr) k
theorem asQ_ex {g : Addr → Option Obj} : ∀ (n : Nat) (fr acc : List Addr), ∃ as : List Addr, ∀ (α : Type) (k : List Addr → α), asQ g n fr acc k = k as
  | 0, fr, acc => ⟨acc ++ fr, fun _ _ => rfl⟩
  | n + 1, fr, acc => by
    obtain ⟨as, h⟩ := asQ_ex (g := g) n (lvl g fr) (acc ++ fr)
    refine ⟨as, fun α k => ?_⟩
    show (frL (lvl g fr) fun f2 => asQ g n f2 (acc ++ fr) k) = _
    rw [frL_eq]
    exact h α k
def frK {α : Type} (g : Addr → Option Obj) : List Addr → (PySem.W.Frag → α) → α
  | [], k => k []
  | a :: r, k => match g a with
    | some o => frK g r fun K => k ((a, o) :: K)
    | none => frK g r k
theorem frK_eq {α : Type} {g : Addr → Option Obj} : ∀ (as : List Addr) (k : PySem.W.Frag → α), frK g as k = k (frG g as)
  | [], _ => rfl
  | a :: r, k => by
    unfold frK frG
    rw [List.filterMap_cons]
    cases g a with
    | some o =>
      show (frK g r fun K => k ((a, o) :: K)) = _
      rw [frK_eq r]
      rfl
    | none =>
      show frK g r k = _
      rw [frK_eq r]
      rfl
abbrev AlP : Type := Bool × List FnY
abbrev Ck : Type := PySem.W.Frag → Bool
def obsP (cs : List Ck) (fn : List Dp) (K : PySem.W.Frag) : AlP := (cs.all fun c => c K, fn.map fun d => fnY K (d.at_ K))
def valP (fn : List Dp) : AlP := (true, fn.map Dp.val)
def SaysP (cs : List Ck) (fn : List Dp) (K : PySem.W.Frag) : Prop := obsP cs fn K = valP fn
def obsPG (n : Nat) (cs : List Ck) (fn : List Dp) (g : Addr → Option Obj) : AlP := asQ g n [mainGlobals, cStatics] [] fun as => frK g as fun K => obsP cs fn K
theorem obsPG_ex (n : Nat) (cs : List Ck) (fn : List Dp) (g : Addr → Option Obj) : ∃ as, obsPG n cs fn g = obsP cs fn (frG g as) := by
  obtain ⟨as, h⟩ := asQ_ex (g := g) n [mainGlobals, cStatics] []
  refine ⟨as, ?_⟩
  unfold obsPG
  rw [h, frK_eq]
def hookP (n : Nat) (cs : List Ck) (fn : List Dp) : PySem.W.Hook where
  α := AlP
  obs := fun s => obsPG n cs fn s.heap.get?
  val := fun _ => valP fn
  says := fun _ h => ∃ K : PySem.W.Frag, K.In h ∧ SaysP cs fn K
  of := fun _ s e => by
    obtain ⟨as, h⟩ := obsPG_ex n cs fn s.heap.get?
    rw [h] at e
    exact ⟨_, frG_in, e⟩
  keeps := fun _ _ _ ⟨K, hK, c⟩ k => ⟨K, PySem.W.Frag.In.keeps hK k, c⟩
theorem obsPG_eq {n : Nat} {cs : List Ck} {fn : List Dp} {g : Addr → Option Obj} {s : Shared} (h : ∀ a, g a = s.heap.get? a) : obsPG n cs fn g = (hookP n cs fn).obs s := by
  have e : g = s.heap.get? := funext h
  rw [e] <;> rfl
section
variable {cs : List Ck} {fn : List Dp} {K : PySem.W.Frag}
theorem SaysP.ck (c : SaysP cs fn K) (i : Nat) {f : Ck} (h : cs[i]? = some f := by rfl) : f K = true :=
  List.all_eq_true.mp (show (cs.all fun c => c K) = true from congrArg (fun z : AlP => z.1) c) f (List.mem_of_getElem? h)
theorem SaysP.at_ (c : SaysP cs fn K) (i : Nat) {d : Dp} (h : fn[i]? = some d := by rfl) : fnY K (d.at_ K) = d.val := by
  have e : fn.map (fun d => fnY K (d.at_ K)) = fn.map Dp.val := congrArg (fun z : AlP => z.2) c
  have e2 : (fn.map fun d => fnY K (d.at_ K))[i]? = (fn.map Dp.val)[i]? := by rw [e]
  rw [List.getElem?_map, List.getElem?_map, h] at e2
  exact Option.some.inj e2
end
/-! ### the law's end -/
theorem walk_goE {l : PySem.W.OpenLaw} {n k : Nat} {q : Program} {loose : List Str} {XP : (Str → Option Value) → Heap → Prop} {YP : World → Heap → Prop} {d : DefRec} {x : Str}
    (most : l.most = some n) (few : n ≤ sizeLine) (nodf : d.params.defaults = []) (hr : Room k callerA)
    (F : ∀ (w : World) (mg : Str → Option Value) (fa : Addr) (h : Heap), YP w h → h.Ns mainGlobals mg → mg d.name = some (.ref fa) →
      ∃ (K : PySem.W.Frag) (fd : FuncData) (sp : Sp), K.In h ∧ (∀ (s : Shared) (u : Value), BindsTo s fd ⟨[u], []⟩ [(x, u)]) ∧
        (∀ (H : Hp) (a : Addr) (ns : List Int), ns.length ≤ n → Only H → SqL K H a (ns.map V.int) → sp [.ref a] H (fun v _ => v = .bl true) fun _ _ _ => False) ∧
        ∀ base : Heap, K.In base → base.Ns mainGlobals mg → FnG l.prog w K mg base CX0 k fa fd [x] sp) :
    PySem.W.WalkO q loose XP YP l.row.toRowW d [] (fun f vs => PySem.call f vs) := by
  refine Att.attach_call most nodf
    fun w _ s₁ mg mb fa _ _ _ _ a vs ns top Y _ _ _ atF obj allInt len noG => ?_
  obtain ⟨K, fd, sp, inK, binds, hsp, keeps⟩ := F w mg fa _ Y top.T.g atF
  exact law_go inK top.T.g top.T.b top.T.builtins top.T.nolimit noG obj allInt (Nat.le_trans len few) hr keeps binds
    fun H hO hS => hsp H a ns len hO hS
end G
set_option Elab.async false
set_option linter.all false
set_option maxRecDepth 100000
set_option maxHeartbeats 8000000
/-! XA: what the top has written. -/
namespace G
open PySem PySem.Spec PyProof.Rows L2 NdefX StX Dl
open He in
def eqoB (K : PySem.W.Frag) (C f : Addr) : Bool := eqO (PySem.W.findIn K (.ref C) "__eq__") (some (some (.ref f))) && (PySem.W.isFn K (.ref f) && (eqO (PySem.W.findIn K (.ref C) "__ne__") (some (some (.builtin "object.__ne__"))) && decide (PySem.W.mroIn K C (.type "object") = some true)))
open He in
theorem eqo_ok {K : PySem.W.Frag} {C f : Addr} (h : eqoB K C f = true) : EqO K C f := by
  obtain ⟨c1, h⟩ := ba h
  obtain ⟨c2, h⟩ := ba h
  obtain ⟨c3, c4⟩ := ba h
  exact ⟨eqO_ok c1, c2, eqO_ok c3, of_decide_eq_true c4⟩
def kitB (K : PySem.W.Frag) (C : Addr) (t : Value) : Bool := decide (PySem.W.kitOne K t (.ref C) = some false)
open He in
def isoB (K : PySem.W.Frag) (C : Addr) : Bool := eqO (PySem.W.findIn K (.ref C) "__class__") (some (some (.builtin "object.__class__"))) && (eqO (PySem.W.specialIn K (.builtin "object.__class__") "__get__") (some (some (.builtin "getset_descriptor.__get__"))) &&
  (decide (PySem.W.takesIn K (.builtin "object.__class__") = some true) && (decide (PySem.W.mroIn K C (.type "object") = some true) && (decide (PySem.W.kitOne K (.ref C) (.ref C) = some true) && (kitB K C (.type "NoneType") &&
  (kitB K C (.type "int") && (kitB K C (.type "str") && (kitB K C (.type "list") && kitB K C (.type "tuple")))))))))
open He in
theorem iso_ok {K : PySem.W.Frag} {C : Addr} (h : isoB K C = true) (cl : Cls K C) : Dl.IsO K C := by
  obtain ⟨c1, h⟩ := ba h
  obtain ⟨c2, h⟩ := ba h
  obtain ⟨c3, h⟩ := ba h
  obtain ⟨c4, h⟩ := ba h
  obtain ⟨c5, h⟩ := ba h
  obtain ⟨c6, h⟩ := ba h
  obtain ⟨c7, h⟩ := ba h
  obtain ⟨c8, h⟩ := ba h
  obtain ⟨c9, cA⟩ := ba h
  exact ⟨cl, eqO_ok c1, eqO_ok c2, of_decide_eq_true c3, of_decide_eq_true c4, of_decide_eq_true c5, of_decide_eq_true c6, of_decide_eq_true c7, of_decide_eq_true c8, of_decide_eq_true c9, of_decide_eq_true cA⟩
def nfdB (K : PySem.W.Frag) (C : Addr) : Bool := PySem.W.notFirst K C (.type "NoneType") && (PySem.W.notFirst K C (.type "int") && (PySem.W.notFirst K C (.type "str") && (PySem.W.notFirst K C (.type "list") && PySem.W.notFirst K C (.type "tuple"))))
open He in
theorem nfd_ok {K : PySem.W.Frag} {C : Addr} (h : nfdB K C = true) : Dl.NfD K C := by
  obtain ⟨c1, h⟩ := ba h
  obtain ⟨c2, h⟩ := ba h
  obtain ⟨c3, h⟩ := ba h
  obtain ⟨c4, c5⟩ := ba h
  exact ⟨c1, c2, c3, c4, c5⟩
open He in
def fnoB (K : PySem.W.Frag) (C : Addr) (x : Str) (f : Addr) : Bool := eqO (PySem.W.findIn K (.ref C) x) (some (some (.ref f))) && PySem.W.isFn K (.ref f)
def findNone (x : Option (Option Value)) : Bool := match x with
  | some none => true
  | _ => false
theorem none_ok {x : Option (Option Value)} (h : findNone x = true) : x = some none := by
  cases x with
  | none => cases h
  | some y =>
    cases y with
    | none => rfl
    | some z => cases h
def noIB (K : PySem.W.Frag) (C : Addr) : Bool := match PySem.W.clsIn K C with
  | some cd => cd.mro.all fun c => findNone (PySem.W.findIn K c (dunderI "add"))
  | none => false
theorem noI_ok {K : PySem.W.Frag} {C : Addr} (h : noIB K C = true) : ∃ cd, PySem.W.clsIn K C = some cd ∧ ∀ c ∈ cd.mro, PySem.W.findIn K c (dunderI "add") = some none := by
  unfold noIB at h
  split at h
  · rename_i cd e
    exact ⟨cd, e, fun c hc => none_ok (List.all_eq_true.mp h c hc)⟩
  · cases h
open He in
def addoB (K : PySem.W.Frag) (C f g : Addr) : Bool := PySem.W.selfFirst K C && (eqO (PySem.W.findIn K (.ref C) (PySem.dunder "add")) (some (some (.ref f))) && (PySem.W.isFn K (.ref f) && (eqO (PySem.W.findIn K (.ref C) (dunderR "add")) (some (some (.ref g))) && (PySem.W.isFn K (.ref g) &&
  (eqO (PySem.W.findIn K (.type "str") (PySem.dunder "add")) (some (some (.builtin "str.__add__"))) && (findNone (PySem.W.findIn K (.type "str") (dunderR "add")) && (decide (PySem.W.subIn K (.type "str") (.ref C) = some false) && noIB K C)))))))
open He in
theorem addo_ok {K : PySem.W.Frag} {C f g : Addr} (h : addoB K C f g = true) : Dl.AddO K C f g := by
  obtain ⟨c1, h⟩ := ba h
  obtain ⟨c2, h⟩ := ba h
  obtain ⟨c3, h⟩ := ba h
  obtain ⟨c4, h⟩ := ba h
  obtain ⟨c5, h⟩ := ba h
  obtain ⟨c6, h⟩ := ba h
  obtain ⟨c7, h⟩ := ba h
  obtain ⟨c8, c9⟩ := ba h
  exact ⟨c1, eqO_ok c2, c3, eqO_ok c4, c5, eqO_ok c6, none_ok c7, of_decide_eq_true c8, noI_ok c9⟩
abbrev PX : Program := PySem.W.OpenLaw.prog PySem.Challenge.rw_listviews_k15_orders_joined_and_turned
def cks0 : List Ck := [
  fun K => He.Fa.ok K (.free "isinstance"),
  fun K => He.Fa.ok K (.free "int"),
  fun K => He.Fa.ok K (.free "bool"),
  fun K => He.Fa.ok K (.free "str"),
  fun K => He.Fa.ok K (.free "dict"),
  fun K => He.Fa.ok K (.free "len"),
  fun K => He.Fa.ok K (.free "all"),
  fun K => He.Fa.ok K (.free "list"),
  fun K => He.Fa.ok K (.free "range"),
  fun K => He.Fa.ok K (.free "min"),
  fun K => He.Fa.ok K (.free "max"),
  fun K => He.Fa.ok K (.free "tuple"),
  fun K => He.Fa.ok K (.free "repr"),
  fun K => He.Fa.ok K (.free "zip"),
  fun K => He.Fa.ok K (.str "LETTERS" "abcdefghijklmnopqrstuvwxyz"),
  fun K => He.Fa.ok K (.int "MOST_LETTERS" 8),
  fun K => He.Fa.ok K (.int "MOST_FIELDS" 6),
  fun K => He.Fa.ok K (.int "GREATEST" 999),
  fun K => He.Fa.ok K (.int "MOST_IN_ORDER" 3),
  fun K => He.Fa.ok K (.int "MISSING" (-1000)),
  fun K => plainB K (He.ga K "is_integer") "is_integer",
  fun K => He.Fa.ok K (.glo "is_integer"),
  fun K => plainB K (He.ga K "is_name") "is_name",
  fun K => He.Fa.ok K (.glo "is_name"),
  fun K => plainB K (He.ga K "is_value") "is_value",
  fun K => He.Fa.ok K (.glo "is_value"),
  fun K => plainB K (He.ga K "need_name") "need_name",
  fun K => He.Fa.ok K (.glo "need_name"),
  fun K => plainB K (He.ga K "need_value") "need_value",
  fun K => He.Fa.ok K (.glo "need_value")]
def cks1 : List Ck := [
  fun K => plainB K (He.ga K "need_record") "need_record",
  fun K => He.Fa.ok K (.glo "need_record"),
  fun K => plainB K (He.ga K "is_signed_field") "is_signed_field",
  fun K => He.Fa.ok K (.glo "is_signed_field"),
  fun K => plainB K (He.ga K "is_negative") "is_negative",
  fun K => He.Fa.ok K (.glo "is_negative"),
  fun K => plainB K (He.ga K "opposite") "opposite",
  fun K => He.Fa.ok K (.glo "opposite"),
  fun K => plainB K (He.ga K "number_for") "number_for",
  fun K => He.Fa.ok K (.glo "number_for"),
  fun K => plainB K (He.ga K "fields_of") "fields_of",
  fun K => He.Fa.ok K (.glo "fields_of"),
  fun K => plainB K (He.ga K "_law_cell") "_law_cell",
  fun K => He.Fa.ok K (.glo "_law_cell"),
  fun K => plainB K (He.ga K "_law_box") "_law_box",
  fun K => He.Fa.ok K (.glo "_law_box"),
  fun K => plainB K (He.ga K "_law_take") "_law_take",
  fun K => He.Fa.ok K (.glo "_law_take"),
  fun K => plainB K (He.ga K "_law_mixed") "_law_mixed",
  fun K => He.Fa.ok K (.glo "_law_mixed"),
  fun K => plainB K (He.ga K "_law_names") "_law_names",
  fun K => He.Fa.ok K (.glo "_law_names"),
  fun K => plainB K (He.ga K "_law_number") "_law_number",
  fun K => He.Fa.ok K (.glo "_law_number"),
  fun K => plainB K (He.ga K "_law_value") "_law_value",
  fun K => He.Fa.ok K (.glo "_law_value"),
  fun K => plainB K (He.ga K "_law_fields") "_law_fields",
  fun K => He.Fa.ok K (.glo "_law_fields"),
  fun K => plainB K (He.ga K "_law_answer") "_law_answer",
  fun K => He.Fa.ok K (.glo "_law_answer")]
def cks2 : List Ck := [
  fun K => plainB K (He.ga K "_law_order") "_law_order",
  fun K => He.Fa.ok K (.glo "_law_order"),
  fun K => plainB K (He.ga K "_law_turned") "_law_turned",
  fun K => He.Fa.ok K (.glo "_law_turned"),
  fun K => plainB K (He.ga K "_law_right") "_law_right",
  fun K => He.Fa.ok K (.glo "_law_right"),
  fun K => plainB K (He.ga K "_law_equal_right") "_law_equal_right",
  fun K => He.Fa.ok K (.glo "_law_equal_right"),
  fun K => plainB K (He.ga K "law") "law",
  fun K => He.Fa.ok K (.glo "law"),
  fun K => He.Fa.ok K (.glo "By"),
  fun K => He.Fa.ok K (.cls "By"),
  fun K => He.Fa.ok K (.noat "By" "signed_fields"),
  fun K => He.Fa.ok K (.mkr "By"),
  fun K => plainB K (He.ma K (He.ga K "By") "__init__") "By.__init__",
  fun K => plainB K (getr K (He.ma K (He.ga K "By") "fields")) "By.fields",
  fun K => proB K (He.ga K "By") "fields",
  fun K => plainB K (He.ma K (He.ga K "By") "__call__") "By.__call__",
  fun K => calB K (He.ga K "By"),
  fun K => plainB K (He.ma K (He.ga K "By") "answer_for") "By.answer_for",
  fun K => He.Fa.ok K (.meth "By" "answer_for"),
  fun K => plainB K (He.ma K (He.ga K "By") "__add__") "By.__add__",
  fun K => plainB K (He.ma K (He.ga K "By") "__radd__") "By.__radd__",
  fun K => plainB K (He.ma K (He.ga K "By") "__neg__") "By.__neg__",
  fun K => plainB K (He.ma K (He.ga K "By") "__eq__") "By.__eq__",
  fun K => plainB K (He.ma K (He.ga K "By") "__str__") "By.__str__",
  fun K => addoB K (He.ga K "By") (He.ma K (He.ga K "By") "__add__") (He.ma K (He.ga K "By") "__radd__"),
  fun K => eqoB K (He.ga K "By") (He.ma K (He.ga K "By") "__eq__"),
  fun K => nfdB K (He.ga K "By"),
  fun K => isoB K (He.ga K "By")]
def cks3 : List Ck := [
  fun K => fnoB K (He.ga K "By") "__neg__" (He.ma K (He.ga K "By") "__neg__"),
  fun K => fnoB K (He.ga K "By") "__str__" (He.ma K (He.ga K "By") "__str__")]
abbrev cks : List Ck := cks0 ++ cks1 ++ cks2 ++ cks3
def fns0 : List Dp := [
  ⟨fun K => He.ga K "is_integer", "is_integer", "is_integer", sIsInt, []⟩,
  ⟨fun K => He.ga K "is_name", "is_name", "is_name", sIsName, []⟩,
  ⟨fun K => He.ga K "is_value", "is_value", "is_value", sIsValue, []⟩,
  ⟨fun K => He.ga K "need_name", "need_name", "need_name", sNeedName, []⟩,
  ⟨fun K => He.ga K "need_value", "need_value", "need_value", sNeedValue, []⟩,
  ⟨fun K => He.ga K "need_record", "need_record", "need_record", sNeedRecord, []⟩,
  ⟨fun K => He.ga K "is_signed_field", "is_signed_field", "is_signed_field", sSigned, []⟩,
  ⟨fun K => He.ga K "is_negative", "is_negative", "is_negative", sNegative, []⟩,
  ⟨fun K => He.ga K "opposite", "opposite", "opposite", sOpposite, []⟩,
  ⟨fun K => He.ga K "number_for", "number_for", "number_for", sNumberFor, []⟩,
  ⟨fun K => He.ga K "fields_of", "fields_of", "fields_of", sFieldsOf, []⟩,
  ⟨fun K => He.ga K "_law_cell", "_law_cell", "_law_cell", sCell, []⟩,
  ⟨fun K => He.ga K "_law_box", "_law_box", "_law_box", sBox, []⟩,
  ⟨fun K => He.ga K "_law_take", "_law_take", "_law_take", sTake, []⟩,
  ⟨fun K => He.ga K "_law_mixed", "_law_mixed", "_law_mixed", sMixed, []⟩,
  ⟨fun K => He.ga K "_law_names", "_law_names", "_law_names", sNames, []⟩,
  ⟨fun K => He.ga K "_law_number", "_law_number", "_law_number", sNumber, []⟩,
  ⟨fun K => He.ga K "_law_value", "_law_value", "_law_value", sValue, []⟩,
  ⟨fun K => He.ga K "_law_fields", "_law_fields", "_law_fields", sFields, []⟩,
  ⟨fun K => He.ga K "_law_answer", "_law_answer", "_law_answer", sAnswer, []⟩]
def fns1 : List Dp := [
  ⟨fun K => He.ga K "_law_order", "_law_order", "_law_order", sOrder, []⟩,
  ⟨fun K => He.ga K "_law_turned", "_law_turned", "_law_turned", sTurned, []⟩,
  ⟨fun K => He.ga K "_law_right", "_law_right", "_law_right", sRight, []⟩,
  ⟨fun K => He.ga K "_law_equal_right", "_law_equal_right", "_law_equal_right", sEqual, []⟩,
  ⟨fun K => He.ga K "law", "law", "law", sLaw, []⟩,
  ⟨fun K => He.ma K (He.ga K "By") "__init__", "__init__", "By.__init__", (sBy 0), []⟩,
  ⟨fun K => getr K (He.ma K (He.ga K "By") "fields"), "fields", "By.fields", (sBy 1), []⟩,
  ⟨fun K => He.ma K (He.ga K "By") "__call__", "__call__", "By.__call__", (sBy 2), []⟩,
  ⟨fun K => He.ma K (He.ga K "By") "answer_for", "answer_for", "By.answer_for", (sBy 3), []⟩,
  ⟨fun K => He.ma K (He.ga K "By") "__add__", "__add__", "By.__add__", (sBy 4), []⟩,
  ⟨fun K => He.ma K (He.ga K "By") "__radd__", "__radd__", "By.__radd__", (sBy 5), []⟩,
  ⟨fun K => He.ma K (He.ga K "By") "__neg__", "__neg__", "By.__neg__", (sBy 6), []⟩,
  ⟨fun K => He.ma K (He.ga K "By") "__eq__", "__eq__", "By.__eq__", (sBy 7), []⟩,
  ⟨fun K => He.ma K (He.ga K "By") "__str__", "__str__", "By.__str__", (sBy 8), []⟩]
abbrev fns : List Dp := fns0 ++ fns1
theorem facts {w : World} {K : PySem.W.Frag} {h : Heap} {mg : Str → Option Value} {fa : Addr} (X : K.In h) (G : h.Ns mainGlobals mg) (hfa : mg "law" = some (.ref fa)) (c : SaysP cks fns K) :
    ∃ fd : FuncData, (∀ (s : Shared) (u : Value), BindsTo s fd ⟨[u], []⟩ [("_law_script", u)]) ∧ ∀ base : Heap, K.In base → base.Ns mainGlobals mg → FnG PX w K mg base CX0 7 fa fd ["_law_script"] (spLaw K) := by
  have m_isinstance : mg "isinstance" = none := He.free_ok X G (c.ck 0 rfl)
  have m_int : mg "int" = none := He.free_ok X G (c.ck 1 rfl)
  have m_bool : mg "bool" = none := He.free_ok X G (c.ck 2 rfl)
  have m_str : mg "str" = none := He.free_ok X G (c.ck 3 rfl)
  have m_dict : mg "dict" = none := He.free_ok X G (c.ck 4 rfl)
  have m_len : mg "len" = none := He.free_ok X G (c.ck 5 rfl)
  have m_all : mg "all" = none := He.free_ok X G (c.ck 6 rfl)
  have m_list : mg "list" = none := He.free_ok X G (c.ck 7 rfl)
  have m_range : mg "range" = none := He.free_ok X G (c.ck 8 rfl)
  have m_min : mg "min" = none := He.free_ok X G (c.ck 9 rfl)
  have m_max : mg "max" = none := He.free_ok X G (c.ck 10 rfl)
  have m_tuple : mg "tuple" = none := He.free_ok X G (c.ck 11 rfl)
  have m_repr : mg "repr" = none := He.free_ok X G (c.ck 12 rfl)
  have m_zip : mg "zip" = none := He.free_ok X G (c.ck 13 rfl)
  obtain ⟨tcLETTERS, gcLETTERS⟩ := He.str_ok X G (x := "LETTERS") (c.ck 14 rfl)
  obtain ⟨tcMOST_LETTERS, gcMOST_LETTERS⟩ := He.int_ok X G (x := "MOST_LETTERS") (c.ck 15 rfl)
  obtain ⟨tcMOST_FIELDS, gcMOST_FIELDS⟩ := He.int_ok X G (x := "MOST_FIELDS") (c.ck 16 rfl)
  obtain ⟨tcGREATEST, gcGREATEST⟩ := He.int_ok X G (x := "GREATEST") (c.ck 17 rfl)
  obtain ⟨tcMOST_IN_ORDER, gcMOST_IN_ORDER⟩ := He.int_ok X G (x := "MOST_IN_ORDER") (c.ck 18 rfl)
  obtain ⟨tcMISSING, gcMISSING⟩ := He.int_ok X G (x := "MISSING") (c.ck 19 rfl)
  obtain ⟨fdisint, Fisint⟩ : ∃ fd, Fun K "is_integer" "is_integer" sIsInt (He.ga K "is_integer") fd := fun_of (c.at_ 0 rfl) rfl (c.ck 20 rfl)
  have bisint := Fisint.binds (ps := ["value", "low", "high"]) fun _ _ _ _ _ _ us hl => match us, hl with | [_, _, _], _ => rfl
  have gisint : mg "is_integer" = some (.ref (He.ga K "is_integer")) := He.glo_ok X G (c.ck 21 rfl)
  have kisint := Fisint.kp
  obtain ⟨fdisname, Fisname⟩ : ∃ fd, Fun K "is_name" "is_name" sIsName (He.ga K "is_name") fd := fun_of (c.at_ 1 rfl) rfl (c.ck 22 rfl)
  have bisname := Fisname.binds (ps := ["value"]) fun _ _ _ _ _ _ us hl => match us, hl with | [_], _ => rfl
  have gisname : mg "is_name" = some (.ref (He.ga K "is_name")) := He.glo_ok X G (c.ck 23 rfl)
  have kisname := Fisname.kp
  obtain ⟨fdisvalue, Fisvalue⟩ : ∃ fd, Fun K "is_value" "is_value" sIsValue (He.ga K "is_value") fd := fun_of (c.at_ 2 rfl) rfl (c.ck 24 rfl)
  have bisvalue := Fisvalue.binds (ps := ["value"]) fun _ _ _ _ _ _ us hl => match us, hl with | [_], _ => rfl
  have gisvalue : mg "is_value" = some (.ref (He.ga K "is_value")) := He.glo_ok X G (c.ck 25 rfl)
  have kisvalue := Fisvalue.kp
  obtain ⟨fdneedname, Fneedname⟩ : ∃ fd, Fun K "need_name" "need_name" sNeedName (He.ga K "need_name") fd := fun_of (c.at_ 3 rfl) rfl (c.ck 26 rfl)
  have bneedname := Fneedname.binds (ps := ["value"]) fun _ _ _ _ _ _ us hl => match us, hl with | [_], _ => rfl
  have gneedname : mg "need_name" = some (.ref (He.ga K "need_name")) := He.glo_ok X G (c.ck 27 rfl)
  have kneedname := Fneedname.kp
  obtain ⟨fdneedvalue, Fneedvalue⟩ : ∃ fd, Fun K "need_value" "need_value" sNeedValue (He.ga K "need_value") fd := fun_of (c.at_ 4 rfl) rfl (c.ck 28 rfl)
  have bneedvalue := Fneedvalue.binds (ps := ["value"]) fun _ _ _ _ _ _ us hl => match us, hl with | [_], _ => rfl
  have gneedvalue : mg "need_value" = some (.ref (He.ga K "need_value")) := He.glo_ok X G (c.ck 29 rfl)
  have kneedvalue := Fneedvalue.kp
  obtain ⟨fdneedrecord, Fneedrecord⟩ : ∃ fd, Fun K "need_record" "need_record" sNeedRecord (He.ga K "need_record") fd := fun_of (c.at_ 5 rfl) rfl (c.ck 30 rfl)
  have bneedrecord := Fneedrecord.binds (ps := ["key", "value"]) fun _ _ _ _ _ _ us hl => match us, hl with | [_, _], _ => rfl
  have gneedrecord : mg "need_record" = some (.ref (He.ga K "need_record")) := He.glo_ok X G (c.ck 31 rfl)
  have kneedrecord := Fneedrecord.kp
  obtain ⟨fdsigned, Fsigned⟩ : ∃ fd, Fun K "is_signed_field" "is_signed_field" sSigned (He.ga K "is_signed_field") fd := fun_of (c.at_ 6 rfl) rfl (c.ck 32 rfl)
  have bsigned := Fsigned.binds (ps := ["value"]) fun _ _ _ _ _ _ us hl => match us, hl with | [_], _ => rfl
  have gsigned : mg "is_signed_field" = some (.ref (He.ga K "is_signed_field")) := He.glo_ok X G (c.ck 33 rfl)
  have ksigned := Fsigned.kp
  obtain ⟨fdnegative, Fnegative⟩ : ∃ fd, Fun K "is_negative" "is_negative" sNegative (He.ga K "is_negative") fd := fun_of (c.at_ 7 rfl) rfl (c.ck 34 rfl)
  have bnegative := Fnegative.binds (ps := ["field"]) fun _ _ _ _ _ _ us hl => match us, hl with | [_], _ => rfl
  have gnegative : mg "is_negative" = some (.ref (He.ga K "is_negative")) := He.glo_ok X G (c.ck 35 rfl)
  have knegative := Fnegative.kp
  obtain ⟨fdopposite, Fopposite⟩ : ∃ fd, Fun K "opposite" "opposite" sOpposite (He.ga K "opposite") fd := fun_of (c.at_ 8 rfl) rfl (c.ck 36 rfl)
  have bopposite := Fopposite.binds (ps := ["field"]) fun _ _ _ _ _ _ us hl => match us, hl with | [_], _ => rfl
  have gopposite : mg "opposite" = some (.ref (He.ga K "opposite")) := He.glo_ok X G (c.ck 37 rfl)
  have kopposite := Fopposite.kp
  obtain ⟨fdnumfor, Fnumfor⟩ : ∃ fd, Fun K "number_for" "number_for" sNumberFor (He.ga K "number_for") fd := fun_of (c.at_ 9 rfl) rfl (c.ck 38 rfl)
  have bnumfor := Fnumfor.binds (ps := ["field", "value"]) fun _ _ _ _ _ _ us hl => match us, hl with | [_, _], _ => rfl
  have gnumfor : mg "number_for" = some (.ref (He.ga K "number_for")) := He.glo_ok X G (c.ck 39 rfl)
  have knumfor := Fnumfor.kp
  obtain ⟨fdfieldsof, Ffieldsof⟩ : ∃ fd, Fun K "fields_of" "fields_of" sFieldsOf (He.ga K "fields_of") fd := fun_of (c.at_ 10 rfl) rfl (c.ck 40 rfl)
  have bfieldsof := Ffieldsof.binds (ps := ["operand"]) fun _ _ _ _ _ _ us hl => match us, hl with | [_], _ => rfl
  have gfieldsof : mg "fields_of" = some (.ref (He.ga K "fields_of")) := He.glo_ok X G (c.ck 41 rfl)
  have kfieldsof := Ffieldsof.kp
  obtain ⟨fdcell, Fcell⟩ : ∃ fd, Fun K "_law_cell" "_law_cell" sCell (He.ga K "_law_cell") fd := fun_of (c.at_ 11 rfl) rfl (c.ck 42 rfl)
  have bcell := Fcell.binds (ps := ["_law_script", "_law_k"]) fun _ _ _ _ _ _ us hl => match us, hl with | [_, _], _ => rfl
  have gcell : mg "_law_cell" = some (.ref (He.ga K "_law_cell")) := He.glo_ok X G (c.ck 43 rfl)
  have kcell := Fcell.kp
  obtain ⟨fdbox, Fbox⟩ : ∃ fd, Fun K "_law_box" "_law_box" sBox (He.ga K "_law_box") fd := fun_of (c.at_ 12 rfl) rfl (c.ck 44 rfl)
  have bbox := Fbox.binds (ps := ["_law_cell_here"]) fun _ _ _ _ _ _ us hl => match us, hl with | [_], _ => rfl
  have gbox : mg "_law_box" = some (.ref (He.ga K "_law_box")) := He.glo_ok X G (c.ck 45 rfl)
  have kbox := Fbox.kp
  obtain ⟨fdtake, Ftake⟩ : ∃ fd, Fun K "_law_take" "_law_take" sTake (He.ga K "_law_take") fd := fun_of (c.at_ 13 rfl) rfl (c.ck 46 rfl)
  have btake := Ftake.binds (ps := ["_law_box_here", "_law_many"]) fun _ _ _ _ _ _ us hl => match us, hl with | [_, _], _ => rfl
  have gtake : mg "_law_take" = some (.ref (He.ga K "_law_take")) := He.glo_ok X G (c.ck 47 rfl)
  have ktake := Ftake.kp
  obtain ⟨fdmixed, Fmixed⟩ : ∃ fd, Fun K "_law_mixed" "_law_mixed" sMixed (He.ga K "_law_mixed") fd := fun_of (c.at_ 14 rfl) rfl (c.ck 48 rfl)
  have bmixed := Fmixed.binds (ps := ["_law_box_here", "_law_some"]) fun _ _ _ _ _ _ us hl => match us, hl with | [_, _], _ => rfl
  have gmixed : mg "_law_mixed" = some (.ref (He.ga K "_law_mixed")) := He.glo_ok X G (c.ck 49 rfl)
  have kmixed := Fmixed.kp
  obtain ⟨fdnames, Fnames⟩ : ∃ fd, Fun K "_law_names" "_law_names" sNames (He.ga K "_law_names") fd := fun_of (c.at_ 15 rfl) rfl (c.ck 50 rfl)
  have bnames := Fnames.binds (ps := ["_law_box_here", "_law_many"]) fun _ _ _ _ _ _ us hl => match us, hl with | [_, _], _ => rfl
  have gnames : mg "_law_names" = some (.ref (He.ga K "_law_names")) := He.glo_ok X G (c.ck 51 rfl)
  have knames := Fnames.kp
  obtain ⟨fdnumber, Fnumber⟩ : ∃ fd, Fun K "_law_number" "_law_number" sNumber (He.ga K "_law_number") fd := fun_of (c.at_ 16 rfl) rfl (c.ck 52 rfl)
  have bnumber := Fnumber.binds (ps := ["_law_box_here"]) fun _ _ _ _ _ _ us hl => match us, hl with | [_], _ => rfl
  have gnumber : mg "_law_number" = some (.ref (He.ga K "_law_number")) := He.glo_ok X G (c.ck 53 rfl)
  have knumber := Fnumber.kp
  obtain ⟨fdvalue, Fvalue⟩ : ∃ fd, Fun K "_law_value" "_law_value" sValue (He.ga K "_law_value") fd := fun_of (c.at_ 17 rfl) rfl (c.ck 54 rfl)
  have bvalue := Fvalue.binds (ps := ["_law_box_here", "_law_fields_here"]) fun _ _ _ _ _ _ us hl => match us, hl with | [_, _], _ => rfl
  have gvalue : mg "_law_value" = some (.ref (He.ga K "_law_value")) := He.glo_ok X G (c.ck 55 rfl)
  have kvalue := Fvalue.kp
  obtain ⟨fdfields, Ffields⟩ : ∃ fd, Fun K "_law_fields" "_law_fields" sFields (He.ga K "_law_fields") fd := fun_of (c.at_ 18 rfl) rfl (c.ck 56 rfl)
  have bfields := Ffields.binds (ps := ["_law_box_here", "_law_names_here", "_law_most"]) fun _ _ _ _ _ _ us hl => match us, hl with | [_, _, _], _ => rfl
  have gfields : mg "_law_fields" = some (.ref (He.ga K "_law_fields")) := He.glo_ok X G (c.ck 57 rfl)
  have kfields := Ffields.kp
  obtain ⟨fdanswer, Fanswer⟩ : ∃ fd, Fun K "_law_answer" "_law_answer" sAnswer (He.ga K "_law_answer") fd := fun_of (c.at_ 19 rfl) rfl (c.ck 58 rfl)
  have banswer := Fanswer.binds (ps := ["_law_fields_here", "_law_worth"]) fun _ _ _ _ _ _ us hl => match us, hl with | [_, _], _ => rfl
  have ganswer : mg "_law_answer" = some (.ref (He.ga K "_law_answer")) := He.glo_ok X G (c.ck 59 rfl)
  have kanswer := Fanswer.kp
  obtain ⟨fdorder, Forder⟩ : ∃ fd, Fun K "_law_order" "_law_order" sOrder (He.ga K "_law_order") fd := fun_of (c.at_ 20 rfl) rfl (c.ck 60 rfl)
  have border := Forder.binds (ps := ["_law_fields_here"]) fun _ _ _ _ _ _ us hl => match us, hl with | [_], _ => rfl
  have gorder : mg "_law_order" = some (.ref (He.ga K "_law_order")) := He.glo_ok X G (c.ck 61 rfl)
  have korder := Forder.kp
  obtain ⟨fdturned, Fturned⟩ : ∃ fd, Fun K "_law_turned" "_law_turned" sTurned (He.ga K "_law_turned") fd := fun_of (c.at_ 21 rfl) rfl (c.ck 62 rfl)
  have bturned := Fturned.binds (ps := ["_law_fields_here"]) fun _ _ _ _ _ _ us hl => match us, hl with | [_], _ => rfl
  have gturned : mg "_law_turned" = some (.ref (He.ga K "_law_turned")) := He.glo_ok X G (c.ck 63 rfl)
  have kturned := Fturned.kp
  obtain ⟨fdright, Fright⟩ : ∃ fd, Fun K "_law_right" "_law_right" sRight (He.ga K "_law_right") fd := fun_of (c.at_ 22 rfl) rfl (c.ck 64 rfl)
  have bright := Fright.binds (ps := ["_law_box_here", "_law_names_here"]) fun _ _ _ _ _ _ us hl => match us, hl with | [_, _], _ => rfl
  have gright : mg "_law_right" = some (.ref (He.ga K "_law_right")) := He.glo_ok X G (c.ck 65 rfl)
  have kright := Fright.kp
  obtain ⟨fdequal, Fequal⟩ : ∃ fd, Fun K "_law_equal_right" "_law_equal_right" sEqual (He.ga K "_law_equal_right") fd := fun_of (c.at_ 23 rfl) rfl (c.ck 66 rfl)
  have bequal := Fequal.binds (ps := ["_law_box_here", "_law_names_here"]) fun _ _ _ _ _ _ us hl => match us, hl with | [_, _], _ => rfl
  have gequal : mg "_law_equal_right" = some (.ref (He.ga K "_law_equal_right")) := He.glo_ok X G (c.ck 67 rfl)
  have kequal := Fequal.kp
  obtain ⟨fdlaw, Flaw⟩ : ∃ fd, Fun K "law" "law" sLaw (He.ga K "law") fd := fun_of (c.at_ 24 rfl) rfl (c.ck 68 rfl)
  have blaw := Flaw.binds (ps := ["_law_script"]) fun _ _ _ _ _ _ us hl => match us, hl with | [_], _ => rfl
  have glaw : mg "law" = some (.ref (He.ga K "law")) := He.glo_ok X G (c.ck 69 rfl)
  have klaw := Flaw.kp
  have gBy : mg "By" = some (.ref (He.ga K "By")) := He.glo_ok X G (c.ck 70 rfl)
  have cBy : Cls K (He.ga K "By") := He.cls_ok (c.ck 71 rfl)
  have nBy_signed_fields : NoAttr K (He.ga K "By") "signed_fields" := He.noat_ok (c.ck 72 rfl)
  have MBy : Mk K (He.ga K "By") (He.ma K (He.ga K "By") "__init__") := He.mkr_ok (c.ck 73 rfl)
  obtain ⟨fdini, Fini⟩ : ∃ fd, Fun K "__init__" "By.__init__" (sBy 0) (He.ma K (He.ga K "By") "__init__") fd := fun_of (c.at_ 25 rfl) rfl (c.ck 74 rfl)
  obtain ⟨fdflds, Fflds⟩ : ∃ fd, Fun K "fields" "By.fields" (sBy 1) (getr K (He.ma K (He.ga K "By") "fields")) fd := fun_of (c.at_ 26 rfl) rfl (c.ck 75 rfl)
  have bflds := Fflds.binds (ps := ["self"]) fun _ _ _ _ _ _ us hl => match us, hl with | [_], _ => rfl
  have Pflds : PropOf K (He.ga K "By") "fields" (He.ma K (He.ga K "By") "fields") (getr K (He.ma K (He.ga K "By") "fields")) := pro_ok (c.ck 76 rfl)
  obtain ⟨fdcall, Fcall⟩ : ∃ fd, Fun K "__call__" "By.__call__" (sBy 2) (He.ma K (He.ga K "By") "__call__") fd := fun_of (c.at_ 27 rfl) rfl (c.ck 77 rfl)
  have bcall := Fcall.binds (ps := ["self", "key", "value"]) fun _ _ _ _ _ _ us hl => match us, hl with | [_, _, _], _ => rfl
  have Mcall : CallO K (He.ga K "By") (He.ma K (He.ga K "By") "__call__") := cal_ok (c.ck 78 rfl)
  obtain ⟨fdans, Fans⟩ : ∃ fd, Fun K "answer_for" "By.answer_for" (sBy 3) (He.ma K (He.ga K "By") "answer_for") fd := fun_of (c.at_ 28 rfl) rfl (c.ck 79 rfl)
  have bans := Fans.binds (ps := ["self", "value"]) fun _ _ _ _ _ _ us hl => match us, hl with | [_, _], _ => rfl
  have Mans : Meth K (He.ga K "By") "answer_for" (He.ma K (He.ga K "By") "answer_for") := He.meth_ok (c.ck 80 rfl)
  obtain ⟨fdadd, Fadd⟩ : ∃ fd, Fun K "__add__" "By.__add__" (sBy 4) (He.ma K (He.ga K "By") "__add__") fd := fun_of (c.at_ 29 rfl) rfl (c.ck 81 rfl)
  have badd := Fadd.binds (ps := ["self", "other"]) fun _ _ _ _ _ _ us hl => match us, hl with | [_, _], _ => rfl
  obtain ⟨fdradd, Fradd⟩ : ∃ fd, Fun K "__radd__" "By.__radd__" (sBy 5) (He.ma K (He.ga K "By") "__radd__") fd := fun_of (c.at_ 30 rfl) rfl (c.ck 82 rfl)
  have bradd := Fradd.binds (ps := ["self", "other"]) fun _ _ _ _ _ _ us hl => match us, hl with | [_, _], _ => rfl
  obtain ⟨fdneg, Fneg⟩ : ∃ fd, Fun K "__neg__" "By.__neg__" (sBy 6) (He.ma K (He.ga K "By") "__neg__") fd := fun_of (c.at_ 31 rfl) rfl (c.ck 83 rfl)
  have bneg := Fneg.binds (ps := ["self"]) fun _ _ _ _ _ _ us hl => match us, hl with | [_], _ => rfl
  obtain ⟨fdeq, Feq⟩ : ∃ fd, Fun K "__eq__" "By.__eq__" (sBy 7) (He.ma K (He.ga K "By") "__eq__") fd := fun_of (c.at_ 32 rfl) rfl (c.ck 84 rfl)
  have beq := Feq.binds (ps := ["self", "other"]) fun _ _ _ _ _ _ us hl => match us, hl with | [_, _], _ => rfl
  obtain ⟨fdstr, Fstr⟩ : ∃ fd, Fun K "__str__" "By.__str__" (sBy 8) (He.ma K (He.ga K "By") "__str__") fd := fun_of (c.at_ 33 rfl) rfl (c.ck 85 rfl)
  have bstr := Fstr.binds (ps := ["self"]) fun _ _ _ _ _ _ us hl => match us, hl with | [_], _ => rfl
  have ao : AddO K (He.ga K "By") (He.ma K (He.ga K "By") "__add__") (He.ma K (He.ga K "By") "__radd__") := addo_ok (c.ck 86 rfl)
  have eo : EqO K (He.ga K "By") (He.ma K (He.ga K "By") "__eq__") := eqo_ok (c.ck 87 rfl)
  have nf : NfD K (He.ga K "By") := nfd_ok (c.ck 88 rfl)
  have io : IsO K (He.ga K "By") := iso_ok (c.ck 89 rfl) cBy
  obtain ⟨ng0, ng2⟩ := He.ba (c.ck 90 rfl : fnoB K (He.ga K "By") "__neg__" (He.ma K (He.ga K "By") "__neg__") = true)
  have ng1 := He.eqO_ok ng0
  obtain ⟨so0, so2⟩ := He.ba (c.ck 91 rfl : fnoB K (He.ga K "By") "__str__" (He.ma K (He.ga K "By") "__str__") = true)
  have so1 := He.eqO_ok so0
  have e := hfa.symm.trans glaw
  cases e
  obtain ⟨_, _, _, _, _, _, _, _, _, hfd, _, _⟩ := Flaw.ex
  refine ⟨fdlaw, fun s u => by rw [hfd]; exact .of_eq rfl, fun base _ _ => ?_⟩
  exact Dl.o_law (base := base) ({
      m_isinstance := m_isinstance
      m_int := m_int
      m_bool := m_bool
      m_str := m_str
      m_dict := m_dict
      m_len := m_len
      m_all := m_all
      m_list := m_list
      m_range := m_range
      m_min := m_min
      m_max := m_max
      m_tuple := m_tuple
      m_repr := m_repr
      m_zip := m_zip
      t_LETTERS := tcLETTERS
      c_LETTERS := gcLETTERS
      t_MOST_LETTERS := tcMOST_LETTERS
      c_MOST_LETTERS := gcMOST_LETTERS
      t_MOST_FIELDS := tcMOST_FIELDS
      c_MOST_FIELDS := gcMOST_FIELDS
      t_GREATEST := tcGREATEST
      c_GREATEST := gcGREATEST
      t_MOST_IN_ORDER := tcMOST_IN_ORDER
      c_MOST_IN_ORDER := gcMOST_IN_ORDER
      t_MISSING := tcMISSING
      c_MISSING := gcMISSING
      f_isint := He.ga K "is_integer"
      fd_isint := fdisint
      F_isint := Fisint
      b_isint := bisint
      g_isint := gisint
      k_isint := kisint
      f_isname := He.ga K "is_name"
      fd_isname := fdisname
      F_isname := Fisname
      b_isname := bisname
      g_isname := gisname
      k_isname := kisname
      f_isvalue := He.ga K "is_value"
      fd_isvalue := fdisvalue
      F_isvalue := Fisvalue
      b_isvalue := bisvalue
      g_isvalue := gisvalue
      k_isvalue := kisvalue
      f_needname := He.ga K "need_name"
      fd_needname := fdneedname
      F_needname := Fneedname
      b_needname := bneedname
      g_needname := gneedname
      k_needname := kneedname
      f_needvalue := He.ga K "need_value"
      fd_needvalue := fdneedvalue
      F_needvalue := Fneedvalue
      b_needvalue := bneedvalue
      g_needvalue := gneedvalue
      k_needvalue := kneedvalue
      f_needrecord := He.ga K "need_record"
      fd_needrecord := fdneedrecord
      F_needrecord := Fneedrecord
      b_needrecord := bneedrecord
      g_needrecord := gneedrecord
      k_needrecord := kneedrecord
      f_signed := He.ga K "is_signed_field"
      fd_signed := fdsigned
      F_signed := Fsigned
      b_signed := bsigned
      g_signed := gsigned
      k_signed := ksigned
      f_negative := He.ga K "is_negative"
      fd_negative := fdnegative
      F_negative := Fnegative
      b_negative := bnegative
      g_negative := gnegative
      k_negative := knegative
      f_opposite := He.ga K "opposite"
      fd_opposite := fdopposite
      F_opposite := Fopposite
      b_opposite := bopposite
      g_opposite := gopposite
      k_opposite := kopposite
      f_numfor := He.ga K "number_for"
      fd_numfor := fdnumfor
      F_numfor := Fnumfor
      b_numfor := bnumfor
      g_numfor := gnumfor
      k_numfor := knumfor
      f_fieldsof := He.ga K "fields_of"
      fd_fieldsof := fdfieldsof
      F_fieldsof := Ffieldsof
      b_fieldsof := bfieldsof
      g_fieldsof := gfieldsof
      k_fieldsof := kfieldsof
      f_cell := He.ga K "_law_cell"
      fd_cell := fdcell
      F_cell := Fcell
      b_cell := bcell
      g_cell := gcell
      k_cell := kcell
      f_box := He.ga K "_law_box"
      fd_box := fdbox
      F_box := Fbox
      b_box := bbox
      g_box := gbox
      k_box := kbox
      f_take := He.ga K "_law_take"
      fd_take := fdtake
      F_take := Ftake
      b_take := btake
      g_take := gtake
      k_take := ktake
      f_mixed := He.ga K "_law_mixed"
      fd_mixed := fdmixed
      F_mixed := Fmixed
      b_mixed := bmixed
      g_mixed := gmixed
      k_mixed := kmixed
      f_names := He.ga K "_law_names"
      fd_names := fdnames
      F_names := Fnames
      b_names := bnames
      g_names := gnames
      k_names := knames
      f_number := He.ga K "_law_number"
      fd_number := fdnumber
      F_number := Fnumber
      b_number := bnumber
      g_number := gnumber
      k_number := knumber
      f_value := He.ga K "_law_value"
      fd_value := fdvalue
      F_value := Fvalue
      b_value := bvalue
      g_value := gvalue
      k_value := kvalue
      f_fields := He.ga K "_law_fields"
      fd_fields := fdfields
      F_fields := Ffields
      b_fields := bfields
      g_fields := gfields
      k_fields := kfields
      f_answer := He.ga K "_law_answer"
      fd_answer := fdanswer
      F_answer := Fanswer
      b_answer := banswer
      g_answer := ganswer
      k_answer := kanswer
      f_order := He.ga K "_law_order"
      fd_order := fdorder
      F_order := Forder
      b_order := border
      g_order := gorder
      k_order := korder
      f_turned := He.ga K "_law_turned"
      fd_turned := fdturned
      F_turned := Fturned
      b_turned := bturned
      g_turned := gturned
      k_turned := kturned
      f_right := He.ga K "_law_right"
      fd_right := fdright
      F_right := Fright
      b_right := bright
      g_right := gright
      k_right := kright
      f_equal := He.ga K "_law_equal_right"
      fd_equal := fdequal
      F_equal := Fequal
      b_equal := bequal
      g_equal := gequal
      k_equal := kequal
      f_law := He.ga K "law"
      fd_law := fdlaw
      F_law := Flaw
      b_law := blaw
      g_law := glaw
      k_law := klaw
      C := He.ga K "By"
      g_By := gBy
      cl := cBy
      n_sf := nBy_signed_fields
      f_ini := He.ma K (He.ga K "By") "__init__"
      fd_ini := fdini
      F_ini := Fini
      f_flds := getr K (He.ma K (He.ga K "By") "fields")
      fd_flds := fdflds
      F_flds := Fflds
      b_flds := bflds
      f_call := He.ma K (He.ga K "By") "__call__"
      fd_call := fdcall
      F_call := Fcall
      b_call := bcall
      f_ans := He.ma K (He.ga K "By") "answer_for"
      fd_ans := fdans
      F_ans := Fans
      b_ans := bans
      f_add := He.ma K (He.ga K "By") "__add__"
      fd_add := fdadd
      F_add := Fadd
      b_add := badd
      f_radd := He.ma K (He.ga K "By") "__radd__"
      fd_radd := fdradd
      F_radd := Fradd
      b_radd := bradd
      f_neg := He.ma K (He.ga K "By") "__neg__"
      fd_neg := fdneg
      F_neg := Fneg
      b_neg := bneg
      f_eq := He.ma K (He.ga K "By") "__eq__"
      fd_eq := fdeq
      F_eq := Feq
      b_eq := beq
      f_str := He.ma K (He.ga K "By") "__str__"
      fd_str := fdstr
      F_str := Fstr
      b_str := bstr
      mkC := MBy
      pa := He.ma K (He.ga K "By") "fields"
      pf := Pflds
      co := Mcall
      me := Mans
      ao := ao
      eo := eo
      nf := nf
      io := io
      ng := ng1
      ngf := ng2
      so := so1
      sof := so2 } : Dl.Top K mg)
end G
set_option Elab.async false
set_option linter.all false
set_option maxRecDepth 100000
set_option maxHeartbeats 8000000
/-! XB: the top's run. -/
namespace G
open PySem PySem.Spec PyProof.Rows L2 NdefX StX Dl
abbrev hk : PySem.W.Hook := hookP 5 cks fns
def ob (s : PySem.W.SharedT) : AlP := obsPG 5 cks fns (HandSHeadRun.getT s)
theorem ob_eq (s : PySem.W.SharedT) : ob s = hk.obs s.abs := obsPG_eq (HandSHeadRun.getT_eq s)
def loose0 : List Str := ["_wall", "BoardError", "InvalidName", "InvalidValue", "InvalidOrder", "InvalidText", "TooMany", "LETTERS", "MOST_LETTERS", "MOST_FIELDS", "GREATEST", "is_integer", "is_name", "is_value", "split_words", "need_name", "need_value", "need_record", "MOST_IN_ORDER", "MISSING", "By", "is_signed_field", "is_negative", "opposite", "number_for", "fields_of", "_law_cell", "_law_box", "_law_take", "_law_mixed"]
def loose1 : List Str := ["_law_names", "_law_number", "_law_value", "_law_fields", "_law_answer", "_law_order", "_law_turned", "_law_right", "_law_equal_right"]
abbrev looseX : List Str := loose0 ++ loose1
theorem run (w : World) : HandSHeadRun.RunEq (PySem.W.OpenLaw.row PySem.Challenge.rw_listviews_k15_orders_joined_and_turned) (PySem.W.view PX [44]) hk ob 20000 looseX w := by
  intro os
  kernel_rfl
end G
set_option Elab.async false
set_option linter.all false
set_option maxRecDepth 100000
set_option maxHeartbeats 8000000
/-! XC: the end. -/
open PySem PySem.W PySem.Calls PyProof.Rows
set_option maxRecDepth 100000 in
set_option maxHeartbeats 0 in
theorem PySem.Challenge.cw_listviews_k15_orders_joined_and_turned_holds : PySem.Challenge.rw_listviews_k15_orders_joined_and_turned.Holds := by
  w_on; o_law
  refine HandSHeadRun.head_any (r := OpenLaw.row PySem.Challenge.rw_listviews_k15_orders_joined_and_turned) (q := view (OpenLaw.row PySem.Challenge.rw_listviews_k15_orders_joined_and_turned).prog [44]) (H := G.hk) (ob := G.ob) (M := 20000) (loose := G.looseX) (d := HandSHeadRun.topDef (OpenLaw.row PySem.Challenge.rw_listviews_k15_orders_joined_and_turned).prog 44) (kwd := []) G.ob_eq
    (by kernel_rfl) (fun s => by kernel_rfl) G.run (by kernel_rfl) (by kernel_rfl) (by kernel_rfl) (by rfl) (by first | assumption | decide +kernel) (by decide +kernel) ⟨rfl, rfl, rfl, rfl, rfl, by decide +kernel⟩ ?hw ?hc
  case hw => w_witness2
  case hc =>
    refine G.walk_goE (l := PySem.Challenge.rw_listviews_k15_orders_joined_and_turned) (n := 63) (k := 7) (x := "_law_script") rfl (by decide) (by kernel_rfl) ⟨rfl, by decide, by decide⟩ ?F
    intro w mg fa h Y GX hmg0
    obtain ⟨K, KX, c⟩ := Y
    have hmg : mg ("law" : PySem.Str) = some (.ref fa) := by
      have e : (HandSHeadRun.topDef (OpenLaw.row PySem.Challenge.rw_listviews_k15_orders_joined_and_turned).prog 44).name = ("law" : PySem.Str) := by kernel_rfl
      rw [← e]
      exact hmg0
    obtain ⟨fd, hb, hF⟩ := G.facts (w := w) KX GX hmg c
    exact ⟨K, fd, Dl.spLaw K, KX, hb, fun H a ns hl _ hS => ⟨a, ns, rfl, hS, hl, fun _ => rfl⟩, hF⟩
