import PyProof.Rows.All
import Wide.All
import OpenK.AllK
import Wide.FinOn
import HandS.ForMost
import HandS.ForExc
import HandS.ExcInit
import HandS.ExcField
import HandS.TryMany
import HandS.IsInst
import HandS.Wide
import HandS.Small
import HandS.RaiseMore
import PyProof.ReprRoads
import KE.KSuper
import HandS.ClsMeth
import HandS.Nested
import HandS.More
import KE.KOpsOwn
import HandS.Star
import HandS.MethStar
import HandS.StrMore
import HandS.Walk
import HandS.Defaults
import HandS.MakeKwOnly
import HandS.Property
import HandS.Head0
import HandS.Head1
import HandS.Head2
import HandS.HeadHook1
import HandS.HeadHook2
import HandS.NoneIn
import PyProof.CallFns
import HandS.Style
import HandS.TupAny
import PySem.Challenge.RW_listviews_k06_nested_conditions_called
set_option Elab.async false
set_option linter.all false
set_option maxRecDepth 100000
set_option maxHeartbeats 2000000
/-! G1: what a def keeps where no guard is under way; repr of data at any depth, dicts too. -/
namespace G
open PySem PySem.Spec PyProof.Rows L2

/-! ### how long a shown text is -/
mutual
def mass : PyData → Nat
  | .none => 4
  | .bool _ => 5
  | .int _ => 1921
  | .str x => (reprText x).length
  | .list xs => 3 + massAll xs
  | .tuple xs => 4 + massAll xs
  | .dict kvs => 3 + massKv kvs
def massAll : List PyData → Nat
  | [] => 0
  | x :: xs => mass x + 2 + massAll xs
def massKv : List (PyData × PyData) → Nat
  | [] => 0
  | (k, v) :: r => mass k + mass v + 4 + massKv r
end
theorem text_from_le : ∀ (ts : List Str) (k : Nat) (acc : Str), (textFrom k acc ts).length ≤ acc.length + piled ts
  | [], k, acc => by
    show acc.length ≤ acc.length + 0
    omega
  | t :: r, k, acc => by
    have h1 := text_from_le r (k + 1) (acc ++ (if k > 0 then ", " else "" : String) ++ t)
    rw [strLen_append, strLen_append] at h1
    have h2 : (((if k > 0 then ", " else "" : String) : Str)).length ≤ 2 := by
      split <;> decide
    show (textFrom (k + 1) _ r).length ≤ _
    rw [piled_cons]
    omega
theorem list_text_le (ts : List Str) : (listText ts).length ≤ 3 + piled ts := by
  unfold listText
  rw [strLen_append]
  have h1 := text_from_le ts 0 "["
  have e1 : ((("[" : String) : Str)).length = 1 := rfl
  have e2 : ((("]" : String) : Str)).length = 1 := rfl
  rw [e1] at h1
  rw [e2]
  omega
theorem join_le (ts : List Str) : (Str.join ", " ts).length ≤ piled ts := by
  by_cases h : ts = []
  · subst h
    exact Nat.le_refl 0
  · have := join_length_add ts h
    omega
theorem tuple_text_le (ts : List Str) : (tupleText ts).length ≤ 4 + piled ts := by
  unfold tupleText
  rw [strLen_append, strLen_append]
  have h1 := join_le ts
  have e1 : ((("(" : String) : Str)).length = 1 := rfl
  have e3 : (((if ts.length == 1 then ",)" else ")" : String) : Str)).length ≤ 2 := by split <;> decide
  rw [e1]
  omega
theorem dict_text_le (ts : List Str) : (dictText ts).length ≤ 3 + piled ts := by
  unfold dictText
  rw [strLen_append, strLen_append]
  have h1 := join_le ts
  have e1 : ((("{" : String) : Str)).length = 1 := rfl
  have e3 : ((("}" : String) : Str)).length = 1 := rfl
  rw [e1, e3]
  omega
mutual
theorem shown_le : ∀ d : PyData, d.showable = true → d.shown.length ≤ mass d
  | .none, _ => by decide
  | .bool b, _ => by cases b <;> decide
  | .int i, h => by
    have h' : i.natAbs.log2 < 1920 := by simpa [PyData.showable] using h
    have h2 := int_text_length_le (by decide) h'
    show (Str.ofString (toString i)).length ≤ 1921
    rw [PySem.ofString_length]
    exact h2
  | .str x, _ => by
    simp only [PyData.shown, mass]
    exact Nat.le_refl _
  | .list xs, h => by
    have h' : PyData.showableAll xs = true := by simpa [PyData.showable] using h
    have h1 := list_text_le (PyData.shownAll xs)
    have h2 := shown_all_le xs h'
    simp only [PyData.shown, mass]
    omega
  | .tuple xs, h => by
    have h' : PyData.showableAll xs = true := by simpa [PyData.showable] using h
    have h1 := tuple_text_le (PyData.shownAll xs)
    have h2 := shown_all_le xs h'
    simp only [PyData.shown, mass]
    omega
  | .dict kvs, h => by
    have h' : PyData.showableKv kvs = true := by simpa [PyData.showable] using h
    have h1 := dict_text_le (PyData.shownKv kvs)
    have h2 := shown_kv_le kvs h'
    simp only [PyData.shown, mass]
    omega
theorem shown_all_le : ∀ xs : List PyData, PyData.showableAll xs = true → piled (PyData.shownAll xs) ≤ massAll xs
  | [], _ => by
    simp only [PyData.shownAll, massAll, piled_nil]
    exact Nat.le_refl _
  | x :: xs, h => by
    simp only [PyData.showableAll, Bool.and_eq_true] at h
    have h1 := shown_le x h.1
    have h2 := shown_all_le xs h.2
    simp only [PyData.shownAll, massAll, piled_cons]
    omega
theorem shown_kv_le : ∀ xs : List (PyData × PyData), PyData.showableKv xs = true → piled (PyData.shownKv xs) ≤ massKv xs
  | [], _ => by
    simp only [PyData.shownKv, massKv, piled_nil]
    exact Nat.le_refl _
  | (k, v) :: xs, h => by
    simp only [PyData.showableKv, Bool.and_eq_true] at h
    have h1 := shown_le k h.1.1
    have h2 := shown_le v h.1.2
    have h3 := shown_kv_le xs h.2
    have e : (((": " : String) : Str)).length = 2 := rfl
    simp only [PyData.shownKv, massKv, piled_cons, strLen_append, e]
    omega
end

/-! ### data that stands in the heap: lists, tuples, dicts by int and text keys -/
mutual
inductive Rp (K : PySem.W.Frag) (H : Hp) : V → PyData → Prop
  | non : Rp K H .non .none
  | bl (b : Bool) : Rp K H (.bl b) (.bool b)
  | int (i : Int) : Rp K H (.int i) (.int i)
  | str (x : Str) : Rp K H (.str x) (.str x)
  | lst {a : Addr} {xs : List V} {ds : List PyData} : H a = some (.lst xs) → RpAll K H xs ds → Rp K H (.ref a) (.list ds)
  | tup {a : Addr} {xs : List V} {ds : List PyData} : H a = some (.tup xs) → RpAll K H xs ds → Rp K H (.ref a) (.tuple ds)
  | dic {a : Addr} {kvs : List (Key × V)} {ds : List (PyData × PyData)} : H a = some (.dK kvs) → RpAll K H (kvs.map fun p => kV p.1) (ds.map (·.1)) → RpAll K H (kvs.map (·.2)) (ds.map (·.2)) → Rp K H (.ref a) (.dict ds)
inductive RpAll (K : PySem.W.Frag) (H : Hp) : List V → List PyData → Prop
  | nil : RpAll K H [] []
  | cons {v : V} {vs : List V} {d : PyData} {ds : List PyData} : Rp K H v d → RpAll K H vs ds → RpAll K H (v :: vs) (d :: ds)
end

/-! ### .. and how it is read -/
mutual
/-- no list in it: each address that a reading of it counts is a dict's -/
def okS : PyData → Bool
  | .none | .bool _ | .int _ | .str _ => true
  | .list _ => false
  | .tuple xs => okSAll xs
  | .dict kvs => okSKv kvs
def okSAll : List PyData → Bool
  | [] => true
  | x :: xs => okS x && okSAll xs
def okSKv : List (PyData × PyData) → Bool
  | [] => true
  | (k, v) :: r => okS k && okS v && okSKv r
end
theorem okSKv_split : ∀ {kvs : List (PyData × PyData)}, okSKv kvs = true → okSAll (kvs.map (·.1)) = true ∧ okSAll (kvs.map (·.2)) = true
  | [], _ => ⟨rfl, rfl⟩
  | (k, v) :: r, h => by
    simp only [okSKv, Bool.and_eq_true] at h
    obtain ⟨h1, h2⟩ := okSKv_split h.2
    simp only [List.map_cons, okSAll, Bool.and_eq_true]
    exact ⟨⟨h.1.1, h1⟩, h.1.2, h2⟩
theorem pairs_vals {P : Program} {w : World} : ∀ {kvs : List (Key × V)} {vs : List (Key × Value)} {es : List DictEntry}, KV kvs vs → Pairs (mixKind P w) es vs →
    Vals (kvs.map fun p => kV p.1) (es.map (·.key)) ∧ Vals (kvs.map (·.2)) (es.map (·.val))
  | _, _, _, .nil, .nil => ⟨.nil, .nil⟩
  | _, _, _, .cons r t, .cons hk hv p => by
    obtain ⟨h1, h2⟩ := pairs_vals t p
    refine ⟨.cons ?_ h1, .cons ?_ h2⟩
    · dsimp only
      rw [r.1]
      rcases keyIs_shape hk with ⟨i, tk, e1, e2⟩ | ⟨x, tk, e1, e2⟩
      · rw [e1, e2]
        exact ⟨tk, rfl⟩
      · rw [e1, e2]
        exact ⟨tk, rfl⟩
    · dsimp only
      rw [hv]
      exact r.2
section
variable {X : Cx} {pins : List (Addr × Obj)} {σ : L2.St} {H : Hp} {s : Shared}
mutual
theorem rp_reads (I : Inv X pins σ H s) : ∀ (d : PyData) (v : V) (u : Value), Rp X.K H v d → RelV v u → ∃ as, Reads s.heap u d as ∧ (okS d = true → sysModules ∉ as)
  | .none, _, _, h, r => by
    cases h
    cases r
    exact ⟨_, Reads.none, fun _ => by simp⟩
  | .bool b, _, _, h, r => by
    cases h
    cases r
    exact ⟨_, Reads.bool b, fun _ => by simp⟩
  | .int i, _, _, h, r => by
    cases h
    obtain ⟨t, rfl⟩ := r
    exact ⟨_, Reads.int i t, fun _ => by simp⟩
  | .str x, _, _, h, r => by
    cases h
    obtain ⟨t, rfl⟩ := r
    exact ⟨_, Reads.str x t, fun _ => by simp⟩
  | .list ds, _, _, h, r => by
    cases h with
    | lst hs ha =>
      cases r
      obtain ⟨its, rv, ⟨o, n, ho, hc, _, hd⟩, _⟩ := I.list (.of hs)
      obtain ⟨as, hr, _⟩ := rp_readsAll I ds _ its ha rv
      exact ⟨_, Reads.list ho hc hd hr, fun z => by simp [okS] at z⟩
  | .tuple ds, _, _, h, r => by
    cases h with
    | tup hs ha =>
      cases r
      obtain ⟨its, rv, ⟨o, ho, hc, n, hd⟩, _⟩ := I.tuple (.of hs)
      obtain ⟨as, hr, q⟩ := rp_readsAll I ds _ its ha rv
      exact ⟨_, Reads.tuple ho hc hd hr, fun z => q (by simpa [okS] using z)⟩
  | .dict ds, _, _, h, r => by
    cases h with
    | dic hs hk hv =>
      cases r
      obtain ⟨_, hm, vs, rel, o, es, ep, e1, e2, e3, e4, e5, e6⟩ := I.hok _ _ hs
      obtain ⟨r1, r2⟩ := pairs_vals rel e5
      obtain ⟨as, q1, z1⟩ := rp_readsKeys I ds _ _ hk r1
      obtain ⟨bs, q2, z2⟩ := rp_readsVals I ds _ _ hv r2
      refine ⟨_, Reads.dict e1 e2.1 e3 q1 q2, fun z => ?_⟩
      have hz : okSKv ds = true := by simpa [okS] using z
      obtain ⟨k1, k2⟩ := okSKv_split hz
      have hm' := beq_eq_false_iff_ne.mp hm
      intro hin
      rcases List.mem_cons.mp hin with hx | hx
      · exact hm' hx.symm
      · rcases List.mem_append.mp hx with hx | hx
        · exact z1 k1 hx
        · exact z2 k2 hx
theorem rp_readsAll (I : Inv X pins σ H s) : ∀ (ds : List PyData) (vs : List V) (us : List Value), RpAll X.K H vs ds → Vals vs us → ∃ as, ReadsAll s.heap us ds as ∧ (okSAll ds = true → sysModules ∉ as)
  | [], _, _, h, r => by
    cases h
    cases r
    exact ⟨_, ReadsAll.nil, fun _ => by simp⟩
  | d :: ds, _, _, h, r => by
    cases h with
    | cons h1 h2 =>
      cases r with
      | cons r1 r2 =>
        obtain ⟨as, q1, z1⟩ := rp_reads I d _ _ h1 r1
        obtain ⟨bs, q2, z2⟩ := rp_readsAll I ds _ _ h2 r2
        refine ⟨_, ReadsAll.cons q1 q2, fun z => ?_⟩
        simp only [okSAll, Bool.and_eq_true] at z
        intro hin
        rcases List.mem_append.mp hin with hx | hx
        · exact z1 z.1 hx
        · exact z2 z.2 hx
theorem rp_readsKeys (I : Inv X pins σ H s) : ∀ (ds : List (PyData × PyData)) (vs : List V) (us : List Value), RpAll X.K H vs (ds.map (·.1)) → Vals vs us → ∃ as, ReadsAll s.heap us (ds.map (·.1)) as ∧ (okSAll (ds.map (·.1)) = true → sysModules ∉ as)
  | [], _, _, h, r => by
    cases h
    cases r
    exact ⟨_, ReadsAll.nil, fun _ => by simp⟩
  | (d, _) :: ds, _, _, h, r => by
    cases h with
    | cons h1 h2 =>
      cases r with
      | cons r1 r2 =>
        obtain ⟨as, q1, z1⟩ := rp_reads I d _ _ h1 r1
        obtain ⟨bs, q2, z2⟩ := rp_readsKeys I ds _ _ h2 r2
        refine ⟨_, ReadsAll.cons q1 q2, fun z => ?_⟩
        simp only [List.map_cons, okSAll, Bool.and_eq_true] at z
        intro hin
        rcases List.mem_append.mp hin with hx | hx
        · exact z1 z.1 hx
        · exact z2 z.2 hx
theorem rp_readsVals (I : Inv X pins σ H s) : ∀ (ds : List (PyData × PyData)) (vs : List V) (us : List Value), RpAll X.K H vs (ds.map (·.2)) → Vals vs us → ∃ as, ReadsAll s.heap us (ds.map (·.2)) as ∧ (okSAll (ds.map (·.2)) = true → sysModules ∉ as)
  | [], _, _, h, r => by
    cases h
    cases r
    exact ⟨_, ReadsAll.nil, fun _ => by simp⟩
  | (_, d) :: ds, _, _, h, r => by
    cases h with
    | cons h1 h2 =>
      cases r with
      | cons r1 r2 =>
        obtain ⟨as, q1, z1⟩ := rp_reads I d _ _ h1 r1
        obtain ⟨bs, q2, z2⟩ := rp_readsVals I ds _ _ h2 r2
        refine ⟨_, ReadsAll.cons q1 q2, fun z => ?_⟩
        simp only [List.map_cons, okSAll, Bool.and_eq_true] at z
        intro hin
        rcases List.mem_append.mp hin with hx | hx
        · exact z1 z.1 hx
        · exact z2 z.2 hx
end
end

/-! ### repr of a list of such data -/
/-- a list at the top: its own address is not counted -/
theorem repr_top {prog : Program} {w : World} {A : Around} {E : Value → Shared → Prop} {s : Shared} {Q : Value → Shared → Prop} {a : Addr} {o : Obj} {vs : Array Value} {n : Nat} {xs : List PyData} {as : List Addr}
    (h1 : s.heap.get? a = some o) (h2 : o.cls = .type "list") (h3 : o.data = .seq vs n) (h4 : ReadsAll s.heap vs.toList xs as) (hs : PyData.showableAll xs = true) (hsm : PyData.hasDictAll xs = true → sysModules ∉ as)
    (hg : A.guards = some []) (hu : A.units + ((PyData.list xs).depth + 1) < cLine) (hsz : (listText (PyData.shownAll xs)).length ≤ sizeLine)
    (hQ : ∀ h' u tk, (∀ b o, s.heap.get? b = some o → h'.get? b = some o) → Q (.str (listText (PyData.shownAll xs)) u) { s with heap := h', toks := tk }) :
    wpAny (model prog w) A (call (.builtin "repr") [.ref a]) Q E s := by
  obtain ⟨bs, hb, hk⟩ := ReprAllK.of_readsAll (prog := prog) (w := w) h4 hs hsm (fun t ht => Nat.le_trans (listText_mem_le ht) hsz)
  have hna : a ∉ bs :=
    not_mem_of_deeper (.list h1 h2 h3 h4) (by simp only [PyData.depth]; omega) hb
  simp only [PyData.depth] at hu
  refine call_repr_slot (A := A) (by omega) (idr := "list.__repr__") (T := "list") (show s.TypeIs (.ref a) "list" from ⟨o, h1, h2⟩) F.slot_list_repr.toG ?_
  have hu1 : A.in1.units = A.units + 1 := rfl
  obtain ⟨l⟩ := vs
  cases l with
  | nil =>
    have h4' : ReadsAll s.heap [] xs as := h4
    cases h4'
    have ht := hQ s.heap
    rw [show listText (PyData.shownAll []) = ("[]" : Str) by simp only [PyData.shownAll]; exact listText_nil] at ht
    exact call_list_repr_empty ⟨o, h1, h2⟩ h1 h3 ⟨_, _, rfl, ht _ _ fun _ _ e => e⟩
  | cons x l =>
    refine call_list_reprK h1 h2 h3 hna (by simpa using hk.length_eq) (fun i y e => hk.item i y (by simpa using e)) (by exact hg) (fun b _ => Clear.nil b) (by rw [hu1]; omega) (fun _ _ e => e) (fun h' u tk k => ⟨_, _, rfl, hQ h' u tk k⟩) hsz
/-- repr(xs), xs a list of data -/
def rRepr (K : PySem.W.Frag) : List V → Hp → VK → Prop := fun vs H Q => ∃ (a : Addr) (xs : List V) (ds : List PyData), vs = [.ref a] ∧ H a = some (.lst xs) ∧ RpAll K H xs ds ∧ PyData.showableAll ds = true ∧ (PyData.hasDictAll ds = true → okSAll ds = true) ∧
  (PyData.list ds).depth ≤ 20 ∧ 3 + massAll ds ≤ sizeLine ∧ Q (.str (listText (PyData.shownAll ds))) H
theorem call_repr {X : Cx} (hg : X.A.guards = some []) (hu : X.A.units + 64 < cLine) : CallR X (.builtin "repr") (rRepr X.K) := by
  intro pins s σ H xs us Q I r h
  obtain ⟨a, ys, ds, rfl, ha, hr, hs, hd, hp, hm, q⟩ := h
  obtain rfl := Vals.ref1 r
  obtain ⟨its, rv, ⟨o, n, ho, hc, _, hdt⟩, _⟩ := I.list (.of ha)
  obtain ⟨as, q1, z1⟩ := rp_readsAll I ds _ its hr rv
  have hz := Nat.le_trans (list_text_le _) (Nat.le_trans (Nat.add_le_add_left (shown_all_le ds hs) 3) hm)
  exact repr_top ho hc hdt q1 hs (fun z => z1 (hd z)) hg (by omega) hz fun h' u tk k => ⟨.str _, H, I.kept k, ⟨u, rfl⟩, q⟩
end G
set_option Elab.async false
set_option linter.all false
set_option maxRecDepth 100000
set_option maxHeartbeats 2000000
/-! G2: a def that runs where no guard is under way, and the law's own call. -/
namespace G
open PySem PySem.Spec PyProof.Rows L2
/-- as FnOk, of arounds without guards -/
structure FnG (P : Program) (w : World) (K : PySem.W.Frag) (mg : Str → Option Value) (base : Heap) (CX : CXT) (k : Nat) (f : Addr) (fd : FuncData) (ps : List Str) (sp : Sp) : Prop where
  size : ∀ vs H Q E, sp vs H Q E → vs.length = ps.length
  go : ∀ (A : Around) (outer : List Env) (s : Shared) (H : Hp) (args : Args) (us : List Value) (vs : List V) (Q : VK) (E : XK),
    A.guards = some [] → Room k A → Env0 P w K mg base A outer s H → BindsTo s fd args (ps.zip us) → Vals vs us → sp vs H Q E → codeAny (model P w) A (.call (.ref f) args) (CR CX outer P w H s Q E) s
section
variable {P : Program} {w : World} {K : PySem.W.Frag} {mg : Str → Option Value} {base : Heap} {CX : CXT}
theorem FnG.of_body {x qual : Str} {st : Stmt} {f : Addr} {fd : FuncData} {N ps : List Str} {k : Nat} {sp : Sp} (F : Fun K x qual st f fd) (S : FnScope N ps (defScope st))
    (size : ∀ vs H Q E, sp vs H Q E → vs.length = ps.length)
    (body : ∀ (cdv : Value) (A : Around) (outer : List Env) (s : Shared) (H : Hp) (vs : List V) (Q : VK) (E : XK), A.guards = some [] →
      Room k (A.deeper (envOfC qual (defScope st) s.heap.objs.size f cdv)) → sp vs H Q E →
      ∃ t, PSs (cxOf CX P w K mg base N qual (defScope st) f cdv A outer s H E).nox (defBody st) t ∧ t { nx := fun _ H' => Q .non H', rt := Q } (start N vs) H) :
    FnG P w K mg base CX (k + 1) f fd ps sp := by
  obtain ⟨_, _, _, _, _, _, cdv, _, _, rfl, lk, hcd⟩ := F.ex
  refine ⟨size, fun A outer s H args us vs Q E hg hr e0 hb r h => ?_⟩
  have inS : K.In s.heap := e0.mod.kin.keeps fun b o e => (e0.bs b o e).1
  have noL : s.heap.NoLimit := e0.mod.nolimit.keeps fun b o e => (e0.bs b o e).1
  refine codeAny_call_function hr.depth (inS _ _ lk) rfl S.co S.gen rfl
    (PySem.W.codeRec_of inS hcd) (hb _ _ _ _ ?_)
  refine wpAny_newFunctionEnv_cells S.kind
    (fun ⟨n, v⟩ hy => ?_) fun env he s1 x => ?_
  · rcases S.par n (List.of_mem_zip hy).1 with q | q
    · exact Or.inl q
    · exact Or.inr ⟨q, PySem.W.cellsFrom_some _ _ _ (Or.inl q)⟩
  · subst he
    refine ⟨noL.keeps x.toInCall.keep, codeAny_func ?_⟩
    obtain ⟨t, ht, hq⟩ := body cdv A outer s H vs Q E hg (hr.deeper _) h
    have J := inv_start (CX := CX) (P := P) (w := w) (K := K) (mg := mg) (base := base) (E := E) S hr.hd e0 (size _ _ _ _ h) r x
    refine wpAny_mono (ht.nox.run [] s1 (start N vs) H _ J hq) (fun fl s' z => ?_) fun e s' z => z
    cases fl with
    | ret u =>
      obtain ⟨v, σ', H', J', rv, q⟩ := z
      exact ⟨v, H', J'.os, J'.bare, J'.base, J'.hok, rv, q⟩
    | next =>
      obtain ⟨σ', H', J', q⟩ := z
      exact ⟨.non, H', J'.os, J'.bare, J'.base, J'.hok, rfl, q⟩
    | brk =>
      obtain ⟨_, _, _, q⟩ := z
      exact q.elim
    | cont =>
      obtain ⟨_, _, _, q⟩ := z
      exact q.elim
end
section
variable {X : Cx} {CX : CXT} {k : Nat} {f : Addr} {fd : FuncData} {ps : List Str} {sp : Sp} {dvs : List V} {ds : List Value} {E : XK} {x : Str} {p pos : Pos} {e : Expr} {es : List Expr} {t : TA}
theorem FnG.run {pins : List (Addr × Obj)} {σ : L2.St} {H : Hp} {s : Shared} {Q : VK} {us : List Value} {vs : List V} (F : FnG X.prog X.w X.K X.mg X.base CX k f fd ps sp) (hg : X.A.guards = some []) (hr : Room k X.A) (hb : Binds X.K fd ps ds) (hd : Vals dvs ds)
    (hx : Passes CX X E) (I : Inv X pins σ H s) (r : Vals vs us) (h : sp (vs ++ dvs) H Q E) : wpAny (model X.prog X.w) X.A (call (.ref f) us) (EP X pins σ Q) X.xe s := by
  have both := r.append hd
  have size : (us ++ ds).length = ps.length := both.length.symm.trans (F.size _ _ _ _ h)
  refine wpAny_call (codeAny_mono (F.go X.A X.stack s H ⟨us, []⟩ (us ++ ds) (vs ++ dvs) Q E hg hr I.env0 (hb s us I.kIn size) both h) fun q s' z => ?_)
  match q, z with
  | .error er, z => exact hx pins σ H s er s' I z
  | .ok (.ret u), z => exact I.after z
/-- f(e, ..) -/
theorem pe_callG (F : FnG X.prog X.w X.K X.mg X.base CX k f fd ps sp) (hg : X.A.guards = some []) (hr : Room k X.A) (gl : Gl X x) (hm : X.mg x = some (.ref f)) (hk : PySem.W.keepIn X.K (.ref f) = true) (hb : Binds X.K fd ps ds) (hd : Vals dvs ds)
    (hx : Passes CX X E) (ha : PA X (e :: es) t) (hdb : (x == ("__debug__" : Str)) = false := by decide)
    (he : starEach (e :: es) X.env = (false, eval e X.env) :: starEach es X.env := by rfl) (hpl : (backTo pos (starEach es X.env)).any (·.1) = false := by rfl) : PE X (.Call (.Name x p) (e :: es) [] pos) (tCall sp dvs E t) := by
  constructor
  intro pins s σ H Q I h
  refine wpAny_Call_Name_kw (ld_glob I gl hm ?_ hdb)
  exact PySem.W.callWith_K (h₀ := X.base) I.ok.mod.kin hk
    (thn (ha.run pos pins s σ H _ I h) fun us s1 ⟨vs, H1, I1, r, q⟩ => ⟨I1.kIn, F.run hg hr hb hd hx I1 r q⟩) he hpl
end
/-- True comes out, what stood stands, nothing went in or out -/
def Fine (s : Shared) (r : Result) (s' : Shared) : Prop :=
  r = .ok (.ret (.bool true)) ∧ OldK s.heap s'.heap ∧ s'.os = s.os ∧ AllBare s'.gens
/-- the law's call, from the state that the top leaves -/
theorem law_go {P : Program} {w : World} {K : PySem.W.Frag} {mg mb : Str → Option Value} {k : Nat} {fa a : Addr} {fd : FuncData} {x : Str} {sp : Sp} {s₁ : Shared} {vs : List Value} {ns : List Int}
    (inK : K.In s₁.heap) (gl : s₁.heap.Ns mainGlobals mg)
    (bl : s₁.heap.Ns builtinsNs mb) (boot : ∀ y : Str, y ≠ "__name__" → mb y = bootBuiltins y)
    (lim : s₁.heap.NoLimit) (noG : s₁.gens = #[])
    (script : s₁.heap.get? a = some { cls := .type "list", data := .seq vs.toArray })
    (allInt : IntsAre vs ns) (few : ns.length ≤ sizeLine) (hr : Room k callerA)
    (F : ∀ base : Heap, K.In base → base.Ns mainGlobals mg → FnG P w K mg base CX0 k fa fd [x] sp) (hbind : ∀ (s : Shared) (u : Value), BindsTo s fd ⟨[u], []⟩ [(x, u)])
    (hsp : ∀ H : Hp, Only H → SqL K H a (ns.map V.int) → sp [.ref a] H (fun v _ => v = .bl true) fun _ _ _ => False) :
    codeAny (model P w) callerA (.call (.ref fa) ⟨[.ref a], []⟩)
      (Fine s₁) s₁ := by
  -- nothing but the script is tracked; if the written part holds the script, nothing at all
  have main : ∀ H : Hp, Only H → SqL K H a (ns.map V.int) → HOk P w H s₁.heap → (∀ b, H b ≠ none → b = a ∧ K.lookup a = none) →
      codeAny (model P w) callerA (.call (.ref fa) ⟨[.ref a], []⟩)
      (Fine s₁) s₁ := by
    intro H hO hS hok hA
    have nsK : ∀ {b : Addr} {m : Str → Option Value}, s₁.heap.Ns b m → (hidT s₁.heap H).Ns b m := by
      rintro b m ⟨o, es, ep, e, d, r⟩
      refine ⟨o, es, ep, hidT_get e ?_, d, r⟩
      cases q : H b with
      | none => rfl
      | some u =>
        exfalso
        have eb := (hA b (by rw [q]; simp)).1
        rw [eb, script] at e
        rw [← Option.some.inj e] at d
        cases d
    have inB : K.In (hidT s₁.heap H) := fun b o e => hidT_get (inK b o e) (by
      cases q : H b with
      | none => rfl
      | some u =>
        exfalso
        obtain ⟨e1, e2⟩ := hA b (by rw [q]; simp)
        rw [e1, e2] at e
        cases e)
    obtain ⟨mc, l1, l2⟩ := lim
    have hM : Mod K mg (hidT s₁.heap H) := ⟨inB, nsK gl, ⟨mb, nsK bl, boot⟩, ⟨mc, nsK l1, l2⟩⟩
    have e0 : Env0 P w K mg (hidT s₁.heap H) callerA [] s₁ H := ⟨rfl, hM, fun b o e => of_hidT e, Nat.le_of_eq (hidT_size _ _), trivial, fun b z => absurd (show b ∈ ([] : List Addr) from z) (by simp), hok, .of_eq noG⟩
    have run := (F _ inB (nsK gl)).go callerA [] s₁ H ⟨[.ref a], []⟩ [.ref a] [.ref a] _ _ rfl hr e0 (hbind s₁ (.ref a)) (.cons rfl .nil) (hsp H hO hS)
    refine codeAny_mono run fun r s' h => ?_
    match r, h with
    | .ok (.ret u), h =>
      obtain ⟨v, H', os, bare, un, hok', r', q⟩ := h
      obtain rfl : v = .bl true := q
      obtain rfl : u = Value.bool true := r'
      refine ⟨rfl, OldK.of_keep fun b o e => ?_, os, bare⟩
      rcases hO b with z | ⟨ob, xs, z⟩
      · exact un.keep b o e z (fun z => absurd (show b ∈ ([] : List Addr) from z) (by simp)) (by simp)
      · obtain ⟨e1, _⟩ := hok b _ z
        obtain ⟨e2, _⟩ := hok' b _ (un.frzs b ob _ z)
        rw [e] at e1
        cases e1
        exact e2
  cases hk : K.lookup a with
  | some o =>
    have e := inK a o hk
    rw [script] at e
    cases e
    refine main (fun _ => none) (fun _ => .inl rfl) (.inr ⟨_, vs.toArray, _, hk, rfl, rfl, rfl, ?_, ?_⟩) (fun b u z => nomatch z) fun b z => absurd rfl z
    · rw [List.size_toArray, allInt.length]
      exact few
    · simpa using vals_ints allInt
  | none =>
    let o : Obj := { cls := .type "list", data := .seq vs.toArray }
    let T : HO := .frz o (.lst (ns.map V.int))
    have at_a : upd (fun _ => none) a T a = some T := upd_same
    refine main (upd (fun _ => none) a T) (fun b => ?_) (.inl (.inr ⟨o, at_a⟩)) (fun b u z => ?_) fun b z => ?_
    · by_cases h : b = a
      · exact .inr ⟨o, _, by rw [h]; exact at_a⟩
      · exact .inl (upd_ne h)
    · by_cases h : b = a
      · subst h
        rw [at_a] at z
        cases z
        exact ⟨script, by rw [List.length_map]; exact few, vs, _, vals_ints allInt, script⟩
      · rw [upd_ne h] at z
        cases z
    · by_cases h : b = a
      · exact ⟨h, hk⟩
      · exact absurd (upd_ne h) z
/-- what k_head leaves, by the law's promise -/
theorem walk_go {l : PySem.W.OpenLaw} {n k : Nat} {q : Program} {loose : List Str} {XP : (Str → Option Value) → Heap → Prop} {YP : World → Heap → Prop} {d : DefRec} {K : Params → PySem.W.Frag} {sp : PySem.W.Frag → Sp} {x : Str}
    (most : l.most = some n) (few : n ≤ sizeLine)
    (nodf : d.params.defaults = []) (hr : Room k callerA)
    (hY : ∀ (w : World) (h : Heap), YP w h → (K w.params).In h)
    (F : ∀ (w : World) (mg : Str → Option Value) (fa : Addr) (h : Heap),
      (K w.params).In h → h.Ns mainGlobals mg → mg d.name = some (.ref fa) →
      ∃ fd : FuncData, (∀ (s : Shared) (u : Value), BindsTo s fd ⟨[u], []⟩ [(x, u)]) ∧ ∀ base : Heap, (K w.params).In base → base.Ns mainGlobals mg → FnG l.prog w (K w.params) mg base CX0 k fa fd [x] (sp (K w.params)))
    (hsp : ∀ (K : PySem.W.Frag) (H : Hp) (a : Addr) (ns : List Int), ns.length ≤ n → Only H → SqL K H a (ns.map V.int) → sp K [.ref a] H (fun v _ => v = .bl true) fun _ _ _ => False) :
    PySem.W.WalkO q loose XP YP l.row.toRowW d []
      (fun f vs => PySem.call f vs) := by
  refine Att.attach_call most nodf
    fun w _ s₁ mg mb fa _ _ _ _ a vs ns top Y _ _ _ atF obj allInt len noG => ?_
  have inK := hY w _ Y
  obtain ⟨fd, binds, keeps⟩ := F w mg fa _ inK top.T.g atF
  exact law_go inK top.T.g top.T.b top.T.builtins top.T.nolimit noG obj allInt (Nat.le_trans len few) hr keeps binds
    fun H hO hS => hsp _ H a ns len hO hS
end G
set_option Elab.async false
set_option linter.all false
set_option maxRecDepth 100000
set_option maxHeartbeats 2000000
/-! U1: a method that says super().__init__(..): its own activation is known while it runs. -/
namespace G
open PySem PySem.Spec PyProof.Rows L2 NdefX

/-- one statement, of a body whose activation is on top -/
structure PSa (X : Cx) (body : List Stmt) (st : Stmt) (t : TS) : Prop where
  run : ∀ (pins : List (Addr × Obj)) (s : Shared) (σ : L2.St) (H : Hp) (D : Ends), Inv X pins σ H s → t D σ H → _root_.PySem.wpAt (model X.prog X.w) X.A (.func body X.env) (exec st X.env) (SP X pins D) X.xe s
/-- .. several -/
structure PSsa (X : Cx) (body : List Stmt) (st : List Stmt) (t : TS) : Prop where
  run : ∀ (pins : List (Addr × Obj)) (s : Shared) (σ : L2.St) (H : Hp) (D : Ends), Inv X pins σ H s → t D σ H → _root_.PySem.wpAt (model X.prog X.w) X.A (.func body X.env) (execs st X.env) (SP X pins D) X.xe s
section
variable {X : Cx} {body rest : List Stmt} {st : Stmt} {t u : TS}
theorem psa (h : PS X st t) : PSa X body st t := ⟨fun pins s σ H D I q => wpAt_of_wpAny (h.run pins s σ H D I q)⟩
theorem pssa {sts : List Stmt} (h : PSs X sts t) : PSsa X body sts t := ⟨fun pins s σ H D I q => wpAt_of_wpAny (h.run pins s σ H D I q)⟩
theorem pssa_cons (h1 : PSa X body st t) (h2 : PSsa X body rest u) : PSsa X body (st :: rest) (tSeq t u) := by
  refine ⟨fun pins s σ H D I h => ks_wpAt_execs_cons (ks_wpAt_mono (h1.run pins s σ H { D with nx := u D } I h) (fun f s1 q => ?_) fun _ _ z => z)⟩
  cases f with
  | next =>
    obtain ⟨σ', H', I', q⟩ := q
    exact h2.run pins s1 σ' H' D I' q
  | ret v => exact q
  | brk => exact q
  | cont => exact q
end

/-- what of the text the words super().__init__ rest on, said in the def at f, of the class at D, to an instance of the class at C; f2: the __init__ found -/
structure SupOf (P : Program) (K : PySem.W.Frag) (f cda cc D C f2 : Addr) (x : Str) : Prop where
  fn : ∃ oc od fd sl ar, K.lookup f = some ⟨oc, od, .func fd, sl⟩ ∧ (fd.params.posonlyargs ++ fd.params.args).head? = some ar ∧ ar.arg = x
  code : ∃ oc od vs sl file tf, K.lookup cda = some ⟨oc, od, .fields vs, sl⟩ ∧ vs[2]? = some (.str file tf) ∧ ((P.main.file : Str) == file) = true
  cell : ∃ oc od sl, K.lookup cc = some ⟨oc, od, .cell (some (.ref D)), sl⟩
  isc : ∃ cd, PySem.W.clsIn K D = some cd
  isC : ∃ cd, PySem.W.clsIn K C = some cd
  sub : PySem.W.mroIn K C (.ref D) = some true
  thd : PySem.W.nsIn K cStatics "thirdparty.any" = some none
  sup : PySem.W.ks_superIn K C D "__init__" = some (some (.ref f2))
  ty : PySem.W.typeIn K (.ref f2) = some (.type "function")
  fi : PySem.W.fnIn K f2 = true
  top : (P.main.scope.names.lookup ("super" : Str)).isSome = false

/-- super().__init__(..), the instance in the slot i -/
def tSup (i : Nat) (C : Addr) (sp : Sp) (E : XK) (t : TA) : TS := fun D σ H => ∃ a dx fs, σ[i]? = some (some (.ref a)) ∧ H a = some (.ins C dx fs) ∧
  t σ H fun vs H1 => sp (.ref a :: vs) H1 (fun _ H2 => D.nx σ H2) E

section
variable {X : Cx} {CX : CXT} {k i : Nat} {f cda cc D C f2 : Addr} {x : Str} {sp : Sp} {E : XK} {body : List Stmt} {e : Expr} {es : List Expr} {t : TA} {p0 p1 apos pos spos : Pos} {pl : Sem Bool}
theorem cls_at {h : Heap} {K : PySem.W.Frag} {D : Addr} {cd : ClassData} (I : K.In h) (hD : PySem.W.clsIn K D = some cd) : ∃ o, h.get? D = some o ∧ o.data = .cls cd := by
  unfold PySem.W.clsIn at hD
  split at hD
  · rename_i c d cd' sl ho
    cases hD
    exact ⟨_, I _ _ ho, rfl⟩
  · cases hD
/-- the object super() -/
theorem super_base {pins : List (Addr × Obj)} {s : Shared} {σ : L2.St} {H : Hp} {whole : Sem Value} {a dx : Addr} {fs : List (Str × V)} {Q : Value → Shared → Prop}
    (I : Inv X pins σ H s) (S : SupOf X.prog X.K f cda cc D C f2 x) (hfu : X.env.func = some f) (hco : X.env.code = .ref cda) (hcl : X.env.cells.lookup ("__class__" : Str) = some cc)
    (hks : X.env.kindOf "super" = some .globalImplicit) (hkc : X.env.kindOf "__class__" = some .free) (hkx : X.env.kindOf x = some .local) (hm : X.mg "super" = none) (hN : X.N[i]? = some x)
    (hs : σ[i]? = some (some (.ref a))) (ha : H a = some (.ins C dx fs))
    (h : ∀ s', Inv X pins σ H s' → s'.heap.get? s.heap.objs.size = some { cls := .type "super", dict := none, data := .fields #[.ref D, .ref a, .ref C], slots := #[] } → Q (.ref s.heap.objs.size) s') :
    _root_.PySem.wpAt (model X.prog X.w) X.A (.func body X.env) (attributeBase (.Call (.Name "super" p0) [] [] p1) "__init__" X.env whole) Q X.xe s := by
  obtain ⟨oc, od, fd, sl, ar, lk, hp, hx⟩ := S.fn
  obtain ⟨oc2, od2, vs, sl2, file, tf, lk2, hv, hfile⟩ := S.code
  obtain ⟨oc3, od3, sl3, lk3⟩ := S.cell
  obtain ⟨cdD, hD⟩ := S.isc
  have inK := I.kIn
  obtain ⟨oD, hD1, hD2⟩ := cls_at inK hD
  obtain ⟨mb, b1, b2⟩ := I.mod.blt
  obtain ⟨m, hn, hl⟩ := I.loc
  obtain ⟨u, ru, hlook⟩ := hl i x _ hN hs (.inl hkx)
  obtain rfl : u = Value.ref a := ru
  have hmx : m x = some (.ref a) := by
    rcases hlook with ⟨_, z⟩ | ⟨z, _⟩
    · exact z
    · rw [hkx] at z
      rcases z with z | z <;> cases z
  have hob : s.heap.get? a = some (PySem.W.instObj C dx) := (show ObjOk X.prog X.w H s.heap a (.ins C dx fs) from I.hok a _ ha).2.2.2.1
  refine ks_wpAt_super_base hks hkc (by decide) hfu (inK _ _ lk) rfl hp hco (inK _ _ lk2) rfl hv hfile S.top ?_
  refine PySem.W.ks_loadName_global I.ok.kind hks (Calls.loadGlobal_builtin (by rw [I.ok.glob]; exact I.mod.glob.keeps I.bk) hm (by rw [I.ok.blt]; exact b1.keeps I.bk) ((b2 "super" (by decide)).trans (by first | rfl | decide +kernel)) ⟨rfl, ?_⟩)
  refine wpAny_loadName_free I.ok.kind hkc hcl ⟨_, inK _ _ lk3, rfl⟩ ?_
  rw [hx]
  refine wpAny_loadName_local I.ok.kind hkx hn hmx ?_
  obtain ⟨hh, g, d, tk, os⟩ := s
  refine ks_wpAny_isType_cls hD1 hD2 ⟨rfl, ?_⟩
  refine ks_wpAny_call_super hD1 hD2 hob rfl (fun c z => nomatch z) (PySem.W.looks_mroIn inK S.sub) fun h' e1 kp => ?_
  exact h _ (I.kept (t' := tk) kp) e1
/-- super().__init__(e, ..) -/
theorem psa_super (S : SupOf X.prog X.K f cda cc D C f2 x) (F : FnR X.prog X.w X.K X.mg X.base CX k f2 sp) (hr : Room k X.A) (hx : Passes CX X E) (hfu : X.env.func = some f) (hco : X.env.code = .ref cda) (hcl : X.env.cells.lookup ("__class__" : Str) = some cc)
    (hks : X.env.kindOf "super" = some .globalImplicit) (hkc : X.env.kindOf "__class__" = some .free) (hkx : X.env.kindOf x = some .local) (hm : X.mg "super" = none) (hN : X.N[i]? = some x) (ha : PA X (e :: es) t)
    (hst : starEach (e :: es) X.env = (false, eval e X.env) :: starEach es X.env := by rfl) (hpl : (backTo pos (starEach es X.env)).any (·.1) = false := by rfl)
    (ht : eval (.Call (.Attribute (.Call (.Name "super" p0) [] [] p1) "__init__" apos) (e :: es) [] pos) X.env = (do
      let ov ← attributeBase (.Call (.Name "super" p0) [] [] p1) "__init__" X.env (eval (.Call (.Name "super" p0) [] [] p1) X.env)
      standAt apos.atName
      let (f, first) ← holding [ov] (getMethod ov "__init__" pl)
      callWith pos f first (backTo pos (starEach (e :: es) X.env)) []) := by rfl)
    (hw : swapsWith (.Call (.Attribute (.Call (.Name "super" p0) [] [] p1) "__init__" apos) (e :: es) [] pos) none spos.line X.env = pure false := by rfl) :
    PSa X body (.Expr (.Call (.Attribute (.Call (.Name "super" p0) [] [] p1) "__init__" apos) (e :: es) [] pos) spos) (tSup i C sp E t) := by
  refine ⟨fun pins s σ H Dn I h => ?_⟩
  obtain ⟨a, dx, fs, h1, h2, q⟩ := h
  refine ks_wpAt_Expr_any (ks_wpAt_MethodCall (pl := pl) (super_base I S hfu hco hcl hks hkc hkx hm hN h1 h2 fun s1 I1 hso => ?_) ht) I.quiet hw
  obtain ⟨cdC, hC⟩ := S.isC
  have inK := I1.kIn
  have hob : s1.heap.get? a = some (PySem.W.instObj C dx) := (show ObjOk X.prog X.w H s1.heap a (.ins C dx fs) from I1.hok a _ h2).2.2.2.1
  obtain ⟨oC, hC1, hC2⟩ := cls_at inK hC
  have hne : a ≠ C := fun z => by
    rw [z, hC1] at hob
    rw [Option.some.inj hob] at hC2
    cases hC2
  obtain ⟨of, hof, hofc⟩ : ∃ of, s1.heap.get? f2 = some of ∧ of.cls = .type "function" := by
    have ht' : (X.K.lookup f2).map (·.cls) = some (.type "function") := S.ty
    cases z : X.K.lookup f2 with
    | none =>
      rw [z] at ht'
      cases ht'
    | some of =>
      rw [z] at ht'
      exact ⟨of, inK _ _ z, Option.some.inj ht'⟩
  have hsup := S.sup
  unfold PySem.W.ks_superIn at hsup
  rw [hC] at hsup
  obtain ⟨hh, g, d, tk, os⟩ := s1
  refine ks_wpAny_getMethod_super hso (PySem.W.looks_opaque inK S.thd) (l₀ := cdC.mro) ((PySem.W.looks_clsIn inK hC).andThen .now) rfl inK hsup hof hofc hne (by decide) ?_
  have I2 := ClX.met_new (g := f2) (C := a) I1
  refine ClX.callwith_cm I2 (ClX.base_none I1 (Nat.le_refl _)) S.fi (thn (ha.run pos _ _ σ H _ I2 q) fun us s3 ⟨vs, H3, I3, r3, q3⟩ => ⟨⟨ClX.pin_at I3, I3.kIn⟩, ?_⟩) hst hpl
  refine thn (ClX.run_cm F hr hx I3 r3 q3) fun _ _ y => ?_
  obtain ⟨v, H4, I4, _, q4⟩ := y
  exact ⟨σ, H4, I4, q4⟩
end

/-! ### the method -/
/-- THE RULE: a method that captures __class__ (it says super()), by its body -/
theorem fnx_of {CX : CXT} {P : Program} {w : World} {K : PySem.W.Frag} {mg : Str → Option Value} {base : Heap} {k : Nat} {f cda cc : Addr} {name qual : Str} {params : Arguments} {body : List Stmt} {scope : Scope} {dV kV doc pm ct oc : Value} {an od : Option Addr}
    {osl : Array (Option Value)} {N ps : List Str} {sp : Sp} (lk : K.lookup f = some ⟨oc, od, .func (PySem.W.ksFn name qual params body scope dV kV doc pm an (.ref cda) ct cc), osl⟩) (hcd : PySem.W.codeIn K (.ref cda) qual = true)
    (hcell : ∃ oc od sl v, K.lookup cc = some ⟨oc, od, .cell v, sl⟩) (S : NScope N ps ["__class__"] scope) (len : ∀ vs H Q E, sp vs H Q E → vs.length = ps.length)
    (hbody : ∀ (A : Around) (outer : List Env) (s : Shared) (H : Hp) (vs : List V) (Q : VK) (E : XK), Room k (A.deeper (envF ⟨name, qual, params, body, scope, [("__class__", cc)], cda⟩ f s.heap.objs.size)) → sp vs H Q E →
      ∃ t, PSsa (ncx CX P w K mg base N ⟨name, qual, params, body, scope, [("__class__", cc)], cda⟩ f A outer s H E) body body t ∧ t { nx := fun _ H' => Q .non H', rt := Q } (startF N vs [none]) H) :
    FnOk P w K mg base CX (k + 1) f (PySem.W.ksFn name qual params body scope dV kV doc pm an (.ref cda) ct cc) ps sp := by
  refine ⟨len, fun A outer s H args us vs Q E hr e0 hb r hsp => ?_⟩
  have hl := len _ _ _ _ hsp
  have inK : K.In s.heap := e0.mod.kin.keeps fun b o e => (e0.bs b o e).1
  have lim : s.heap.NoLimit := e0.mod.nolimit.keeps fun b o e => (e0.bs b o e).1
  obtain ⟨oc3, od3, sl3, v3, lk3⟩ := hcell
  have C : CellsAt [(("__class__" : Str), cc)] ["__class__"] [none] s.heap H := by
    have one : ∀ {y : Str} {c : Addr}, List.lookup y [(("__class__" : Str), cc)] = some c → y = "__class__" ∧ c = cc := fun {y c} z => by
      have z2 := PySem.mem_of_lookup z
      rw [List.mem_singleton] at z2
      exact ⟨congrArg Prod.fst z2, congrArg Prod.snd z2⟩
    refine ⟨rfl, fun y c z => ?_, fun y y' c z z' => (one z).1.trans (one z').1.symm, fun i y z => ?_⟩
    · obtain ⟨_, rfl⟩ := one z
      exact ⟨(e0.bs _ _ (e0.mod.kin _ _ lk3)).2, v3, _, inK _ _ lk3, rfl⟩
    · have hy : y = "__class__" := by
        have z2 := List.mem_of_getElem? z
        rw [List.mem_singleton] at z2
        exact z2
      subst hy
      refine ⟨cc, by simp [List.lookup], fun v z => ?_⟩
      cases i with
      | zero => cases z
      | succ j => cases z
  refine codeAny_call_function hr.depth (inK _ _ lk) rfl S.co S.gen rfl (PySem.W.codeRec_of inK hcd) (hb _ _ _ _ ?_)
  refine wpAny_newFunctionEnv S.nocell (fun ⟨n, _⟩ hy => S.par n (List.of_mem_zip hy).1) (fun h₁ hns hsb => ⟨lim.fresh _ hsb, ?_⟩) S.kind
  show codeAny _ _ (.func body (envF ⟨name, qual, params, body, scope, [("__class__", cc)], cda⟩ f s.heap.objs.size)) _ _
  refine ks_codeAny_funcAt ?_
  have kp : ∀ b o, s.heap.get? b = some o → h₁.get? b = some o := fun b o e => hsb.extBut b o (Nat.ne_of_lt (Heap.lt_size e)) (Heap.get?_push_of_some _ e)
  obtain ⟨t, ht, hq⟩ := hbody A outer s H vs Q E (hr.deeper _) hsp
  have I : Inv (ncx CX P w K mg base N ⟨name, qual, params, body, scope, [("__class__", cc)], cda⟩ f A outer s H E) [] (startF N vs [none]) H { s with heap := h₁, toks := s.toks + (ps.zip us).length } := inv_startN S hr.hd e0 hl r C hns kp
  refine ks_wpAt_mono (ht.run [] _ (startF N vs [none]) H _ I hq) (fun fl s' hs => ?_) fun e s' hs => hs
  have fin : ∀ {σ' : L2.St} {H' : Hp} {v : V} {u : Value}, Inv (ncx CX P w K mg base N ⟨name, qual, params, body, scope, [("__class__", cc)], cda⟩ f A outer s H E) [] σ' H' s' → L2.RelV v u → Q v H' → CE outer P w H s Q u s' :=
    fun {σ' H' v u} J rv q => ⟨v, H', J.os, J.bare, J.base, J.hok, rv, q⟩
  cases fl with
  | ret u =>
    obtain ⟨v, σ', H', J, rv, q⟩ := hs
    exact fin J rv q
  | next =>
    obtain ⟨σ', H', J, q⟩ := hs
    exact fin (v := V.non) (u := Value.none) J rfl q
  | brk =>
    obtain ⟨_, _, _, q⟩ := hs
    exact False.elim q
  | cont =>
    obtain ⟨_, _, _, q⟩ := hs
    exact False.elim q
end G
set_option Elab.async false
set_option linter.all false
set_option maxRecDepth 100000
set_option maxHeartbeats 2000000
/-! R1: methods, calls and operators of an instance whose class is not known ahead; super().__init__(*xs). -/
namespace G
open PySem PySem.Spec PyProof.Rows L2 NdefX StX

/-- the class at C keeps the promise sp for its method m -/
structure PolyM (P : Program) (w : World) (K : PySem.W.Frag) (mg : Str → Option Value) (base : Heap) (k : Nat) (C : Addr) (m : Str) (sp : Sp) : Prop where
  cl : Cls K C
  ex : ∃ (f : Addr) (fd : FuncData) (ps : List Str), Meth K C m f ∧ Binds K fd ps [] ∧ FnOk P w K mg base CX0 k f fd ps sp
/-- .. for the calls of its instances -/
structure PolyC (P : Program) (w : World) (K : PySem.W.Frag) (mg : Str → Option Value) (base : Heap) (k : Nat) (C : Addr) (sp : Sp) : Prop where
  ex : ∃ (f : Addr) (fd : FuncData) (ps : List Str), CallO K C f ∧ Binds K fd ps [] ∧ FnOk P w K mg base CX0 k f fd ps sp

/-- o.m(e, ..), o an instance of some class that keeps sp -/
def tMethV (X : Cx) (k : Nat) (m : Str) (E : XK) (ta : TE) (t : TA) : TE := fun σ H Q => ta σ H fun x H1 => ∃ (a C dx : Addr) (fs : List (Str × V)) (sp : Sp), x = .ref a ∧ H1 a = some (.ins C dx fs) ∧ PolyM X.prog X.w X.K X.mg X.base k C m sp ∧ fs.lookup m = none ∧ t σ H1 fun vs H2 => sp (.ref a :: vs) H2 Q E
/-- o(e, ..) -/
def tCallV (X : Cx) (k : Nat) (E : XK) (ta : TE) (t : TA) : TE := fun σ H Q => ta σ H fun x H1 => ∃ (a C : Addr) (sp : Sp), x = .ref a ∧ PolyC X.prog X.w X.K X.mg X.base k C sp ∧ t σ H1 fun vs H2 => InsC X H2 a C ∧ sp (.ref a :: vs) H2 Q E
section
variable {X : Cx} {k : Nat} {E : XK} {m : Str} {pos apos : Pos} {e o fe : Expr} {es : List Expr} {ta : TE} {t : TA}
theorem pe_methV {pl : Sem Bool} (he : PE X o ta) (hr : Room k X.A) (hx : Passes CX0 X E) (ha : PA X (e :: es) t)
    (hst : starEach (e :: es) X.env = (false, eval e X.env) :: starEach es X.env := by rfl) (hpl : (backTo pos (starEach es X.env)).any (·.1) = false := by rfl)
    (ht : eval (.Call (.Attribute o m apos) (e :: es) [] pos) X.env = (eval o X.env >>= fun ov => standAt apos.atName >>= fun _ => holding [ov] (getMethod ov m pl) >>= fun q => callWith pos q.1 q.2 (backTo pos (starEach (e :: es) X.env)) (backToKw pos (keywordEach [] X.env))) := by rfl) :
    PE X (.Call (.Attribute o m apos) (e :: es) [] pos) (tMethV X k m E ta t) := by
  refine ⟨fun pins s σ H Q I h => ?_⟩
  refine PySem.W.methodCall_KW (pl := pl) (thn (he.run pins s σ H _ I h) fun u s1 ⟨x, H1, I1, rx, a, C, dx, fs, sp, ex, ea, pm, l, q⟩ => ?_) ht
  subst ex
  obtain rfl : u = Value.ref a := rx
  obtain ⟨f, fd, ps, hm, hb, F⟩ := pm.ex
  refine getmeth_ok I1 ea pm.cl hm l ?_
  refine PySem.W.callWith_K (h₀ := X.base) (first := [.ref a]) I.ok.mod.kin hm.kp (thn (ha.run pos pins s1 σ H1 _ I1 q) fun us s2 ⟨vs, H2, I2, r, q2⟩ => ⟨I2.kIn, ?_⟩) hst hpl
  exact run_fn (us := .ref a :: us) (vs := .ref a :: vs) F hr hb .nil hx I2 (.cons rfl r) (by rw [List.append_nil]; exact q2)
theorem pe_methV0 {pl : Sem Bool} (he : PE X o ta) (hr : Room k X.A) (hx : Passes CX0 X E)
    (ht : eval (.Call (.Attribute o m apos) [] [] pos) X.env = (eval o X.env >>= fun ov => standAt apos.atName >>= fun _ => holding [ov] (getMethod ov m pl) >>= fun q => callWith pos q.1 q.2 (backTo pos (starEach [] X.env)) (backToKw pos (keywordEach [] X.env))) := by rfl) :
    PE X (.Call (.Attribute o m apos) [] [] pos) (tMethV X k m E ta tNil) := by
  refine ⟨fun pins s σ H Q I h => ?_⟩
  refine PySem.W.methodCall_KW (pl := pl) (thn (he.run pins s σ H _ I h) fun u s1 ⟨x, H1, I1, rx, a, C, dx, fs, sp, ex, ea, pm, l, q⟩ => ?_) ht
  subst ex
  obtain rfl : u = Value.ref a := rx
  obtain ⟨f, fd, ps, hm, hb, F⟩ := pm.ex
  refine getmeth_ok I1 ea pm.cl hm l ?_
  exact PySem.W.callWith_K0 (first := [.ref a]) I1.kIn hm.kp (run_fn (us := [.ref a]) (vs := [.ref a]) F hr hb .nil hx I1 (.cons rfl .nil) q)
theorem pe_callV (hf : PE X fe ta) (hr : Room k X.A) (hx : Passes CX0 X E) (ha : PA X (e :: es) t)
    (ht : eval (.Call fe (e :: es) [] pos) X.env = (eval fe X.env >>= fun g => callWith pos g [] (backTo pos (starEach (e :: es) X.env)) (backToKw pos (keywordEach [] X.env))) := by rfl)
    (he : starEach (e :: es) X.env = (false, eval e X.env) :: starEach es X.env := by rfl) (hpl : (backTo pos (starEach es X.env)).any (·.1) = false := by rfl) : PE X (.Call fe (e :: es) [] pos) (tCallV X k E ta t) := by
  refine ⟨fun pins s σ H Q I h => ?_⟩
  refine Call_ (thn (hf.run pins s σ H _ I h) fun u s1 ⟨y, H1, I1, ry, a, C, sp, ey, pc, q⟩ => ?_) ht
  subst ey
  obtain rfl : u = Value.ref a := ry
  obtain ⟨f, fd, ps, c, hb, F⟩ := pc.ex
  refine callO_with (thn (ha.run pos pins s1 σ H1 _ I1 q) fun us s2 ⟨vs, H2, I2, r, hi, q2⟩ => ?_) he hpl
  obtain ⟨ox, od, J, hd⟩ := insC_at I2 hi
  exact ⟨⟨C, ox, od, J, hd⟩, run_callO c (F.raw hb .nil) hr hx I2 hi r (by simpa using q2)⟩
end

/-! ### a sign between two instances of own classes -/
/-- the class at C has the sign's method (and no reflected one) -/
structure OpO (K : PySem.W.Frag) (C : Addr) (op : Operator) (f : Addr) : Prop where
  first : PySem.W.selfFirst K C = true
  at_ : PySem.W.findIn K (.ref C) (PySem.dunder op.info.2) = some (some (.ref f))
  fn : PySem.W.isFn K (.ref f) = true
  ref_ : PySem.W.findIn K (.ref C) (dunderR op.info.2) = some none
theorem bin_own {prog : Program} {w : World} {A : Around} {E : Value → Shared → Prop} {s : Shared} {K : PySem.W.Frag} {x y C C2 f g : Addr} {ox oy : Obj} {od od2 : Option Obj} {op : Operator} {Q : Value → Shared → Prop} (X : K.In s.heap)
    (I : PySem.W.InstAt s.heap x ox C od) (J : PySem.W.InstAt s.heap y oy C2 od2) (o1 : OpO K C op f) (o2 : OpO K C2 op g) (hs : C = C2 ∨ PySem.W.subIn K (.ref C2) (.ref C) = some false)
    (h : wpAny (model prog w) A (call (.ref f) [.ref x, .ref y]) (PySem.W.CmpBack Q) E s) : wpAny (model prog w) A (binaryOp op (.ref x) (.ref y)) Q E s := by
  obtain ⟨cd1, rest1, hc1, hm1⟩ := PySem.W.ksp_first o1.first
  obtain ⟨cd2, rest2, hc2, hm2⟩ := PySem.W.ksp_first o2.first
  have a1 := o1.at_
  have a2 := o2.at_
  have r1 := o1.ref_
  have r2 := o2.ref_
  rcases hi : op.info with ⟨sym, nm⟩
  rw [hi] at a1 a2 r1 r2
  dsimp only at a1 a2 r1 r2
  have one := PySem.W.ksp_try X I a1 o1.fn h
  obtain ⟨hh, gs, d, tt, os⟩ := s
  have L1 : PySem.W.Looks (model prog w) hh (typeOf (.ref x)) (.ref C) := I.type
  have L2 : PySem.W.Looks (model prog w) hh (typeOf (.ref y)) (.ref C2) := J.type
  have L3 : PySem.W.Looks (model prog w) hh (fillsNumberSlot (.ref C) nm) true := PySem.W.fills_K X hc1 hm1 a1
  have L4 : PySem.W.Looks (model prog w) hh (fillsNumberSlot (.ref C2) nm) true := PySem.W.fills_K X hc2 hm2 a2
  have L6 : PySem.W.Looks (model prog w) hh (numberSlotInPython (.ref C) nm) true := PySem.W.ksp_inPy X a1 r1 (.inl rfl)
  have L7 : PySem.W.Looks (model prog w) hh (numberSlotInPython (.ref C2) nm) true := PySem.W.ksp_inPy X a2 r2 (.inl rfl)
  simp only [binaryOp, hi]
  refine wpAny_holding (wpAny_bind ?_)
  unfold binaryOp1
  refine wpAny_bind (L1.at (wpAny_bind (L2.at (wpAny_bind (L3.at ?_)))))
  by_cases e : C = C2
  · have hne : (Value.ref C == Value.ref C2) = true := by
      rw [e]
      exact beq_self_eq_true _
    simp only [hne, if_true]
    ksp_lk
    refine wpAny_mono one (fun r s' hr' => ?_) fun _ _ z => z
    obtain ⟨v, rfl, hq⟩ := hr'
    ksp_lk
    exact hq
  · have hne : (Value.ref C == Value.ref C2) = false := Bool.eq_false_iff.mpr fun q => e (by
      have := beq_iff_eq.mp q
      injection this)
    have hs2 : PySem.W.subIn K (.ref C2) (.ref C) = some false := hs.resolve_left e
    have L5 : PySem.W.Looks (model prog w) hh (isSubtype (.ref C2) (.ref C)) false := PySem.W.looks_subIn X hs2
    simp only [hne, Bool.false_eq_true, if_false]
    ksp_lk
    refine wpAny_mono one (fun r s' hr' => ?_) fun _ _ z => z
    obtain ⟨v, rfl, hq⟩ := hr'
    ksp_lk
    exact hq
theorem insO_at {X : Cx} {pins : List (Addr × Obj)} {σ : L2.St} {H : Hp} {s : Shared} {a C dx : Addr} {fs : List (Str × V)} (I : Inv X pins σ H s) (h : H a = some (.ins C dx fs)) : ∃ ox od, PySem.W.InstAt s.heap a ox C od ∧ ox.data = .plain :=
  insC_at I (.inr ⟨dx, fs, h⟩)
/-- two classes under one sign: what the class at C does with one of the class at C2 -/
structure PolyO (P : Program) (w : World) (K : PySem.W.Frag) (mg : Str → Option Value) (base : Heap) (k : Nat) (C C2 : Addr) (op : Operator) (sp : Sp) : Prop where
  ex : ∃ (f g : Addr) (fd : FuncData) (ps : List Str), OpO K C op f ∧ OpO K C2 op g ∧ (C = C2 ∨ PySem.W.subIn K (.ref C2) (.ref C) = some false) ∧ Binds K fd ps [] ∧ FnOk P w K mg base CX0 k f fd ps sp
def rOwn (X : Cx) (k : Nat) (op : Operator) (sp : Sp) (E : XK) : R2 := fun x y H Q => ∃ a b C C2 dx dy fs gs, x = .ref a ∧ y = .ref b ∧ H a = some (.ins C dx fs) ∧ H b = some (.ins C2 dy gs) ∧ PolyO X.prog X.w X.K X.mg X.base k C C2 op sp ∧
  sp [.ref a, .ref b] H (fun v H' => (∃ r, v = .ref r) ∧ Q v H') E
theorem op_own {X : Cx} {k : Nat} {sp : Sp} {E : XK} (op : Operator) (hr : Room k X.A) (hx : Passes CX0 X E) : OpR X (binaryOp op) (rOwn X k op sp E) := by
  intro pins s σ H x y v u Q I rx ry h
  obtain ⟨a, b, C, C2, dx, dy, fs, gs, rfl, rfl, ha, hb, po, q⟩ := h
  obtain rfl : v = Value.ref a := rx
  obtain rfl : u = Value.ref b := ry
  obtain ⟨f, g, fd, ps, o1, o2, hs, hbd, F⟩ := po.ex
  obtain ⟨ox, od, J1, _⟩ := insO_at I ha
  obtain ⟨oy, od2, J2, _⟩ := insO_at I hb
  refine bin_own I.kIn J1 J2 o1 o2 hs (thn (run_fn (us := [.ref a, .ref b]) (vs := [.ref a, .ref b]) F hr hbd .nil hx I (.cons rfl (.cons rfl .nil)) q) fun r s' z => ?_)
  obtain ⟨v, H', I', rv, ⟨p, rfl⟩, q'⟩ := z
  obtain rfl : r = Value.ref p := rv
  exact ⟨V.ref p, H', I', rfl, q'⟩
/-! ### ~x -/
structure PolyU (P : Program) (w : World) (K : PySem.W.Frag) (mg : Str → Option Value) (base : Heap) (k : Nat) (C : Addr) (sp : Sp) : Prop where
  ex : ∃ (f : Addr) (fd : FuncData) (ps : List Str), PySem.W.findIn K (.ref C) "__invert__" = some (some (.ref f)) ∧ PySem.W.isFn K (.ref f) = true ∧ Binds K fd ps [] ∧ FnOk P w K mg base CX0 k f fd ps sp
def rInv (X : Cx) (k : Nat) (sp : Sp) (E : XK) : V → Hp → VK → Prop := fun x H Q => ∃ a C dx fs, x = .ref a ∧ H a = some (.ins C dx fs) ∧ PolyU X.prog X.w X.K X.mg X.base k C sp ∧ sp [.ref a] H Q E
theorem inv_own {M : Model} {A : Around} {E : Value → Shared → Prop} {s : Shared} {K : PySem.W.Frag} {x C f : Addr} {ox : Obj} {od : Option Obj} {Q : Value → Shared → Prop} (X : K.In s.heap) (I : PySem.W.InstAt s.heap x ox C od)
    (hs : PySem.W.findIn K (.ref C) "__invert__" = some (some (.ref f))) (hf : PySem.W.isFn K (.ref f) = true) (h : wpAny M A (call (.ref f) [.ref x]) Q E s) : wpAny M A (unaryOp .Invert (.ref x)) Q E s := by
  unfold unaryOp
  refine wpAny_holding (wpAny_bind (PySem.W.special_fn X I hs (beq_iff_eq.mp hf) (thn h fun _ _ z => ?_)))
  exact wpAny_pure z
theorem un_own {X : Cx} {k : Nat} {sp : Sp} {E : XK} (hr : Room k X.A) (hx : Passes CX0 X E) : UnR X (unaryOp .Invert) (rInv X k sp E) := by
  intro pins s σ H x v Q I rx h
  obtain ⟨a, C, dx, fs, rfl, ha, pu, q⟩ := h
  obtain rfl : v = Value.ref a := rx
  obtain ⟨f, fd, ps, h1, h2, hb, F⟩ := pu.ex
  obtain ⟨ox, od, J, _⟩ := insO_at I ha
  exact inv_own I.kIn J h1 h2 (run_fn (us := [.ref a]) (vs := [.ref a]) F hr hb .nil hx I (.cons rfl .nil) q)
end G
set_option Elab.async false
set_option linter.all false
set_option maxRecDepth 100000
set_option maxHeartbeats 2000000
/-! R2: super().__init__(*xs). -/
namespace G
open PySem PySem.Spec PyProof.Rows L2 NdefX StX
/-- super().name as a value: a bound method, new -/
theorem super_attr {prog : Program} {w : World} {A : Around} {E : Value → Shared → Prop} {h : Heap} {g : Array GenState} {d : Drawn} {t : Nat} {os : OsState} {so D x C f : Addr} {of : Obj} {l₀ l : List Value} {K : PySem.W.Frag} {name : Str} {b : Bool} {Q : Value → Shared → Prop}
    (a1 : h.get? so = some { cls := .type "super", dict := none, data := .fields #[.ref D, .ref x, .ref C], slots := #[] }) (a2 : PySem.W.Looks (model prog w) h (opaqueClassAbove (.ref C)) none) (a3 : PySem.W.Looks (model prog w) h (mroOf (.ref C)) l₀)
    (a4 : (l₀.dropWhile (· != .ref D)).drop 1 = l) (X : K.In h) (a5 : PySem.W.alongIn K name l = some (some (.ref f))) (a6 : h.get? f = some of) (a7 : of.cls = .type "function") (a8 : x ≠ C) (a9 : (name == ("__class__" : Str)) = false)
    (q : Q (.ref h.objs.size) ⟨h.push { cls := .type "method", data := .fields #[.ref f, .ref x] }, g, d, t + 1, os⟩) : wpAny (model prog w) A (getAttr (.ref so) name b) Q E ⟨h, g, d, t, os⟩ := by
  have lk := PySem.F.ks_slot_super_ga.lookup
  have ty : ∀ k, (⟨h, g, d, k, os⟩ : Shared).TypeIs (.ref so) "super" := fun _ => ⟨_, a1, rfl⟩
  unfold getAttr getAttrBy
  refine wpAny_bind (wpAny_mkText (wpAny_holding (wpAny_bind (wpAny_typeOf (ty _) (wpAny_bind (wpAny_of_eq lk ?_))))))
  unfold getAttrByItsOwn hookBefore callGetattribute boundAndCalled
  refine wpAny_bind (wpAny_of_eq (show (if onTheHeap (.type "super") then typeLookup (.type "super") "__getattr__" else pure none) = pure none by rfl) ?_)
  refine wpAny_bind (wpAny_attempt (wpAny_holding ?_))
  have off : (b && onTheHeap (Value.builtin "super.__getattribute__")) = false := by
    rw [show onTheHeap (Value.builtin "super.__getattribute__") = false from rfl]
    exact Bool.and_false b
  rw [off, if_neg Bool.false_ne_true]
  refine wpAny_bind (wpAny_of_eq (PySem.F.ks_slot_super_ga.bind _) ?_)
  refine thn (Q := fun v s' => v = .ref h.objs.size ∧ s' = ⟨h.push { cls := .type "method", data := .fields #[.ref f, .ref x] }, g, d, t + 1, os⟩) (wpAny_mono (wpAny_call_entry (E := fun _ _ => False) PySem.F.ks_slot_super_ga (ty _) PySem.F.ks_entry_super_ga
    (ks_wpAny_super_ga a1 a2 a3 a4 X a5 a6 a7 a8 a9 ⟨_, rfl, rfl, rfl⟩) (PySem.F.ks_gaArgs_super _ _)) (fun _ _ z => z) fun _ _ z => z.elim) fun v s' z => ?_
  obtain ⟨rfl, rfl⟩ := z
  exact wpAny_pure q
/-- o.m(*e), whatever o is -/
theorem star_call {M : Model} {A : Around} {c : Code} {E : Value → Shared → Prop} {s : Shared} {env : Env} {o e : Expr} {m : Str} {p apos pos : Pos} {Q : Value → Shared → Prop} (hst : starEach [.Starred e p] env = [(true, eval e env)])
    (h : _root_.PySem.wpAt M A c (attributeBase o m env (eval o env)) (fun ov s₁ => wpAny M A (getAttr ov m true) (fun f s₂ => wpAny M A (callWith pos f [] (backTo pos [(true, eval e env)]) []) Q E s₂) E s₁) E s) :
    _root_.PySem.wpAt M A c (eval (.Call (.Attribute o m apos) [.Starred e p] [] pos) env) Q E s := by
  have form : methodCallForm ([Expr.Starred e p].length + ([] : List Keyword).length) (backTo pos [(true, eval e env)]) [] = false := rfl
  have where_ : methodCallPos false o env apos pos = pure pos := rfl
  have who : ∀ ov, calleeOf false o env ov m = (getAttr ov m true >>= fun v => pure (v, [])) := fun _ => rfl
  have kws : backToKw pos (keywordEach [] env) = [] := rfl
  rw [arm_eval_Call, hst, kws]
  refine _root_.PySem.wpAt_bind (ks_wpAt_mono h (fun ov s₁ z => wpAt_of_wpAny (wpAny_bind (wpAny_standAt ?_))) fun _ _ z => z)
  unfold methodCall
  rw [form, where_, who]
  refine wpAny_bind (wpAny_holding (wpAny_bind (thn z fun f s₂ y => wpAny_pure ?_)))
  exact wpAny_bind (wpAny_pure y)
/-- super().__init__(*xs), the instance in the slot i -/
def tSupS (K : PySem.W.Frag) (i : Nat) (C : Addr) (sp : Sp) (E : XK) (te : TE) : TS := fun D σ H => ∃ a dx fs, σ[i]? = some (some (.ref a)) ∧ H a = some (.ins C dx fs) ∧
  te σ H fun y H1 => ∃ t vs, y = .ref t ∧ (SqT K H1 t vs ∨ SqL K H1 t vs) ∧ sp (.ref a :: vs) H1 (fun _ H2 => D.nx σ H2) E
theorem psa_superS {X : Cx} {CX : CXT} {k i : Nat} {f cda cc D C f2 : Addr} {x : Str} {sp : Sp} {E : XK} {body : List Stmt} {e : Expr} {te : TE} {p0 p1 p2 apos pos spos : Pos}
    (S : SupOf X.prog X.K f cda cc D C f2 x) (F : FnR X.prog X.w X.K X.mg X.base CX k f2 sp) (hr : Room k X.A) (hx : Passes CX X E) (hfu : X.env.func = some f) (hco : X.env.code = .ref cda) (hcl : X.env.cells.lookup ("__class__" : Str) = some cc)
    (hks : X.env.kindOf "super" = some .globalImplicit) (hkc : X.env.kindOf "__class__" = some .free) (hkx : X.env.kindOf x = some .local) (hm : X.mg "super" = none) (hN : X.N[i]? = some x) (he : PE X e te)
    (hst : starEach [.Starred e p2] X.env = [(true, eval e X.env)] := by rfl)
    (hw : swapsWith (.Call (.Attribute (.Call (.Name "super" p0) [] [] p1) "__init__" apos) [.Starred e p2] [] pos) none spos.line X.env = pure false := by rfl) :
    PSa X body (.Expr (.Call (.Attribute (.Call (.Name "super" p0) [] [] p1) "__init__" apos) [.Starred e p2] [] pos) spos) (tSupS X.K i C sp E te) := by
  refine ⟨fun pins s σ H Dn I h => ?_⟩
  obtain ⟨a, dx, fs, h1, h2, q⟩ := h
  refine ks_wpAt_Expr_any (star_call hst (super_base I S hfu hco hcl hks hkc hkx hm hN h1 h2 fun s1 I1 hso => ?_)) I.quiet hw
  obtain ⟨cdC, hC⟩ := S.isC
  have inK := I1.kIn
  have hob : s1.heap.get? a = some (PySem.W.instObj C dx) := (show ObjOk X.prog X.w H s1.heap a (.ins C dx fs) from I1.hok a _ h2).2.2.2.1
  obtain ⟨oC, hC1, hC2⟩ := cls_at inK hC
  have hne : a ≠ C := fun z => by
    rw [z, hC1] at hob
    rw [Option.some.inj hob] at hC2
    cases hC2
  obtain ⟨of, hof, hofc⟩ : ∃ of, s1.heap.get? f2 = some of ∧ of.cls = .type "function" := by
    have ht' : (X.K.lookup f2).map (·.cls) = some (.type "function") := S.ty
    cases z : X.K.lookup f2 with
    | none =>
      rw [z] at ht'
      cases ht'
    | some of =>
      rw [z] at ht'
      exact ⟨of, inK _ _ z, Option.some.inj ht'⟩
  have hsup := S.sup
  unfold PySem.W.ks_superIn at hsup
  rw [hC] at hsup
  obtain ⟨hh, g, d, tk, os⟩ := s1
  refine super_attr hso (PySem.W.looks_opaque inK S.thd) (l₀ := cdC.mro) ((PySem.W.looks_clsIn inK hC).andThen .now) rfl inK hsup hof hofc hne (by decide) ?_
  have I2 := ClX.met_new (g := f2) (C := a) I1
  refine PySem.W.ks_call (P := PySem.W.MethP X.K _ f2 (.ref a)) rfl (PySem.W.keeps_M S.fi) (PySem.W.ks_lone (thn (he.run _ _ σ H _ I2 q) fun v s3 ⟨y, H3, I3, ry, t, vs, ey, ht, hsp⟩ => ?_))
  subst ey
  obtain rfl : v = Value.ref t := ry
  refine StX.star_any I3 ht fun us s5 I5 rv => ?_
  refine ⟨⟨ClX.pin_at I5, I5.kIn⟩, ?_⟩
  refine thn (ClX.run_cm F hr hx I5 rv hsp) fun _ _ y => ?_
  obtain ⟨v', H4, I4, _, q4⟩ := y
  exact ⟨σ, H4, I4, q4⟩
end G
set_option Elab.async false
set_option linter.all false
set_option maxRecDepth 100000
set_option maxHeartbeats 2000000
/-! G3: a cell, its box, a draw from it. -/
namespace G
open PySem PySem.Spec PyProof.Rows L2
def topS (i : Nat) : Stmt := PySem.Challenge.pw_listviews_k06_nested_conditions_called.main.body.getD i (.Pass ⟨0, 0, 0, 0⟩)
abbrev sCell : Stmt := topS 46
abbrev sBox : Stmt := topS 47
abbrev sTake : Stmt := topS 48
theorem scCell : FnScope ["_law_script", "_law_k"] ["_law_script", "_law_k"] (defScope sCell) := ⟨rfl, rfl, rfl, by decide +kernel, rfl, by decide +kernel, by decide +kernel⟩
theorem scBox : FnScope ["_law_cell_here"] ["_law_cell_here"] (defScope sBox) := ⟨rfl, rfl, rfl, by decide +kernel, rfl, by decide +kernel, by decide +kernel⟩
theorem scTake : FnScope ["_law_box_here", "_law_many", "_law_digit", "_law_mixed_here"] ["_law_box_here", "_law_many"] (defScope sTake) := ⟨rfl, rfl, rfl, by decide +kernel, rfl, by decide +kernel, by decide +kernel⟩
/-- all but b stands as it stood -/
def But (b : Addr) (H H' : Hp) : Prop := ∀ c o, c ≠ b → H c = some o → H' c = some o
theorem But.refl (b : Addr) (H : Hp) : But b H H := fun _ _ _ h => h
theorem But.trans {b : Addr} {H H1 H2 : Hp} (x : But b H H1) (y : But b H1 H2) : But b H H2 := fun c o n h => y c o n (x c o n h)
theorem But.upd {b : Addr} {H : Hp} {o : HO} : But b H (upd H b o) := fun c u n h => by
  rw [upd_ne n]
  exact h
theorem But.new {b p : Addr} {H : Hp} {o : HO} (h : H p = none) : But b H (L2.upd H p o) := fun c u n e => by
  rw [upd_ne (ne_of_none e h)]
  exact e
theorem But.same {b : Addr} {H H' : Hp} (h : Same H H') : But b H H' := fun c o _ e => h c o e
theorem Same.new {p : Addr} {H : Hp} {o : HO} (h : H p = none) : Same H (upd H p o) := fun c u e => by
  rw [upd_ne (ne_of_none e h)]
  exact e
/-- a box from which at most n draws were made -/
def BoxAt (H : Hp) (b : Addr) (n : Nat) : Prop := ∃ x y z : Int, H b = some (.lst [.int x, .int y, .int z]) ∧ 0 ≤ x ∧ 0 ≤ y ∧ y < 2147483629 ∧ 0 ≤ z ∧ z ≤ n
theorem BoxAt.mono {H : Hp} {b : Addr} {n m : Nat} (h : BoxAt H b n) (le : n ≤ m) : BoxAt H b m := by
  obtain ⟨x, y, z, e, h1, h2, h3, h4, h5⟩ := h
  exact ⟨x, y, z, e, h1, h2, h3, h4, by omega⟩
theorem BoxAt.keep {H H' : Hp} {b : Addr} {n : Nat} (h : BoxAt H b n) (s : ∀ o, H b = some o → H' b = some o) : BoxAt H' b n := by
  obtain ⟨x, y, z, e, r⟩ := h
  exact ⟨x, y, z, s _ e, r⟩
/-- a draw is one of so many -/
theorem draw_at {r m : Int} {n : Nat} (h0 : 0 ≤ r) (h1 : r < m) (e : m = n) : ∃ j : Nat, r = j ∧ j < n := ⟨r.toNat, by omega, by omega⟩
def spCell' (K : PySem.W.Frag) : Sp := fun vs H Q _ => ∃ (a : Addr) (ns : List Int) (z : Int), vs = [.ref a, .int z] ∧ SqL K H a (ns.map V.int) ∧ 0 ≤ z ∧ z < 1000 ∧ ∀ i : Int, Q (.int i) H
def spBox : Sp := fun vs H Q _ => ∃ i : Int, vs = [.int i] ∧ ∀ (b : Addr) (H' : Hp), H b = none → Same H H' → BoxAt H' b 0 → Q (.ref b) H'
def spTake : Sp := fun vs H Q _ => ∃ (b : Addr) (m : Int) (n : Nat), vs = [.ref b, .int m] ∧ BoxAt H b n ∧ n ≤ 100000 ∧ 0 < m ∧ m < 2 ^ 200 ∧
  ∀ (r : Int) (H' : Hp), 0 ≤ r → r < m → BoxAt H' b (n + 1) → But b H H' → Q (.int r) H'
section
variable {P : Program} {w : World} {K : PySem.W.Frag} {mg : Str → Option Value} {base : Heap}
theorem ok_cell {f : Addr} {fd : FuncData} (F : Fun K "_law_cell" "_law_cell" sCell f fd) (ml : mg "len" = none) : FnOk P w K mg base CX0 1 f fd ["_law_script", "_law_k"] (spCell' K) := by
  refine F.ok scCell (fun vs H Q E h => ?_) (fun cdv A outer s H vs Q E hr h => ?_)
  · obtain ⟨a, ns, j, rfl, _⟩ := h
    rfl
  · obtain ⟨a, ns, z, rfl, hS, z0, z1, q⟩ := h
    obtain ⟨j, rfl, hj⟩ := draw_at (n := 1000) z0 z1 rfl
    refine ⟨_, pss_cons (ps_if (pt_cmpR op_lt (pv 1) (pe_callB call_len_seq (by rfl) ml PySem.boot_len (pa_cons (pv 0) pa_nil)) (nomark _))
        (pss_one (ps_ret (pe_ix ix_list (pv 0) (pv 1) (fun _ _ => rfl)))) pss_nil)
      (pss_one (ps_ret (pe_op op_add (pe_op op_mul pe_int (pv 1)) pe_int))), ?_⟩
    refine ⟨_, rfl, _, rfl, a, _, rfl, .inl hS, _, _, rfl, rfl, _, rfl, ite2 (fun e => ?_) (fun _ => ?_)⟩
    · have e1 : (j : Int) < ((ns.map V.int).length : Nat) := of_decide_eq_true e
      have e2 : j < ns.length := by
        rw [List.length_map] at e1
        omega
      exact ⟨_, rfl, _, rfl, a, _, _, .int ns[j], rfl, rfl, hS, atI_nat (by rw [List.getElem?_map, List.getElem?_eq_getElem e2] <;> rfl), q _⟩
    · exact ⟨_, rfl, _, _, rfl, rfl, .inl ⟨by decide, by decide⟩, _, _, rfl, rfl, q _⟩
theorem ok_box {f : Addr} {fd : FuncData} (F : Fun K "_law_box" "_law_box" sBox f fd) (mm : mg "max" = none) : FnOk P w K mg base CX0 1 f fd ["_law_cell_here"] spBox := by
  refine F.ok scBox (fun vs H Q E h => ?_) (fun cdv A outer s H vs Q E hr h => ?_)
  · obtain ⟨i, rfl, _⟩ := h
    rfl
  · obtain ⟨i, rfl, q⟩ := h
    refine ⟨_, pss_one (ps_ret (pe_lst (pa_cons (pe_callB (call_max2 rfl) (by rfl) mm (by decide +kernel) (pa_cons pe_int (pa_cons (pe_op op_sub (pv 0) (pe_op op_pow pe_int pe_int)) pa_nil)))
      (pa_cons (pe_op op_mod (pv 0) pe_int) (pa_cons pe_int pa_nil))))), ?_⟩
    refine ⟨_, rfl, _, _, rfl, rfl, ⟨by decide, by decide, by decide⟩, _, _, rfl, rfl, _, _, rfl, _, rfl, _, _, rfl, rfl, (by show (0 : Int) < 2147483629; decide), (by show 3 ≤ sizeLine; decide), fun b hb => ?_⟩
    refine q b _ hb (Same.new hb) ⟨_, _, _, upd_same, ?_, Int.emod_nonneg _ (by decide), Int.emod_lt_of_pos _ (by decide), Int.le_refl _, Int.le_refl _⟩
    split <;> omega
theorem emod_in (a m : Int) (h : 0 < m) : 0 ≤ a % m ∧ a % m < m := ⟨Int.emod_nonneg _ (by omega), Int.emod_lt_of_pos _ h⟩
theorem ok_take {f : Addr} {fd : FuncData} (F : Fun K "_law_take" "_law_take" sTake f fd) : FnOk P w K mg base CX0 1 f fd ["_law_box_here", "_law_many"] spTake := by
  refine F.ok scTake (fun vs H Q E h => ?_) (fun cdv A outer s H vs Q E hr h => ?_)
  · obtain ⟨b, m, n, rfl, _⟩ := h
    rfl
  · obtain ⟨b, m, n, rfl, ⟨x, y, z, hb, hx, hy, hy2, hz, hzn⟩, hn, hm, hm2, q⟩ := h
    refine ⟨_, pss_cons (ps_if (pt_cmpR op_gt (pe_ix ix_list (pv 0) pe_int (fun _ _ => rfl)) pe_int (nomark _))
        (pss_cons (ps_set (i := 2) scTake.nd rfl (.inl rfl) (pe_op op_mod (pe_ix ix_list (pv 0) pe_int (fun _ _ => rfl)) (pv 1)))
        (pss_cons (ps_asg (pe_op op_fdivW (pe_ix ix_list (pv 0) pe_int (fun _ _ => rfl)) (pv 1)) (pg_sub (pv 0) pe_int set_list))
        (pss_one (ps_ret (pv 2))))) pss_nil)
      (pss_cons (ps_asg (pe_op op_add (pe_ix ix_list (pv 0) pe_int (fun _ _ => rfl)) pe_int) (pg_sub (pv 0) pe_int set_list))
      (pss_cons (ps_set (i := 3) scTake.nd rfl (.inl rfl) (pe_op op_mod (pe_op op_pow (pe_op op_add (pe_op op_add (pe_ix ix_list (pv 0) pe_int (fun _ _ => rfl)) (pe_op op_mul pe_int (pe_ix ix_list (pv 0) pe_int (fun _ _ => rfl)))) pe_int) pe_int) pe_int))
      (pss_cons (ps_set (i := 3) scTake.nd rfl (.inl rfl) (pe_op op_mod (pe_op op_pow (pe_op op_add (pv 3) (pe_op op_mul pe_int (pe_ix ix_list (pv 0) pe_int (fun _ _ => rfl)))) pe_int) pe_int))
      (pss_one (ps_ret (pe_op op_mod (pe_op op_fdivW (pv 3) pe_int) (pv 1))))))), ?_⟩
    -- if box[0] > 0
    refine ⟨_, rfl, b, _, 0, .int x, rfl, rfl, .of hb, rfl, _, _, rfl, rfl, _, rfl, ite2 (fun e => ?_) (fun _ => ?_)⟩
    · refine ⟨_, rfl, b, _, 0, .int x, rfl, rfl, .of hb, rfl, _, rfl, _, _, rfl, rfl, hm, ?_⟩
      refine ⟨_, rfl, b, _, 0, .int x, rfl, rfl, .of hb, rfl, _, rfl, _, _, rfl, rfl, wide_div hm (b := 200) (by omega) (by decide) (by decide), ?_⟩
      refine ⟨_, rfl, b, _, 0, 0, rfl, rfl, hb, rfl, _, rfl, ?_⟩
      have r := emod_in x m hm
      exact q _ _ r.1 r.2 ⟨_, _, _, upd_same, Int.ediv_nonneg hx (by omega), hy, hy2, hz, by omega⟩ But.upd
    · refine ⟨_, rfl, b, _, 2, .int z, rfl, rfl, .of hb, rfl, _, _, rfl, rfl, ?_⟩
      refine ⟨_, rfl, b, _, 2, 2, rfl, rfl, hb, rfl, ?_⟩
      have hb' : (upd H b (.lst [.int x, .int y, .int (z + 1)])) b = some (.lst [.int x, .int y, .int (z + 1)]) := upd_same
      refine ⟨_, rfl, b, _, 1, .int y, rfl, rfl, .of hb', rfl, _, rfl, b, _, 2, .int (z + 1), rfl, rfl, .of hb', rfl, _, _, rfl, rfl, .inl ⟨by decide, by decide⟩, _, _, rfl, rfl, _, _, rfl, rfl,
        _, _, rfl, rfl, ⟨by decide, by decide, by omega⟩, _, _, rfl, rfl, (by show (0 : Int) < 2147483647; decide), ?_⟩
      generalize h1 : ((y + 7369 * (z + 1) + 211) ^ (5 : Int).toNat : Int) = t1
      have r1 := emod_in t1 2147483647 (by decide)
      refine ⟨_, rfl, _, rfl, b, _, 2, .int (z + 1), rfl, rfl, .of hb', rfl, _, _, rfl, rfl, .inl ⟨by decide, by decide⟩, _, _, rfl, rfl, _, _, rfl, rfl, ⟨by decide, by decide, by omega⟩, _, _, rfl, rfl, (by show (0 : Int) < 2147483587; decide), ?_⟩
      generalize h2 : ((t1 % 2147483647 + 104729 * (z + 1)) ^ (3 : Int).toNat : Int) = t2
      refine ⟨_, rfl, _, _, rfl, rfl, wide_div (by decide) (b := 200) (by decide) (by decide) (by decide), _, rfl, _, _, rfl, rfl, hm, ?_⟩
      have r := emod_in (t2 % 2147483587 / 16) m hm
      exact q _ _ r.1 r.2 ⟨_, _, _, upd_same, hx, hy, hy2, by omega, by omega⟩ But.upd
end
end G
set_option Elab.async false
set_option linter.all false
set_option maxRecDepth 100000
set_option maxHeartbeats 2000000
/-! G5: what data in the heap keeps, its type, == of it. -/
namespace G
open PySem PySem.Spec PyProof.Rows L2
section
variable {K : PySem.W.Frag} {H H' : Hp}
mutual
theorem rp_same (s : Same H H') : ∀ (d : PyData) (v : V), Rp K H v d → Rp K H' v d
  | .none, _, h => by
    cases h
    exact .non
  | .bool b, _, h => by
    cases h
    exact .bl b
  | .int i, _, h => by
    cases h
    exact .int i
  | .str x, _, h => by
    cases h
    exact .str x
  | .list ds, _, h => by
    cases h with
    | lst e r => exact .lst (s _ _ e) (rp_sameAll s ds _ r)
  | .tuple ds, _, h => by
    cases h with
    | tup e r => exact .tup (s _ _ e) (rp_sameAll s ds _ r)
  | .dict ds, _, h => by
    cases h with
    | dic e r q => exact .dic (s _ _ e) (rp_sameK s ds _ r) (rp_sameV s ds _ q)
theorem rp_sameAll (s : Same H H') : ∀ (ds : List PyData) (vs : List V), RpAll K H vs ds → RpAll K H' vs ds
  | [], _, h => by
    cases h
    exact .nil
  | d :: ds, _, h => by
    cases h with
    | cons a b => exact .cons (rp_same s d _ a) (rp_sameAll s ds _ b)
theorem rp_sameK (s : Same H H') : ∀ (ds : List (PyData × PyData)) (vs : List V), RpAll K H vs (ds.map (·.1)) → RpAll K H' vs (ds.map (·.1))
  | [], _, h => by
    cases h
    exact .nil
  | (d, _) :: ds, _, h => by
    cases h with
    | cons a b => exact .cons (rp_same s d _ a) (rp_sameK s ds _ b)
theorem rp_sameV (s : Same H H') : ∀ (ds : List (PyData × PyData)) (vs : List V), RpAll K H vs (ds.map (·.2)) → RpAll K H' vs (ds.map (·.2))
  | [], _, h => by
    cases h
    exact .nil
  | (_, d) :: ds, _, h => by
    cases h with
    | cons a b => exact .cons (rp_same s d _ a) (rp_sameV s ds _ b)
end
theorem rp_len : ∀ {ds : List PyData} {vs : List V}, RpAll K H vs ds → vs.length = ds.length
  | [], _, h => by
    cases h
    rfl
  | _ :: ds, _, h => by
    cases h with
    | cons a b =>
      rw [List.length_cons, List.length_cons, rp_len b]
theorem rp_at : ∀ {ds : List PyData} {vs : List V} {i : Nat} {v : V}, RpAll K H vs ds → vs[i]? = some v → ∃ d, ds[i]? = some d ∧ Rp K H v d
  | [], _, i, v, h, e => by
    cases h
    simp at e
  | d :: ds, _, i, v, h, e => by
    cases h with
    | cons a b =>
      cases i with
      | zero =>
        have e' := Option.some.inj e
        subst e'
        exact ⟨d, rfl, a⟩
      | succ j => exact rp_at (ds := ds) (i := j) b (by simpa using e)
theorem rp_app : ∀ {ds : List PyData} {vs : List V} {v : V} {d : PyData}, RpAll K H vs ds → Rp K H v d → RpAll K H (vs ++ [v]) (ds ++ [d])
  | [], _, _, _, h, r => by
    cases h
    exact .cons r .nil
  | _ :: ds, _, _, _, h, r => by
    cases h with
    | cons a b => exact .cons a (rp_app b r)
theorem rp_set : ∀ {ds : List PyData} {vs : List V} {v : V} {d : PyData} (i : Nat), RpAll K H vs ds → Rp K H v d → RpAll K H (vs.set i v) (ds.set i d)
  | [], _, _, _, _, h, r => by
    cases h
    exact .nil
  | _ :: ds, _, _, _, i, h, r => by
    cases h with
    | cons a b =>
      cases i with
      | zero => exact .cons r b
      | succ j => exact .cons a (rp_set j b r)
theorem rp_ints : ∀ (is : List Int), RpAll K H (is.map V.int) (is.map PyData.int)
  | [] => .nil
  | i :: is => .cons (.int i) (rp_ints is)
mutual
theorem rp_dp : ∀ (d : PyData) (v : V), d.hasDict = false → Rp K H v d → Dp K H v d
  | .none, _, _, h => by
    cases h
    exact .non
  | .bool b, _, _, h => by
    cases h
    exact .bl b
  | .int i, _, _, h => by
    cases h
    exact .int i
  | .str x, _, _, h => by
    cases h
    exact .str x
  | .list ds, _, n, h => by
    cases h with
    | lst e r => exact .lst (.of e) (rp_dpAll ds _ (by simpa [PyData.hasDict] using n) r)
  | .tuple ds, _, n, h => by
    cases h with
    | tup e r => exact .tup (.of e) (rp_dpAll ds _ (by simpa [PyData.hasDict] using n) r)
  | .dict ds, _, n, h => by simp [PyData.hasDict] at n
theorem rp_dpAll : ∀ (ds : List PyData) (vs : List V), PyData.hasDictAll ds = false → RpAll K H vs ds → DpAll K H vs ds
  | [], _, _, h => by
    cases h
    exact .nil
  | d :: ds, _, n, h => by
    simp only [PyData.hasDictAll, Bool.or_eq_false_iff] at n
    cases h with
    | cons a b => exact .cons (rp_dp d _ n.1 a) (rp_dpAll ds _ n.2 b)
end
/-- the name of a thing's type -/
def tyN : PyData → String
  | .none => "NoneType"
  | .bool _ => "bool"
  | .int _ => "int"
  | .str _ => "str"
  | .list _ => "list"
  | .tuple _ => "tuple"
  | .dict _ => "dict"
theorem rp_ty {v : V} {d : PyData} (h : Rp K H v d) : TyX K H v (.type (tyN d)) := by
  cases h with
  | non => exact .base .non
  | bl b => exact .base (.bl b)
  | int i => exact .base (.int i)
  | str x => exact .base (.str x)
  | lst e r => exact .base (.lst e)
  | tup e r => exact .base (.tup e)
  | dic e r q => exact .base (.dK e)
end
/-- H without what stands at b -/
def hide (b : Addr) (H : Hp) : Hp := fun a => if a = b then none else H a
theorem hide_same (b : Addr) (H : Hp) : Same (hide b H) H := fun a o e => by
  by_cases h : a = b
  · rw [show hide b H a = none from if_pos h] at e
    cases e
  · rwa [show hide b H a = H a from if_neg h] at e
theorem hide_ne {b a : Addr} {H : Hp} (h : a ≠ b) : hide b H a = H a := if_neg h
theorem hide_at {b : Addr} {H : Hp} : hide b H b = none := if_pos rfl
theorem hide_but {b : Addr} {H H' : Hp} (h : But b H H') : Same (hide b H) (hide b H') := fun a o e => by
  have n : a ≠ b := fun z => by
    rw [z, hide_at] at e
    cases e
  rw [hide_ne n] at e ⊢
  exact h a o n e
theorem hide_upd {b : Addr} {H : Hp} {o : HO} : hide b (upd H b o) = hide b H := by
  funext a
  by_cases h : a = b
  · rw [h, hide_at, hide_at]
  · rw [hide_ne h, hide_ne h, upd_ne h]
/-- what is new is not in what stood -/
theorem hide_new {b : Addr} {H : Hp} (h : H b = none) : Same H (hide b H) := fun a o e => by
  rw [hide_ne (ne_of_none e h)]
  exact e
theorem hide_mono {b : Addr} {H H' : Hp} (h : Same H H') : Same (hide b H) (hide b H') := hide_but fun c o _ e => h c o e
theorem hide_hide {b c : Addr} {H : Hp} : hide b (hide c H) = hide c (hide b H) := by
  funext a
  unfold hide
  split <;> split <;> rfl
end G
set_option Elab.async false
set_option linter.all false
set_option maxRecDepth 100000
set_option maxHeartbeats 2000000
/-! V3: the items of a list, in a drawn order. -/
namespace G
open PySem PySem.Spec PyProof.Rows L2
abbrev sMixed : Stmt := topS 49
theorem scMixed : FnScope ["_law_box_here", "_law_some", "_law_left", "_law_found"] ["_law_box_here", "_law_some"] (defScope sMixed) := ⟨rfl, rfl, rfl, by decide +kernel, rfl, by decide +kernel, by decide +kernel⟩
/-- data that == takes: no dict, texts that can be compared, not too deep -/
def lay (d : PyData) : Prop := d.hasDict = false ∧ d.canLay0 = true ∧ d.depth ≤ 60
theorem lay_all : ∀ {ds : List PyData}, (∀ d ∈ ds, lay d) → PyData.hasDictAll ds = false ∧ PyData.canLayAll0 ds = true ∧ PyData.depthAll ds ≤ 60
  | [], _ => ⟨rfl, rfl, Nat.zero_le _⟩
  | d :: ds, h => by
    obtain ⟨a1, a2, a3⟩ := h d List.mem_cons_self
    obtain ⟨b1, b2, b3⟩ := lay_all (ds := ds) fun e he => h e (List.mem_cons_of_mem _ he)
    refine ⟨?_, ?_, ?_⟩
    · rw [PyData.hasDictAll, a1, b1]
      rfl
    · rw [PyData.canLayAll0, a2, b2]
      rfl
    · rw [PyData.depthAll]
      exact Nat.max_le.mpr ⟨a3, b3⟩
theorem lay_shaped {d : PyData} (h : lay d) : SeqAt.shaped d = true := by
  unfold SeqAt.shaped
  rw [h.2.1, decide_eq_true (Nat.le_trans h.2.2 (by decide))]
  rfl
theorem lay_list {ds : List PyData} (h : ∀ d ∈ ds, lay d) : SeqAt.shaped (.list ds) = true := by
  obtain ⟨_, b2, b3⟩ := lay_all h
  unfold SeqAt.shaped
  rw [PyData.canLay0, b2, decide_eq_true (show (PyData.list ds).depth ≤ 64 by rw [PyData.depth]; omega)]
  rfl
/-- values and what they show -/
abbrev Vd := V × PyData
theorem rp_pairs {K : PySem.W.Frag} {H : Hp} : ∀ {qs : List Vd}, (∀ p ∈ qs, Rp K H p.1 p.2) → RpAll K H (qs.map (·.1)) (qs.map (·.2))
  | [], _ => .nil
  | p :: qs, h => .cons (h p List.mem_cons_self) (rp_pairs fun q hq => h q (List.mem_cons_of_mem _ hq))
theorem dp_pairs {K : PySem.W.Frag} {H : Hp} {qs : List Vd} (h : ∀ p ∈ qs, Rp K H p.1 p.2) (l : ∀ p ∈ qs, lay p.2) : DpAll K H (qs.map (·.1)) (qs.map (·.2)) :=
  rp_dpAll _ _ (lay_all (ds := qs.map (·.2)) fun d hd => by
    obtain ⟨p, hp, rfl⟩ := List.mem_map.mp hd
    exact l p hp).1 (rp_pairs h)
theorem erase_map {α β : Type} (f : α → β) : ∀ (l : List α) (j : Nat), (l.map f).eraseIdx j = (l.eraseIdx j).map f
  | [], _ => rfl
  | _ :: _, 0 => rfl
  | x :: l, j + 1 => by
    show f x :: (l.map f).eraseIdx j = f x :: (l.eraseIdx j).map f
    rw [erase_map f l j]
theorem erase_perm {α : Type} : ∀ {l : List α} {j : Nat} (h : j < l.length), ([l[j]] ++ l.eraseIdx j).Perm l
  | _ :: _, 0, _ => .refl _
  | x :: l, j + 1, h => by
    have hj : j < l.length := by simpa using h
    have ih := erase_perm hj
    show (l[j] :: x :: l.eraseIdx j).Perm (x :: l)
    exact (List.Perm.swap x _ _).trans (List.Perm.cons x ih)
/-- some: any order of its items, in a new list -/
def spMixed (K : PySem.W.Frag) : Sp := fun vs H Q _ => ∃ (b a : Addr) (n : Nat) (ps : List Vd), vs = [.ref b, .ref a] ∧ BoxAt H b n ∧ n + ps.length ≤ 100000 ∧ (SqL K H a (ps.map (·.1)) ∨ SqT K H a (ps.map (·.1))) ∧
  (∀ p ∈ ps, lay p.2 ∧ ∀ H', But b H H' → Rp K H' p.1 p.2) ∧
  ∀ (p : Addr) (H' : Hp) (qs : List Vd), qs.Perm ps → H p = none → H' p = some (.lst (qs.map (·.1))) → BoxAt H' b (n + ps.length) → But b H H' → Q (.ref p) H'
theorem eqv_nil (ds : List PyData) : PyData.eqv (.list ds) (.list []) = ds.isEmpty := by
  cases ds with
  | nil => rfl
  | cons d ds => rfl
section
variable {P : Program} {w : World} {K : PySem.W.Frag} {mg : Str → Option Value} {base : Heap}
theorem ok_mixed {f fT : Addr} {fd fdT : FuncData} (F : Fun K "_law_mixed" "_law_mixed" sMixed f fd) (T : Fun K "_law_take" "_law_take" sTake fT fdT) (bT : Binds K fdT ["_law_box_here", "_law_many"] []) (gT : mg "_law_take" = some (.ref fT))
    (ml : mg "len" = none) (mL : mg "list" = none) : FnOk P w K mg base CX0 2 f fd ["_law_box_here", "_law_some"] (spMixed K) := by
  refine F.ok scMixed (fun vs H Q E h => ?_) (fun cdv A outer s H vs Q E hr h => ?_)
  · obtain ⟨b, a, n, ps, rfl, _⟩ := h
    rfl
  · obtain ⟨b, a, n, ps, rfl, B, hn, hS, hp, q⟩ := h
    have big : ∀ {k : Nat}, k ≤ 100000 → k < sizeLine := fun {k} h => by
      rw [sizeLine_eq]
      omega
    refine ⟨_, pss_cons (ps_par (i := 2) (j := 3) (by rfl) scMixed.nd rfl rfl (by decide) rfl rfl (pa_cons (pe_callTy call_list_of (by rfl) mL (by decide +kernel) (pa_cons (pv 1) pa_nil)) (pa_cons (pe_lst pa_nil) pa_nil)) (by rfl))
      (pss_cons (ps_while PassesOwn.never (pt_cmpR (op_neD hr.units) (pv 2) (pe_lst pa_nil) (nomark _))
        (pss_one (ps_expr (pe_bm PySem.F.plainAttrs_list PySem.F.slot_list_append PySem.F.type_list_append mt_append (pv 3) (pa_cons
          (pe_bm PySem.F.plainAttrs_list PySem.F.slot_list_pop PySem.F.type_list_pop mt_popAt (pv 2)
            (pa_cons (pe_call (ok_take T) hr rfl gT T.kp bT .nil pass0 (pa_cons (pv 0) (pa_cons (pe_callB call_len_seq (by rfl) ml PySem.boot_len (pa_cons (pv 2) pa_nil)) pa_nil))) pa_nil)) pa_nil)))))
      (pss_one (ps_ret (pv 3)))), ?_⟩
    refine ⟨_, rfl, a, _, rfl, hS, fun l hl => ⟨by decide, fun p hp0 => ⟨_, _, rfl, ?_⟩⟩⟩
    have nlp : l ≠ p := fun z => by
      rw [z, upd_same] at hp0
      cases hp0
    have hpn : H p = none := (upd_ne nlp.symm).symm.trans hp0
    have nbl : b ≠ l := by
      obtain ⟨_, _, _, e, _⟩ := B
      exact ne_of_none e hl
    have nbp : b ≠ p := by
      obtain ⟨_, _, _, e, _⟩ := B
      exact ne_of_none e hpn
    refine ⟨fun m σ H1 => ∃ qs rs : List Vd, m = qs.length ∧ σ = [some (.ref b), some (.ref a), some (.ref l), some (.ref p)] ∧ H1 l = some (.lst (qs.map (·.1))) ∧ H1 p = some (.lst (rs.map (·.1))) ∧
        (rs ++ qs).Perm ps ∧ BoxAt H1 b (n + rs.length) ∧ But b H H1, ⟨ps.length, ps, [], rfl, rfl, ?_, upd_same, .refl _, ?_, ?_⟩, ?_⟩
    · rw [upd_ne nlp, upd_same]
    · exact (B.keep fun o e => by rw [upd_ne nbp, upd_ne nbl]; exact e).mono (Nat.le_add_right _ _)
    · exact (But.new hl).trans (But.new hp0)
    · rintro m σ H1 ⟨qs, rs, rfl, rfl, el, ep, pm, B1, s1⟩
      have hq : ∀ x ∈ qs, x ∈ ps := fun x hx => pm.mem_iff.mp (List.mem_append_right _ hx)
      have hlen : rs.length + qs.length = ps.length := by
        rw [← List.length_append]
        exact pm.length_eq
      refine ⟨_, rfl, by decide, fun t ht => ?_⟩
      have nlt : l ≠ t := ne_of_none el ht
      have s2 : But b H (upd H1 t (.lst [])) := s1.trans (But.new ht)
      refine ⟨.list (qs.map fun x : Vd => x.2), .list [], .lst (xs := qs.map fun x : Vd => x.1) (.of (by rw [upd_ne nlt]; exact el)) (dp_pairs (fun x hx => (hp x (hq x hx)).2 _ s2) fun x hx => (hp x (hq x hx)).1), .lst (.of upd_same) .nil, lay_list (fun d hd => ?_), by rfl, _, rfl, ?_⟩
      · obtain ⟨x, hx, rfl⟩ := List.mem_map.mp hd
        exact (hp x (hq x hx)).1
      · rw [eqv_nil]
        cases qs with
        | nil =>
          refine iteF ?_
          refine ⟨_, rfl, ?_⟩
          rw [List.append_nil] at pm
          refine q p _ rs pm hpn ?_ ?_ s2
          · rw [upd_ne (ne_of_none ep ht)]
            exact ep
          · have e : rs.length = ps.length := pm.length_eq
            rw [← e]
            exact B1.keep fun o e => by rw [upd_ne (ne_of_none e ht)]; exact e
        | cons y ys =>
          refine iteT ?_
          have hlen' : rs.length + (ys.length + 1) = ps.length := hlen
          refine ⟨fun σ' H' => ∃ m', m' < (y :: ys).length ∧ ∃ qs rs : List Vd, m' = qs.length ∧ σ' = [some (.ref b), some (.ref a), some (.ref l), some (.ref p)] ∧ H' l = some (.lst (qs.map (·.1))) ∧ H' p = some (.lst (rs.map (·.1))) ∧
            (rs ++ qs).Perm ps ∧ BoxAt H' b (n + rs.length) ∧ But b H H', fun _ _ h => h, ?_⟩
          have ep2 : upd H1 t (.lst []) p = some (.lst (rs.map (·.1))) := by
            rw [upd_ne (ne_of_none ep ht)]
            exact ep
          have el2 : upd H1 t (.lst []) l = some (.lst ((y :: ys).map (·.1))) := by
            rw [upd_ne nlt]
            exact el
          have B2 : BoxAt (upd H1 t (.lst [])) b (n + rs.length) := B1.keep fun o e => by rw [upd_ne (ne_of_none e ht)]; exact e
          refine ⟨_, rfl, .inl ⟨rfl, _, .of ep2⟩, _, rfl, .inl ⟨rfl, _, .of el2⟩, _, rfl, _, rfl, l, _, rfl, .inl (.of el2), b, _, n + rs.length, rfl, B2, by omega, ?_, ?_, fun r H3 r0 r1 B3 s3 => ?_⟩
          · rw [List.length_map]
            show (0 : Int) < ((ys.length + 1 : Nat) : Int)
            omega
          · rw [List.length_map]
            show ((ys.length + 1 : Nat) : Int) < _
            have : ys.length + 1 ≤ 100000 := by omega
            omega
          · obtain ⟨j, rfl, hj⟩ := draw_at r0 r1 (n := (y :: ys).length) (by rw [List.length_map])
            have el3 : H3 l = some (.lst ((y :: ys).map (·.1))) := s3 _ _ nbl.symm el2
            have ep3 : H3 p = some (.lst (rs.map (·.1))) := s3 _ _ nbp.symm ep2
            have hjm : j < ((y :: ys).map (·.1)).length := by
              rw [List.length_map]
              exact hj
            have hj5 : j < 100000 := by
              have e : (y :: ys).length = ys.length + 1 := rfl
              omega
            refine ⟨l, _, (j : Int), j, ((y :: ys)[j]).1, rfl, rfl, el3, by omega, by omega, ?_, ?_, ?_⟩
            · have := PySem.seqIndex_of (k := (j : Int)) (n := ((y :: ys).map (·.1)).length) (by omega) (by omega)
              rw [this]
              rfl
            · rw [List.getElem?_map, List.getElem?_eq_getElem hj]
              rfl
            · refine ⟨p, _, _, rfl, rfl, by rw [upd_ne nlp.symm]; exact ep3, ?_, ?_⟩
              · rw [List.length_map]
                exact big (by omega)
              · refine ⟨((y :: ys).eraseIdx j).length, ?_, (y :: ys).eraseIdx j, rs ++ [(y :: ys)[j]], rfl, rfl, ?_, ?_, ?_, ?_, ?_⟩
                · rw [List.length_eraseIdx, if_pos hj]
                  show (ys.length + 1) - 1 < ys.length + 1
                  omega
                · rw [upd_ne nlp, upd_same, erase_map]
                · rw [upd_same, List.map_append]
                  rfl
                · rw [List.append_assoc]
                  refine List.Perm.trans (List.Perm.append_left rs ?_) pm
                  exact erase_perm hj
                · rw [List.length_append, List.length_singleton]
                  exact B3.keep fun o e => by rw [upd_ne nbp, upd_ne nbl]; exact e
                · intro c o nc e
                  have e3 := (s2.trans s3) c o nc e
                  rw [upd_ne (ne_of_none e hpn), upd_ne (ne_of_none e hl)]
                  exact e3
end
end G
set_option Elab.async false
set_option linter.all false
set_option maxRecDepth 100000
set_option maxHeartbeats 2000000
/-! V4: drawn names. -/
namespace G
open PySem PySem.Spec PyProof.Rows L2
abbrev sNames : Stmt := topS 50
abbrev nNames : List Str := ["_law_box_here", "_law_many", "_law_letters", "_law_way", "_law_cut", "_law_begin", "_law_step", "_law_stem", "_law_k", "_law_found", "_law_letter", "_law_name"]
theorem scNames : FnScope nNames ["_law_box_here", "_law_many"] (defScope sNames) := ⟨rfl, rfl, rfl, by decide +kernel, rfl, by decide +kernel, by decide +kernel⟩
abbrev cs (z : Str) : List Nat := z.cps.toList
theorem cs_len (z : Str) : (cs z).length = z.length := by simp [cs, Str.length]
theorem cs_app (a b : Str) : cs (a ++ b) = cs a ++ cs b := TL.tl_append a b
theorem app_len (a b : Str) : (a ++ b).length = a.length + b.length := strLen_append a b
theorem small_size {n : Nat} (h : n ≤ 7000) : n ≤ sizeLine := by
  rw [sizeLine_eq]
  omega
theorem box_new {H : Hp} {b p : Addr} {n : Nat} {o : HO} (B : BoxAt H b n) (h : H p = none) : BoxAt (upd H p o) b n := B.keep fun o' e => Same.new h b o' e
theorem box_ne {H : Hp} {b p : Addr} {n : Nat} (B : BoxAt H b n) (h : H p = none) : p ≠ b := fun z => by
  obtain ⟨_, _, _, e, _⟩ := B
  rw [← z, h] at e
  cases e
theorem box_upd {H : Hp} {b p : Addr} {n : Nat} {o : HO} (B : BoxAt H b n) (h : p ≠ b) : BoxAt (upd H p o) b n := by
  obtain ⟨x, y, z, e, r⟩ := B
  exact ⟨x, y, z, (upd_ne h.symm).trans e, r⟩
/-- a store at what was new -/
theorem but_upd {b p : Addr} {H H1 : Hp} {o : HO} (k : But b H H1) (h : H p = none) : But b H (upd H1 p o) := fun c u n e => by
  rw [upd_ne (ne_of_none e h)]
  exact k c u n e
theorem free_of {b p : Addr} {H H' : Hp} (k : But b H H') (n : p ≠ b) (h : H' p = none) : H p = none := by
  cases e : H p with
  | none => rfl
  | some o =>
    rw [k p o n e] at h
    cases h
/-! ### names -/
def LowZ (z : Str) : Prop := ∀ c ∈ cs z, 97 ≤ c ∧ c ≤ 122
def NameZ (z : Str) : Prop := LowZ z ∧ 1 ≤ z.length ∧ z.length ≤ 8
def NameI (y : Str) (i : Nat) : Prop := LowZ y ∧ 1 ≤ y.length ∧ y.length ≤ 8 ∧ (26 ≤ i → y.length ≤ 7)
theorem LowZ.app {a b : Str} (h1 : LowZ a) (h2 : LowZ b) : LowZ (a ++ b) := fun c hc => by
  rw [cs_app] at hc
  rcases List.mem_append.mp hc with h | h
  · exact h1 c h
  · exact h2 c h
theorem LowZ.cut {a : Str} (h : LowZ a) (lo hi : Option Int) : LowZ (cutS a lo hi) := fun c hc => by
  have hc' : c ∈ ((cs a).drop _).take _ := hc
  exact h c (List.mem_of_mem_drop (List.mem_of_mem_take hc'))
theorem low_one {c : Nat} (h : 97 ≤ c ∧ c ≤ 122) : LowZ ⟨#[c]⟩ := fun x hx => by
  have : x ∈ [c] := hx
  rw [List.mem_singleton.mp this]
  exact h
theorem LowZ.lay {z : Str} (h : LowZ z) : lay (.str z) := by
  refine ⟨rfl, ?_, Nat.zero_le _⟩
  show z.cps.all (· < 0x110000) = true
  rw [Array.all_eq_true]
  intro i hi
  have := h z.cps[i] (by simp [cs])
  exact decide_eq_true (by omega)
abbrev abc : Str := "abcdefghijklmnopqrstuvwxyz"
theorem abc_low : LowZ abc := by
  have h : ((cs abc).all fun c => decide (97 ≤ c ∧ c ≤ 122)) = true := by decide +kernel
  exact fun c hc => of_decide_eq_true (List.all_eq_true.mp h c hc)
theorem abc_at {j : Nat} (hj : j < 26) : ∃ c, abc.cps[j]? = some c ∧ 97 ≤ c ∧ c ≤ 122 := by
  have h1 : j < abc.cps.size := hj
  refine ⟨abc.cps[j], by simp [h1], abc_low _ ?_⟩
  simp [cs]
theorem cut_first (z : Str) (k : Nat) : cs (cutS z none (some (k : Int))) = (cs z).take k := by
  show ((cs z).drop (HT.sIx z.length 0 none)).take (HT.sIx z.length z.length (some (k : Int)) - HT.sIx z.length 0 none) = _
  rw [HT.sIx_none, HT.sIx_nat z.length z.length k, List.drop_zero, ← cs_len, Nat.sub_zero]
  by_cases h : k ≤ (cs z).length
  · rw [Nat.min_eq_left h]
  · rw [Nat.min_eq_right (by omega), List.take_length, List.take_of_length_le (by omega)]
theorem cut_len (z : Str) (k : Nat) : (cutS z none (some (k : Int))).length = min k z.length := by
  rw [← cs_len, cut_first, List.length_take, cs_len]
def spNames : Sp := fun vs H Q _ => ∃ (b : Addr) (m n : Nat), vs = [.ref b, .int (m : Int)] ∧ BoxAt H b n ∧ n ≤ 50000 ∧ m ≤ 100 ∧
  ∀ (p : Addr) (H' : Hp) (zs : List Str), zs.length = m → (∀ z ∈ zs, NameZ z) → H p = none → H' p = some (.lst (zs.map V.str)) → BoxAt H' b (n + 11 + m) → But b H H' → Q (.ref p) H'
section
variable {P : Program} {w : World} {K : PySem.W.Frag} {mg : Str → Option Value} {base : Heap}
theorem ok_names {f fT fM : Addr} {fd fdT fdM : FuncData} (F : Fun K "_law_names" "_law_names" sNames f fd) (T : Fun K "_law_take" "_law_take" sTake fT fdT) (bT : Binds K fdT ["_law_box_here", "_law_many"] []) (gT : mg "_law_take" = some (.ref fT))
    (M : Fun K "_law_mixed" "_law_mixed" sMixed fM fdM) (bM : Binds K fdM ["_law_box_here", "_law_some"] []) (gM : mg "_law_mixed" = some (.ref fM)) (ml : mg "len" = none) (mL : mg "list" = none) (mr : mg "range" = none) :
    FnOk P w K mg base CX0 3 f fd ["_law_box_here", "_law_many"] spNames := by
  have GT : FnOk P w K mg base CX0 1 fT fdT ["_law_box_here", "_law_many"] spTake := ok_take T
  have GM : FnOk P w K mg base CX0 2 fM fdM ["_law_box_here", "_law_some"] (spMixed K) := ok_mixed M T bT gT ml mL
  refine F.ok scNames (fun vs H Q E h => ?_) (fun cdv A outer s H vs Q E hr h => ?_)
  · obtain ⟨b, m, n, rfl, _⟩ := h
    rfl
  · obtain ⟨b, m, n, rfl, B, hn, hm, q⟩ := h
    have hr1 := hr.mono (show 1 ≤ 2 by decide)
    obtain ⟨ts, psl, qsl⟩ : ∃ t, PSs (cxOf CX0 P w K mg base nNames "_law_names" (defScope sNames) f cdv A outer s H E).nox ((defBody sNames).drop 5) t ∧
        ∀ (way cut bg st : Nat) (z : Str) (x8 : Option V) (H1 : Hp), cut ≤ 7 → (26 < m → cut ≤ 6) → bg < 26 → st ≤ 17 → LowZ z → z.length = 7 → BoxAt H1 b (n + 11) → But b H H1 → t { nx := fun _ H' => Q .non H', rt := Q } [some (.ref b), some (.int (m : Int)), some (.str abc), some (.int (way : Int)), some (.int (cut : Int)), some (.int (bg : Int)), some (.int (st : Int)), some (.str z), x8, none, none, none] H1 := by
      refine ⟨_, pss_cons (ps_set (i := 9) scNames.nd rfl (.inl rfl) (pe_lst pa_nil))
      (pss_cons (ps_for PassesOwn.never rfl (pi_range1 rfl mr (pa_cons (pv 1) pa_nil)) (pg_name (i := 8) scNames.nd rfl (.inl rfl))
        (pss_cons (ps_set (i := 10) scNames.nd rfl (.inl rfl) (pe_item_str (pv 2) (pe_op op_mod (pe_op op_add (pv 5) (pe_op op_mul (pv 6) (pv 8))) pe_int) (fun _ _ => rfl)))
        (pss_cons (ps_set (i := 11) scNames.nd rfl (.inl rfl) (pe_op op_add_str (pe_slice sl_str (pv 7) po_none (po_some (pv 4))) (pv 10)))
        (pss_cons (ps_if (PW.pt (pw_and (pt_cmpR op_eq (pv 3) pe_int (nomark _)) (pw_and1 (pt_cmpR op_lt (pv 1) pe_int (nomark _)))))
          (pss_one (ps_set (i := 11) scNames.nd rfl (.inl rfl) (pe_op op_add_str (pv 10) (pe_slice sl_str (pv 7) po_none (po_some (pe_op op_mod (pe_op op_add (pv 4) (pe_op op_mul pe_int (pv 8))) pe_int)))))) pss_nil)
        (pss_one (ps_expr (pe_bm PySem.F.plainAttrs_list PySem.F.slot_list_append PySem.F.type_list_append mt_append (pv 9) (pa_cons
          (pe_ifExp (pt_cmpR op_lt (pv 8) pe_int (nomark _)) (pv 11) (pe_op op_add_str (pv 11) (pe_item_str (pv 2) (pe_op op_fdiv (pv 8) pe_int) (fun _ _ => rfl)))) pa_nil))))))))
      (pss_one (ps_ret (pv 9)))), ?_⟩
      intro way cut bg st z x8 H1 hcut hcut2 hbg hst hz hl B1 k1
      refine ⟨Nat.zero_le _, fun D hD => ?_⟩
      have nD := box_ne B1 hD
      have fD := free_of k1 nD hD
      refine ⟨_, rfl, _, rfl, by omega, by omega, ?_⟩
      rw [Int.toNat_natCast m]
      refine for_range (lo := 0) (n := m) (fun i σ H2 => ∃ (zs : List Str) (x8 x10 x11 : Option V), σ = [some (.ref b), some (.int (m : Int)), some (.str abc), some (.int (way : Int)), some (.int (cut : Int)), some (.int (bg : Int)), some (.int (st : Int)), some (.str z), x8, some (.ref D), x10, x11] ∧
        H2 D = some (.lst (zs.map V.str)) ∧ zs.length = i ∧ (∀ y ∈ zs, NameZ y) ∧ BoxAt H2 b (n + 11) ∧ But b H H2) ?_ ?_ ?_
      · exact ⟨[], x8, none, none, rfl, upd_same, rfl, (fun y h => nomatch h), box_new B1 hD, but_upd k1 fD⟩
      · rintro i σ H2 hi ⟨zs, x8, x10, x11, rfl, e2, hlz, hy, B2, k2⟩
        have r := emod_in ((bg : Int) + (st : Int) * (0 + (i : Int))) 26 (by decide)
        obtain ⟨j, ej, hj⟩ := draw_at r.1 r.2 (n := 26) rfl
        obtain ⟨c, hc, c97⟩ := abc_at hj
        refine ⟨_, rfl, _, rfl, _, rfl, _, rfl, _, _, rfl, rfl, .inl ⟨by omega, by omega⟩, _, _, rfl, rfl, _, _, rfl, rfl, (by show (0 : Int) < 26; decide), _, _, c, rfl, rfl, r.1, by omega, (show _ < ((26 : Nat) : Int) by omega), (by rw [ej]; exact hc), ?_⟩
        have lo := low_one c97
        have len1 : (⟨#[c]⟩ : Str).length = 1 := rfl
        generalize (⟨#[c]⟩ : Str) = lt at lo len1
        have cl := cut_len z cut
        refine ⟨_, rfl, _, rfl, _, rfl, z, rfl, small_size (by omega), _, rfl, _, _, rfl, rfl, small_size (by omega), ?_⟩
        have Y0 : LowZ (cutS z none (some (cut : Int)) ++ lt) ∧ 1 ≤ (cutS z none (some (cut : Int)) ++ lt).length ∧ (cutS z none (some (cut : Int)) ++ lt).length ≤ 8 ∧ (26 ≤ i → (cutS z none (some (cut : Int)) ++ lt).length ≤ 7) := by
          rw [app_len]
          exact ⟨(hz.cut _ _).app lo, by omega, by omega, fun _ => by omega⟩
        have r8 := emod_in ((cut : Int) + 3 * (0 + (i : Int))) 8 (by decide)
        refine ⟨_, rfl, rfl, _, rfl, ite2 (fun _ => ?_) (fun _ => ?_)⟩
        · refine ⟨_, rfl, _, _, rfl, rfl, _, rfl, ite2 (fun h27 => ?_) (fun _ => ?_)⟩
          · have hm27 : (m : Int) < 27 := of_decide_eq_true h27
            obtain ⟨j8, ej8, hj8⟩ := draw_at r8.1 r8.2 (n := 8) rfl
            have cl8 := cut_len z j8
            refine ⟨_, rfl, _, rfl, _, rfl, _, rfl, _, _, rfl, rfl, .inl ⟨by decide, by decide⟩, _, _, rfl, rfl, _, _, rfl, rfl, (by show (0 : Int) < 8; decide), _, rfl, z, rfl, small_size (by omega), _, _, rfl, rfl, ?_, ?_⟩
            · rw [ej8, len1]
              exact small_size (by omega)
            have Y : NameI (lt ++ cutS z none (some (((cut : Int) + 3 * (0 + (i : Int))) % 8))) i := by
              unfold NameI
              rw [ej8, app_len]
              exact ⟨lo.app (hz.cut _ _), by omega, by omega, fun h => by omega⟩
            revert Y
            generalize (lt ++ cutS z none (some (((cut : Int) + 3 * (0 + (i : Int))) % 8))) = y
            intro Y
            obtain ⟨y1, y2, y3, y4⟩ := Y
            have done : ∀ (u : Str) (x8 x10 x11 : Option V), NameZ u → ∃ (zs' : List Str) (x8' x10' x11' : Option V), [some (V.ref b), some (.int (m : Int)), some (.str abc), some (.int (way : Int)), some (.int (cut : Int)), some (.int (bg : Int)), some (.int (st : Int)), some (.str z), x8, some (.ref D), x10, x11] = [some (.ref b), some (.int (m : Int)), some (.str abc), some (.int (way : Int)), some (.int (cut : Int)), some (.int (bg : Int)), some (.int (st : Int)), some (.str z), x8', some (.ref D), x10', x11'] ∧
                upd H2 D (.lst (zs.map V.str ++ [.str u])) D = some (.lst (zs'.map V.str)) ∧ zs'.length = i + 1 ∧ (∀ y ∈ zs', NameZ y) ∧ BoxAt (upd H2 D (.lst (zs.map V.str ++ [.str u]))) b (n + 11) ∧ But b H (upd H2 D (.lst (zs.map V.str ++ [.str u]))) := fun u x8 x10 x11 hu => by
              refine ⟨zs ++ [u], x8, x10, x11, rfl, ?_, ?_, fun v hv => ?_, box_upd B2 nD, but_upd k2 fD⟩
              · rw [upd_same, List.map_append]
                rfl
              · rw [List.length_append, hlz]
                rfl
              · rcases List.mem_append.mp hv with hv | hv
                · exact hy v hv
                · rw [List.mem_singleton.mp hv]
                  exact hu
            have room : (zs.map V.str).length < sizeLine := by
              rw [List.length_map]
              exact small1000 (by omega)
            refine ⟨_, rfl, .inl ⟨rfl, _, .of e2⟩, _, rfl, _, _, rfl, rfl, _, rfl, ite2 (fun h26 => ?_) (fun h26 => ?_)⟩
            · exact ⟨_, rfl, D, _, _, rfl, rfl, e2, room, done y _ _ _ ⟨y1, y2, y3⟩⟩
            · have h26' : ¬ ((0 + (i : Int)) < 26) := fun h => h26 (decide_eq_true h)
              have yl := y4 (by omega)
              have hd : (0 + (i : Int)) / 26 = ((i / 26 : Nat) : Int) := by omega
              obtain ⟨c2, hc2, c297⟩ := abc_at (j := i / 26) (by omega)
              refine ⟨_, rfl, _, rfl, _, rfl, _, _, rfl, rfl, ⟨by decide, by decide⟩, _, _, c2, rfl, rfl, by omega, by omega, (show _ < ((26 : Nat) : Int) by omega), (by rw [hd]; exact hc2), _, _, rfl, rfl, ?_, D, _, _, rfl, rfl, e2, room, ?_⟩
              · show y.length + 1 ≤ sizeLine
                exact small_size (by omega)
              · have l2 : (y ++ (⟨#[c2]⟩ : Str)).length = y.length + 1 := app_len y ⟨#[c2]⟩
                exact done (y ++ ⟨#[c2]⟩) _ _ _ ⟨y1.app (low_one c297), by omega, by omega⟩
          · have Y : NameI (cutS z none (some (cut : Int)) ++ lt) i := Y0
            revert Y
            generalize (cutS z none (some (cut : Int)) ++ lt) = y
            intro Y
            obtain ⟨y1, y2, y3, y4⟩ := Y
            have done : ∀ (u : Str) (x8 x10 x11 : Option V), NameZ u → ∃ (zs' : List Str) (x8' x10' x11' : Option V), [some (V.ref b), some (.int (m : Int)), some (.str abc), some (.int (way : Int)), some (.int (cut : Int)), some (.int (bg : Int)), some (.int (st : Int)), some (.str z), x8, some (.ref D), x10, x11] = [some (.ref b), some (.int (m : Int)), some (.str abc), some (.int (way : Int)), some (.int (cut : Int)), some (.int (bg : Int)), some (.int (st : Int)), some (.str z), x8', some (.ref D), x10', x11'] ∧
                upd H2 D (.lst (zs.map V.str ++ [.str u])) D = some (.lst (zs'.map V.str)) ∧ zs'.length = i + 1 ∧ (∀ y ∈ zs', NameZ y) ∧ BoxAt (upd H2 D (.lst (zs.map V.str ++ [.str u]))) b (n + 11) ∧ But b H (upd H2 D (.lst (zs.map V.str ++ [.str u]))) := fun u x8 x10 x11 hu => by
              refine ⟨zs ++ [u], x8, x10, x11, rfl, ?_, ?_, fun v hv => ?_, box_upd B2 nD, but_upd k2 fD⟩
              · rw [upd_same, List.map_append]
                rfl
              · rw [List.length_append, hlz]
                rfl
              · rcases List.mem_append.mp hv with hv | hv
                · exact hy v hv
                · rw [List.mem_singleton.mp hv]
                  exact hu
            have room : (zs.map V.str).length < sizeLine := by
              rw [List.length_map]
              exact small1000 (by omega)
            refine ⟨_, rfl, .inl ⟨rfl, _, .of e2⟩, _, rfl, _, _, rfl, rfl, _, rfl, ite2 (fun h26 => ?_) (fun h26 => ?_)⟩
            · exact ⟨_, rfl, D, _, _, rfl, rfl, e2, room, done y _ _ _ ⟨y1, y2, y3⟩⟩
            · have h26' : ¬ ((0 + (i : Int)) < 26) := fun h => h26 (decide_eq_true h)
              have yl := y4 (by omega)
              have hd : (0 + (i : Int)) / 26 = ((i / 26 : Nat) : Int) := by omega
              obtain ⟨c2, hc2, c297⟩ := abc_at (j := i / 26) (by omega)
              refine ⟨_, rfl, _, rfl, _, rfl, _, _, rfl, rfl, ⟨by decide, by decide⟩, _, _, c2, rfl, rfl, by omega, by omega, (show _ < ((26 : Nat) : Int) by omega), (by rw [hd]; exact hc2), _, _, rfl, rfl, ?_, D, _, _, rfl, rfl, e2, room, ?_⟩
              · show y.length + 1 ≤ sizeLine
                exact small_size (by omega)
              · have l2 : (y ++ (⟨#[c2]⟩ : Str)).length = y.length + 1 := app_len y ⟨#[c2]⟩
                exact done (y ++ ⟨#[c2]⟩) _ _ _ ⟨y1.app (low_one c297), by omega, by omega⟩
        · have Y : NameI (cutS z none (some (cut : Int)) ++ lt) i := Y0
          revert Y
          generalize (cutS z none (some (cut : Int)) ++ lt) = y
          intro Y
          obtain ⟨y1, y2, y3, y4⟩ := Y
          have done : ∀ (u : Str) (x8 x10 x11 : Option V), NameZ u → ∃ (zs' : List Str) (x8' x10' x11' : Option V), [some (V.ref b), some (.int (m : Int)), some (.str abc), some (.int (way : Int)), some (.int (cut : Int)), some (.int (bg : Int)), some (.int (st : Int)), some (.str z), x8, some (.ref D), x10, x11] = [some (.ref b), some (.int (m : Int)), some (.str abc), some (.int (way : Int)), some (.int (cut : Int)), some (.int (bg : Int)), some (.int (st : Int)), some (.str z), x8', some (.ref D), x10', x11'] ∧
              upd H2 D (.lst (zs.map V.str ++ [.str u])) D = some (.lst (zs'.map V.str)) ∧ zs'.length = i + 1 ∧ (∀ y ∈ zs', NameZ y) ∧ BoxAt (upd H2 D (.lst (zs.map V.str ++ [.str u]))) b (n + 11) ∧ But b H (upd H2 D (.lst (zs.map V.str ++ [.str u]))) := fun u x8 x10 x11 hu => by
            refine ⟨zs ++ [u], x8, x10, x11, rfl, ?_, ?_, fun v hv => ?_, box_upd B2 nD, but_upd k2 fD⟩
            · rw [upd_same, List.map_append]
              rfl
            · rw [List.length_append, hlz]
              rfl
            · rcases List.mem_append.mp hv with hv | hv
              · exact hy v hv
              · rw [List.mem_singleton.mp hv]
                exact hu
          have room : (zs.map V.str).length < sizeLine := by
            rw [List.length_map]
            exact small1000 (by omega)
          refine ⟨_, rfl, .inl ⟨rfl, _, .of e2⟩, _, rfl, _, _, rfl, rfl, _, rfl, ite2 (fun h26 => ?_) (fun h26 => ?_)⟩
          · exact ⟨_, rfl, D, _, _, rfl, rfl, e2, room, done y _ _ _ ⟨y1, y2, y3⟩⟩
          · have h26' : ¬ ((0 + (i : Int)) < 26) := fun h => h26 (decide_eq_true h)
            have yl := y4 (by omega)
            have hd : (0 + (i : Int)) / 26 = ((i / 26 : Nat) : Int) := by omega
            obtain ⟨c2, hc2, c297⟩ := abc_at (j := i / 26) (by omega)
            refine ⟨_, rfl, _, rfl, _, rfl, _, _, rfl, rfl, ⟨by decide, by decide⟩, _, _, c2, rfl, rfl, by omega, by omega, (show _ < ((26 : Nat) : Int) by omega), (by rw [hd]; exact hc2), _, _, rfl, rfl, ?_, D, _, _, rfl, rfl, e2, room, ?_⟩
            · show y.length + 1 ≤ sizeLine
              exact small_size (by omega)
            · have l2 : (y ++ (⟨#[c2]⟩ : Str)).length = y.length + 1 := app_len y ⟨#[c2]⟩
              exact done (y ++ ⟨#[c2]⟩) _ _ _ ⟨y1.app (low_one c297), by omega, by omega⟩
      · rintro σ H2 ⟨zs, x8, x10, x11, rfl, e2, hlz, hy, B2, k2⟩
        exact ⟨_, rfl, q D H2 zs hlz hy fD e2 (B2.mono (by omega)) k2⟩
    obtain ⟨tl, pl, ql⟩ : ∃ t, PSs (cxOf CX0 P w K mg base nNames "_law_names" (defScope sNames) f cdv A outer s H E).nox ((defBody sNames).drop 2) t ∧
        ∀ (way cut bg : Nat) (H1 : Hp), cut ≤ 7 → (26 < m → cut ≤ 6) → bg < 26 → BoxAt H1 b (n + 3) → But b H H1 → t { nx := fun _ H' => Q .non H', rt := Q } [some (.ref b), some (.int (m : Int)), some (.str abc), some (.int (way : Int)), some (.int (cut : Int)), some (.int (bg : Int)), none, none, none, none, none, none] H1 := by
      refine ⟨_, pss_cons (ps_asg (pe_tup (pa_cons (pe_ix ix_list (pe_lst (pa_cons pe_int (pa_cons pe_int (pa_cons pe_int (pa_cons pe_int (pa_cons pe_int (pa_cons pe_int (pa_cons pe_int (pa_cons pe_int pa_nil)))))))))
          (pe_call GT hr1 rfl gT T.kp bT .nil pass0 (pa_cons (pv 0) (pa_cons pe_int pa_nil))) (fun _ _ => rfl)) (pa_cons pe_str pa_nil)))
        (pg_tup (by rfl) (pgs_cons (pg_name (i := 6) scNames.nd rfl (.inl rfl)) (pgs_cons (pg_name (i := 7) scNames.nd rfl (.inr rfl)) pgs_nil))))
      (pss_cons (ps_for PassesOwn.never rfl (pi_range1 rfl mr (pa_cons pe_int pa_nil)) (pg_name (i := 8) scNames.nd rfl (.inl rfl))
        (pss_one (ps_set (i := 7) scNames.nd rfl (.inr rfl) (pe_op op_add_str (pv 7) (pe_item_str (pv 2) (pe_call GT hr1 rfl gT T.kp bT .nil pass0 (pa_cons (pv 0) (pa_cons pe_int pa_nil))) (fun _ _ => rfl))))))
      (pss_cons (ps_if (PW.pt (pw_and (pt_cmpR op_eq (pv 3) pe_int (nomark _)) (pw_and1 (pt_cmpR op_lt (pv 1) pe_int (nomark _)))))
        (pss_one (ps_ret (pe_call GM hr rfl gM M.kp bM .nil pass0 (pa_cons (pv 0) (pa_cons (pe_lc (own := [("_law_k", 8)]) (g := gName 8) (tt := tYes) (by rfl) scNames.nd (pi_range1 rfl mr (pa_cons (pv 1) pa_nil))
          (blkOk_by (own := [("_law_k", 8)]) (N := nNames) (sc := defScope sNames) (by decide +kernel)) (fun _ _ _ _ _ => pg_name (i := 8) scNames.nd rfl (.inl rfl)) (fun _ _ _ _ _ => pts_nil)
          (fun _ _ _ _ _ => pe_slice sl_str (pe_op op_add_str (pv 7) (pe_item_str (pv 2) (pv 5) (fun _ _ => rfl))) po_none (po_some (pe_op op_add (pv 8) pe_int)))) pa_nil))))) pss_nil)
      psl)), ?_⟩
      intro way cut bg H1 hcut hcut2 hbg B1 k1
      refine ⟨(by show 8 ≤ sizeLine; decide), fun p1 hp1 => ?_⟩
      have np1 := box_ne B1 hp1
      refine ⟨_, rfl, b, 8, n + 3, rfl, box_new B1 hp1, by omega, by decide, by decide, fun r H2 r0 r1 B2 k2 => ?_⟩
      obtain ⟨j, rfl, hj⟩ := draw_at (n := 8) r0 r1 rfl
      have e2 := k2 _ _ np1 upd_same
      have kk2 : But b H H2 := (k1.trans (But.new hp1)).trans k2
      obtain ⟨st, hst, hst17⟩ : ∃ st : Nat, ([.int 1, .int 3, .int 5, .int 7, .int 9, .int 11, .int 15, .int 17] : List V)[j]? = some (.int (st : Int)) ∧ st ≤ 17 := by
        match j, hj with
        | 0, _ => exact ⟨1, rfl, by decide⟩
        | 1, _ => exact ⟨3, rfl, by decide⟩
        | 2, _ => exact ⟨5, rfl, by decide⟩
        | 3, _ => exact ⟨7, rfl, by decide⟩
        | 4, _ => exact ⟨9, rfl, by decide⟩
        | 5, _ => exact ⟨11, rfl, by decide⟩
        | 6, _ => exact ⟨15, rfl, by decide⟩
        | 7, _ => exact ⟨17, rfl, by decide⟩
      refine ⟨p1, _, _, .int (st : Int), rfl, rfl, .of e2, atI_nat hst, (by show 2 ≤ sizeLine; decide), fun p2 hp2 => ?_⟩
      have np2 := box_ne B2 hp2
      refine ⟨p2, _, rfl, .of upd_same, rfl, _, _, rfl, _, _, rfl, rfl, ?_⟩
      have B3 : BoxAt (upd H2 p2 (.tup [.int (st : Int), .str ""])) b (n + 4) := box_new B2 hp2
      have k3 : But b H (upd H2 p2 (.tup [.int (st : Int), .str ""])) := kk2.trans (But.new hp2)
      generalize upd H2 p2 (.tup [.int (st : Int), .str ""]) = H3 at B3 k3
      -- the stem
      refine ⟨_, rfl, by decide, by decide, ?_⟩
      refine for_range (lo := 0) (n := 7) (fun i σ H4 => ∃ (z : Str) (x8 : Option V), σ = [some (.ref b), some (.int (m : Int)), some (.str abc), some (.int (way : Int)), some (.int (cut : Int)), some (.int (bg : Int)), some (.int (st : Int)), some (.str z), x8, none, none, none] ∧ LowZ z ∧ z.length = i ∧ BoxAt H4 b (n + 4 + i) ∧ But b H H4) ?_ ?_ ?_
      · exact ⟨"", none, rfl, (fun c h => nomatch h), rfl, B3, k3⟩
      · rintro i σ H4 hi ⟨z, x8, rfl, hz, hl, B4, k4⟩
        refine ⟨_, rfl, _, rfl, _, rfl, b, 26, n + 4 + i, rfl, B4, by omega, by decide, by decide, fun r H5 r0 r1 B5 k5 => ?_⟩
        obtain ⟨j, rfl, hj⟩ := draw_at (n := 26) r0 r1 rfl
        obtain ⟨c, hc, c97⟩ := abc_at hj
        refine ⟨_, _, c, rfl, rfl, by omega, by omega, (show ((j : Nat) : Int) < ((26 : Nat) : Int) by omega), hc, ?_⟩
        refine ⟨_, _, rfl, rfl, ?_, ?_⟩
        · show z.length + 1 ≤ sizeLine
          rw [sizeLine_eq]
          omega
        · refine ⟨z ++ ⟨#[c]⟩, _, rfl, hz.app (low_one c97), ?_, B5, k4.trans k5⟩
          rw [app_len, hl]
          rfl
      · rintro σ H4 ⟨z, x8, rfl, hz, hl, B4, k4⟩
        -- from here on two ways
        have namesOf : ∀ (zs : List Str) (qs : List Vd), qs.Perm (zs.map fun z => (V.str z, PyData.str z)) → (∀ z ∈ zs, NameZ z) →
            ∃ ys : List Str, qs.map (·.1) = ys.map V.str ∧ ys.length = zs.length ∧ ∀ y ∈ ys, NameZ y := fun zs qs pm hz => by
          have each : ∀ x ∈ qs, ∃ y, x = (V.str y, PyData.str y) ∧ NameZ y := fun x hx => by
            obtain ⟨y, hy, e⟩ := List.mem_map.mp (pm.mem_iff.mp hx)
            exact ⟨y, e.symm, hz y hy⟩
          have hlen : qs.length = zs.length := by
            rw [pm.length_eq, List.length_map]
          rw [← hlen]
          clear pm hlen
          induction qs with
          | nil => exact ⟨[], rfl, rfl, fun y hy => nomatch hy⟩
          | cons x qs ih =>
            obtain ⟨y, rfl, hy⟩ := each x List.mem_cons_self
            obtain ⟨ys, e1, e2, e3⟩ := ih fun x hx => each x (List.mem_cons_of_mem _ hx)
            refine ⟨y :: ys, ?_, congrArg (· + 1) e2, fun u hu => ?_⟩
            · rw [List.map_cons, e1]
              rfl
            · rcases List.mem_cons.mp hu with rfl | hu
              · exact hy
              · exact e3 u hu
        have mInt : (m : Int).toNat = m := Int.toNat_natCast m
        refine ⟨_, rfl, rfl, _, rfl, ite2 (fun _ => ?_) (fun _ => ?_)⟩
        · refine ⟨_, rfl, _, _, rfl, rfl, _, rfl, ite2 (fun h9 => ?_) (fun _ => ?_)⟩
          · have hm9 : (m : Int) < 9 := of_decide_eq_true h9
            refine ⟨_, rfl, _, rfl, _, rfl, by omega, by omega, fun D hD => ?_⟩
            have nD := box_ne B4 hD
            have fD := free_of k4 nD hD
            rw [mInt]
            refine lc_range (lo := 0) (n := m) (fun i H5 => ∃ ys : List Str, H5 D = some (.lst (ys.map V.str)) ∧ ys.length = i ∧ (∀ y ∈ ys, NameZ y) ∧ BoxAt H5 b (n + 11) ∧ But b H H5) ?_ ?_ ?_
            · exact ⟨[], upd_same, rfl, (fun y h => nomatch h), box_new B4 hD, but_upd k4 fD⟩
            · rintro i H5 hi ⟨ys, e5, hl5, hy, B5, k5⟩
              refine ⟨rfl, ?_⟩
              unfold tYes
              dsimp only
              rw [if_pos rfl]
              obtain ⟨c, hc, c97⟩ := abc_at hbg
              refine ⟨_, rfl, _, rfl, _, rfl, _, _, c, rfl, rfl, by omega, by omega, (show ((bg : Nat) : Int) < ((26 : Nat) : Int) by omega), hc, _, _, rfl, rfl, ?_, ?_⟩
              · show z.length + 1 ≤ sizeLine
                rw [sizeLine_eq]
                omega
              have lz : (z ++ ⟨#[c]⟩).length = 8 := by
                rw [app_len, hl]
                rfl
              refine ⟨_, rfl, _, _, rfl, rfl, _, rfl, _, rfl, small_size (by omega), ?_⟩
              have e0 : (0 + (i : Int) + 1 : Int) = ((i + 1 : Nat) : Int) := by omega
              rw [e0]
              have cl := cut_len (z ++ ⟨#[c]⟩) (i + 1)
              refine ⟨_, e5, ?_, ys ++ [cutS (z ++ ⟨#[c]⟩) none (some ((i + 1 : Nat) : Int))], ?_, ?_, ?_, ?_, ?_⟩
              · rw [List.length_map]
                exact small1000 (by omega)
              · rw [upd_same, List.map_append]
                rfl
              · rw [List.length_append, hl5]
                rfl
              · intro y h
                rcases List.mem_append.mp h with h | h
                · exact hy y h
                · rw [List.mem_singleton.mp h]
                  exact ⟨(hz.app (low_one c97)).cut _ _, by omega, by omega⟩
              · exact box_upd B5 nD
              · exact but_upd k5 fD
            · rintro H5 ⟨ys, e5, hl5, hy, B5, k5⟩
              refine ⟨b, D, n + 11, ys.map fun z => (V.str z, PyData.str z), rfl, B5, ?_, .inl (.of ?_), ?_, fun p H6 qs pm np e6 B6 k6 => ?_⟩
              · rw [List.length_map]
                omega
              · rw [e5, List.map_map]
                rfl
              · intro x hx
                obtain ⟨y, hyy, rfl⟩ := List.mem_map.mp hx
                exact ⟨(hy y hyy).1.lay, fun H' _ => .str y⟩
              · obtain ⟨us, u1, u2, u3⟩ := namesOf ys qs pm hy
                rw [u1] at e6
                rw [List.length_map, hl5] at B6
                exact q p H6 us (u2.trans hl5) u3 (free_of k5 (box_ne B5 np) np) e6 B6 (k5.trans k6)
          · exact qsl way cut bg st z x8 H4 hcut hcut2 hbg hst17 hz hl B4 k4
        · exact qsl way cut bg st z x8 H4 hcut hcut2 hbg hst17 hz hl B4 k4
    refine ⟨_, pss_cons (ps_set (i := 2) scNames.nd rfl (.inr rfl) pe_str)
      (pss_cons (ps_asg (pe_tup (pa_cons (pe_call GT hr1 rfl gT T.kp bT .nil pass0 (pa_cons (pv 0) (pa_cons pe_int pa_nil)))
          (pa_cons (pe_call GT hr1 rfl gT T.kp bT .nil pass0 (pa_cons (pv 0) (pa_cons (pe_ifExp (pt_cmpR op_lt (pv 1) pe_int (nomark _)) pe_int pe_int) pa_nil)))
          (pa_cons (pe_call GT hr1 rfl gT T.kp bT .nil pass0 (pa_cons (pv 0) (pa_cons pe_int pa_nil))) pa_nil))))
        (pg_tup (by rfl) (pgs_cons (pg_name (i := 3) scNames.nd rfl (.inl rfl)) (pgs_cons (pg_name (i := 4) scNames.nd rfl (.inl rfl)) (pgs_cons (pg_name (i := 5) scNames.nd rfl (.inr rfl)) pgs_nil))))) pl), ?_⟩
    refine ⟨_, rfl, b, 4, n, rfl, B, by omega, by decide, by decide, fun way H1 w0 w1 B1 k1 => ?_⟩
    obtain ⟨way, rfl, _⟩ := draw_at (n := 4) w0 w1 rfl
    refine ⟨_, rfl, _, rfl, _, _, rfl, rfl, _, rfl, ite2 (fun hm27 => ?_) (fun hm27 => ?_)⟩
    · refine ⟨b, 8, n + 1, rfl, B1, by omega, by decide, by decide, fun cut H2 c0 c1 B2 k2 => ?_⟩
      obtain ⟨cut, rfl, hcut⟩ := draw_at (n := 8) c0 c1 rfl
      refine ⟨_, rfl, b, 26, n + 2, rfl, B2, by omega, by decide, by decide, fun bg H3 g0 g1 B3 k3 => ?_⟩
      obtain ⟨bg, rfl, hbg⟩ := draw_at (n := 26) g0 g1 rfl
      refine ⟨(by show 3 ≤ sizeLine; decide), fun p hp => ⟨p, _, rfl, .of upd_same, rfl, _, _, rfl, _, _, rfl, _, _, rfl, rfl, ?_⟩⟩
      have hm' : (m : Int) < 27 := of_decide_eq_true hm27
      exact ql way cut bg _ (by omega) (by omega) hbg (box_new B3 hp) (((k1.trans k2).trans k3).trans (But.new hp))
    · refine ⟨b, 7, n + 1, rfl, B1, by omega, by decide, by decide, fun cut H2 c0 c1 B2 k2 => ?_⟩
      obtain ⟨cut, rfl, hcut⟩ := draw_at (n := 7) c0 c1 rfl
      refine ⟨_, rfl, b, 26, n + 2, rfl, B2, by omega, by decide, by decide, fun bg H3 g0 g1 B3 k3 => ?_⟩
      obtain ⟨bg, rfl, hbg⟩ := draw_at (n := 26) g0 g1 rfl
      refine ⟨(by show 3 ≤ sizeLine; decide), fun p hp => ⟨p, _, rfl, .of upd_same, rfl, _, _, rfl, _, _, rfl, _, _, rfl, rfl, ?_⟩⟩
      exact ql way cut bg _ (by omega) (by omega) hbg (box_new B3 hp) (((k1.trans k2).trans k3).trans (But.new hp))
end
end G
set_option Elab.async false
set_option linter.all false
set_option maxRecDepth 100000
set_option maxHeartbeats 2000000
/-! V5: a drawn number, a drawn value of some fields. -/
namespace G
open PySem PySem.Spec PyProof.Rows L2
abbrev sNumber : Stmt := topS 51
abbrev sValue : Stmt := topS 52
theorem scNumber : FnScope ["_law_box_here", "_law_some"] ["_law_box_here"] (defScope sNumber) := ⟨rfl, rfl, rfl, by decide +kernel, rfl, by decide +kernel, by decide +kernel⟩
theorem scValue : FnScope ["_law_box_here", "_law_fields", "_law_found", "_law_part"] ["_law_box_here", "_law_fields"] (defScope sValue) := ⟨rfl, rfl, rfl, by decide +kernel, rfl, by decide +kernel, by decide +kernel⟩
def spNumber : Sp := fun vs H Q _ => ∃ (b : Addr) (n : Nat), vs = [.ref b] ∧ BoxAt H b n ∧ n ≤ 90000 ∧ ∀ (i : Int) (H' : Hp), -999 ≤ i → i ≤ 999 → BoxAt H' b (n + 3) → But b H H' → Q (.int i) H'
/-- some of the fields, each with a number -/
def ValN (zs : List Str) (kvs : List (Key × V)) : Prop := ∀ p ∈ kvs, ∃ z i, p = (Sum.inr z, V.int i) ∧ z ∈ zs ∧ -999 ≤ i ∧ i ≤ 999
def spValue (K : PySem.W.Frag) : Sp := fun vs H Q _ => ∃ (b a : Addr) (n : Nat) (zs : List Str), vs = [.ref b, .ref a] ∧ BoxAt H b n ∧ n ≤ 80000 ∧ H a = some (.lst (zs.map V.str)) ∧ (∀ z ∈ zs, NameZ z) ∧ 1 ≤ zs.length ∧ zs.length ≤ 100 ∧ a ≠ b ∧
  ∀ (p : Addr) (H' : Hp) (kvs : List (Key × V)), H p = none → H' p = some (.dK kvs) → ValN zs kvs → 1 ≤ kvs.length → kvs.length ≤ 6 → kvs.length ≤ zs.length → BoxAt H' b (n + 201 + 3 * 6) → But b H H' → Q (.ref p) H'
/-- an order of texts is made of these texts -/
theorem texts_of : ∀ {zs : List Str} {qs : List Vd}, qs.Perm (zs.map fun z => (V.str z, PyData.str z)) → ∃ ys : List Str, qs.map (·.1) = ys.map V.str ∧ ys.length = zs.length ∧ ∀ y ∈ ys, y ∈ zs := by
  intro zs qs pm
  have each : ∀ x ∈ qs, ∃ y, x = (V.str y, PyData.str y) ∧ y ∈ zs := fun x hx => by
    obtain ⟨y, hy, e⟩ := List.mem_map.mp (pm.mem_iff.mp hx)
    exact ⟨y, e.symm, hy⟩
  have hlen : qs.length = zs.length := by
    rw [pm.length_eq, List.length_map]
  rw [← hlen]
  clear pm hlen
  induction qs with
  | nil => exact ⟨[], rfl, rfl, fun y hy => nomatch hy⟩
  | cons x qs ih =>
    obtain ⟨y, rfl, hy⟩ := each x List.mem_cons_self
    obtain ⟨ys, e1, e2, e3⟩ := ih fun x hx => each x (List.mem_cons_of_mem _ hx)
    refine ⟨y :: ys, ?_, congrArg (· + 1) e2, fun u hu => ?_⟩
    · rw [List.map_cons, e1]
      rfl
    · rcases List.mem_cons.mp hu with rfl | hu
      · exact hy
      · exact e3 u hu
theorem mem_putK {kvs : List (Key × V)} {k : Key} {v : V} {p : Key × V} (h : p ∈ putK kvs k v) : p = (k, v) ∨ p ∈ kvs := by
  unfold putK at h
  split at h
  · obtain ⟨q, hq, e⟩ := List.mem_map.mp h
    by_cases z : q.1 = k
    · rw [if_pos z] at e
      left
      rw [← e, z]
    · rw [if_neg z] at e
      right
      rw [← e]
      exact hq
  · rcases List.mem_append.mp h with h | h
    · exact .inr h
    · exact .inl (List.mem_singleton.mp h)
theorem putK_pos (kvs : List (Key × V)) (k : Key) (v : V) : 1 ≤ (putK kvs k v).length := by
  unfold putK
  split
  · rename_i h
    obtain ⟨x, hx, _⟩ := List.any_eq_true.mp h
    rw [List.length_map]
    exact List.length_pos_of_mem hx
  · rw [List.length_append]
    exact Nat.le_add_left 1 _
theorem ValN.put {zs : List Str} {kvs : List (Key × V)} (h : ValN zs kvs) {z : Str} {i : Int} (hz : z ∈ zs) (h1 : -999 ≤ i) (h2 : i ≤ 999) : ValN zs (putK kvs (Sum.inr z) (.int i)) := fun p hp => by
  rcases mem_putK hp with e | hp
  · exact ⟨z, i, e, hz, h1, h2⟩
  · exact h p hp
theorem cutV_first (xs : List V) (k : Nat) (h : k ≤ xs.length) : cutV xs none (some (k : Int)) = xs.take k := by
  unfold cutV
  rw [HT.sIx_none, HT.sIx_nat, List.drop_zero, Nat.min_eq_left h, Nat.sub_zero]
section
variable {P : Program} {w : World} {K : PySem.W.Frag} {mg : Str → Option Value} {base : Heap}
theorem ok_number {f fT : Addr} {fd fdT : FuncData} (F : Fun K "_law_number" "_law_number" sNumber f fd) (T : Fun K "_law_take" "_law_take" sTake fT fdT) (bT : Binds K fdT ["_law_box_here", "_law_many"] []) (gT : mg "_law_take" = some (.ref fT)) :
    FnOk P w K mg base CX0 2 f fd ["_law_box_here"] spNumber := by
  have GT : FnOk P w K mg base CX0 1 fT fdT ["_law_box_here", "_law_many"] spTake := ok_take T
  refine F.ok scNumber (fun vs H Q E h => ?_) (fun cdv A outer s H vs Q E hr h => ?_)
  · obtain ⟨b, n, rfl, _⟩ := h
    rfl
  · obtain ⟨b, n, rfl, B, hn, q⟩ := h
    refine ⟨_, pss_cons (ps_set (i := 1) scNumber.nd rfl (.inl rfl) (pe_lst (pa_cons pe_int (pa_cons pe_int (pa_cons (pe_un un_neg pe_int) (pa_cons pe_int (pa_cons pe_int (pa_cons (pe_un un_neg pe_int)
        (pa_cons (pe_op op_sub (pe_call GT hr rfl gT T.kp bT .nil pass0 (pa_cons (pv 0) (pa_cons pe_int pa_nil))) pe_int) (pa_cons (pe_op op_sub (pe_call GT hr rfl gT T.kp bT .nil pass0 (pa_cons (pv 0) (pa_cons pe_int pa_nil))) pe_int) pa_nil))))))))))
      (pss_one (ps_ret (pe_ix ix_list (pv 1) (pe_call GT hr rfl gT T.kp bT .nil pass0 (pa_cons (pv 0) (pa_cons pe_int pa_nil))) (fun _ _ => rfl)))), ?_⟩
    refine ⟨_, rfl, _, rfl, _, rfl, b, 21, n, rfl, B, by omega, by decide, by decide, fun r1 H1 a0 a1 B1 k1 => ⟨_, _, rfl, rfl, _, rfl, b, 1999, n + 1, rfl, B1, by omega, by decide, by decide, fun r2 H2 c0 c1 B2 k2 => ⟨_, _, rfl, rfl, (by show 8 ≤ sizeLine; decide), fun p hp => ?_⟩⟩⟩
    have np := box_ne B2 hp
    refine ⟨_, rfl, _, rfl, b, 8, n + 2, rfl, box_new B2 hp, by omega, by decide, by decide, fun r3 H3 d0 d1 B3 k3 => ?_⟩
    obtain ⟨j, rfl, hj⟩ := draw_at (n := 8) d0 d1 rfl
    have e3 := k3 _ _ np upd_same
    obtain ⟨i, hi, h1, h2⟩ : ∃ i : Int, ([.int 0, .int 1, .int (-1), .int 2, .int 999, .int (-999), .int (r1 - 10), .int (r2 - 999)] : List V)[j]? = some (.int i) ∧ -999 ≤ i ∧ i ≤ 999 := by
      match j, hj with
      | 0, _ => exact ⟨0, rfl, by decide, by decide⟩
      | 1, _ => exact ⟨1, rfl, by decide, by decide⟩
      | 2, _ => exact ⟨-1, rfl, by decide, by decide⟩
      | 3, _ => exact ⟨2, rfl, by decide, by decide⟩
      | 4, _ => exact ⟨999, rfl, by decide, by decide⟩
      | 5, _ => exact ⟨-999, rfl, by decide, by decide⟩
      | 6, _ => exact ⟨r1 - 10, rfl, by omega, by omega⟩
      | 7, _ => exact ⟨r2 - 999, rfl, by omega, by omega⟩
    exact ⟨p, _, _, .int i, rfl, rfl, .of e3, atI_nat hi, q i H3 h1 h2 B3 (((k1.trans k2).trans (But.new hp)).trans k3)⟩
theorem ok_value {f fT fM fN : Addr} {fd fdT fdM fdN : FuncData} (F : Fun K "_law_value" "_law_value" sValue f fd) (T : Fun K "_law_take" "_law_take" sTake fT fdT) (bT : Binds K fdT ["_law_box_here", "_law_many"] []) (gT : mg "_law_take" = some (.ref fT))
    (M : Fun K "_law_mixed" "_law_mixed" sMixed fM fdM) (bM : Binds K fdM ["_law_box_here", "_law_some"] []) (gM : mg "_law_mixed" = some (.ref fM))
    (Nm : Fun K "_law_number" "_law_number" sNumber fN fdN) (bN : Binds K fdN ["_law_box_here"] []) (gN : mg "_law_number" = some (.ref fN)) (ml : mg "len" = none) (mL : mg "list" = none) (mm : mg "min" = none) :
    FnOk P w K mg base CX0 3 f fd ["_law_box_here", "_law_fields"] (spValue K) := by
  have GT : FnOk P w K mg base CX0 1 fT fdT ["_law_box_here", "_law_many"] spTake := ok_take T
  have GM : FnOk P w K mg base CX0 2 fM fdM ["_law_box_here", "_law_some"] (spMixed K) := ok_mixed M T bT gT ml mL
  have GN : FnOk P w K mg base CX0 2 fN fdN ["_law_box_here"] spNumber := ok_number Nm T bT gT
  refine F.ok scValue (fun vs H Q E h => ?_) (fun cdv A outer s H vs Q E hr h => ?_)
  · obtain ⟨b, a, n, zs, rfl, _⟩ := h
    rfl
  · obtain ⟨b, a, n, zs, rfl, B, hn, hS, hz, l1, l100, nab, q⟩ := h
    have hr1 := hr.mono (show 1 ≤ 2 by decide)
    have hu := hu_of hr
    refine ⟨_, pss_cons (ps_set (i := 2) scValue.nd rfl (.inl rfl) pe_dnewK)
      (pss_cons (ps_for PassesOwn.never rfl (pi_list (pe_slice sl_list (pe_call GM hr rfl gM M.kp bM .nil pass0 (pa_cons (pv 0) (pa_cons (pv 1) pa_nil))) po_none
          (po_some (pe_op op_add pe_int (pe_call GT hr1 rfl gT T.kp bT .nil pass0 (pa_cons (pv 0) (pa_cons (pe_callB (call_min2 rfl) (by rfl) mm (by decide +kernel) (pa_cons pe_int (pa_cons (pe_callB call_len_seq (by rfl) ml PySem.boot_len (pa_cons (pv 1) pa_nil)) pa_nil))) pa_nil)))))))
        (pg_name (i := 3) scValue.nd rfl (.inl rfl))
        (pss_one (ps_dput hu (pv 2) (pv 3) (pe_call GN hr rfl gN Nm.kp bN .nil pass0 (pa_cons (pv 0) pa_nil)) rfl)))
      (pss_one (ps_ret (pv 2)))), ?_⟩
    intro d hd
    have nd := box_ne B hd
    refine ⟨_, rfl, _, rfl, b, a, n, zs.map fun z => (V.str z, PyData.str z), rfl, box_new B hd, ?_, .inl ?_, ?_, fun p H1 qs pm np e1 B1 k1 => ?_⟩
    · rw [List.length_map]
      omega
    · refine .of ?_
      rw [upd_ne (ne_of_none hS hd), hS, List.map_map]
      rfl
    · intro x hx
      obtain ⟨y, hyy, rfl⟩ := List.mem_map.mp hx
      exact ⟨(hz y hyy).1.lay, fun H' _ => .str y⟩
    · obtain ⟨ys, y1, y2, y3⟩ := texts_of pm
      rw [y1] at e1
      rw [List.length_map] at B1
      have nda : a ≠ d := ne_of_none hS hd
      have ea1 : H1 a = some (.lst (zs.map V.str)) := k1 _ _ nab ((upd_ne nda).trans hS)
      have ed1 : H1 d = some (.dK []) := k1 _ _ nd upd_same
      have kk1 : But b H H1 := (But.new hd).trans k1
      have npb : p ≠ b := by
        obtain ⟨x, y, z, e, _⟩ := B
        exact box_ne (box_new ⟨x, y, z, e, ‹_›⟩ hd) np
      have fp : H p = none := by
        by_cases z : p = d
        · rw [z] at np
          rw [upd_same] at np
          cases np
        · rwa [upd_ne z] at np
      have hmin : ∃ mn : Nat, (if ((List.map V.str zs).length : Int) < 6 then ((List.map V.str zs).length : Int) else 6) = (mn : Int) ∧ 1 ≤ mn ∧ mn ≤ 6 ∧ mn ≤ zs.length := by
        rw [List.length_map]
        by_cases h : (zs.length : Int) < 6
        · exact ⟨zs.length, if_pos h, l1, by omega, Nat.le_refl _⟩
        · exact ⟨6, if_neg h, by decide, by decide, by omega⟩
      obtain ⟨mn, emn, mn1, mn6, mnl⟩ := hmin
      refine ⟨_, rfl, _, rfl, a, _, rfl, .inl (.of ea1), _, _, rfl, ?_⟩
      rw [emn]
      refine ⟨b, mn, n + zs.length, rfl, B1, by omega, by omega, by omega, fun r H2 r0 r1 B2 k2 => ?_⟩
      obtain ⟨j, rfl, hj⟩ := draw_at (n := mn) r0 r1 rfl
      have e2 := k2 _ _ npb e1
      have ed2 := k2 _ _ nd ed1
      refine ⟨_, _, rfl, rfl, _, rfl, p, _, rfl, .of e2, fun p2 np2 => ?_⟩
      have ej : (1 + (j : Int) : Int) = ((1 + j : Nat) : Int) := by omega
      rw [ej, cutV_first _ (1 + j) (by rw [List.length_map]; omega), ← List.map_take]
      have nb2 := box_ne B2 np2
      have nd2 : d ≠ p2 := ne_of_none ed2 np2
      have kk2 : But b H H2 := kk1.trans k2
      have f2 : H p2 = none := free_of kk2 nb2 np2
      refine ⟨p2, rfl, ⟨_, .of upd_same⟩, ?_⟩
      have tl : ((ys.take (1 + j)).map V.str).length = 1 + j := by
        rw [List.length_map, List.length_take]
        omega
      refine for_list (xs := (ys.take (1 + j)).map V.str) (fun i σ H3 => ∃ (kvs : List (Key × V)) (x3 : Option V), σ = [some (.ref b), some (.ref a), some (.ref d), x3] ∧ H3 d = some (.dK kvs) ∧ ValN zs kvs ∧ kvs.length ≤ i ∧ (1 ≤ i → 1 ≤ kvs.length) ∧
        H3 p2 = some (.lst ((ys.take (1 + j)).map V.str)) ∧ BoxAt H3 b (n + zs.length + 1 + 3 * i) ∧ But b H H3) ?_ ?_ ?_ ?_
      · refine ⟨[], none, rfl, (upd_ne nd2).trans ed2, (fun x hx => nomatch hx), Nat.le_refl _, (fun h => absurd h (by decide)), upd_same, box_new B2 np2, but_upd kk2 f2⟩
      · rintro i σ H3 _ ⟨kvs, x3, rfl, _, _, _, _, e3, _, _⟩
        exact .of e3
      · rintro i x σ H3 hx ⟨kvs, x3, rfl, ed3, v3, len3, pos3, e3, B3, k3⟩
        have hi : i < 1 + j := by
          rw [← tl]
          exact (List.getElem?_eq_some_iff.mp hx).1
        rw [List.getElem?_map] at hx
        obtain ⟨y, hy, rfl⟩ := Option.map_eq_some_iff.mp hx
        have hyz : y ∈ zs := y3 y (List.mem_of_mem_take (List.mem_of_getElem? hy))
        refine ⟨_, rfl, b, n + zs.length + 1 + 3 * i, rfl, B3, by omega, fun v H4 v0 v1 B4 k4 => ?_⟩
        have ed4 := k4 _ _ nd ed3
        have e4 := k4 _ _ nb2 e3
        refine ⟨_, rfl, _, rfl, d, _, rfl, DPut.k (k := Sum.inr y) ed4 (small1000 (by omega)), ?_⟩
        refine ⟨putK kvs (Sum.inr y) (.int v), _, rfl, upd_same, v3.put hyz v0 v1, ?_, fun _ => putK_pos _ _ _, (upd_ne nd2.symm).trans e4, (box_upd B4 nd).mono (by omega), but_upd (k3.trans k4) hd⟩
        have := length_putK kvs (Sum.inr y) (.int v)
        omega
      · rintro σ H3 ⟨kvs, x3, rfl, ed3, v3, len3, pos3, e3, B3, k3⟩
        rw [tl] at len3 pos3 B3
        refine ⟨_, rfl, q d H3 kvs hd ed3 v3 (pos3 (by omega)) (by omega) (by omega) (B3.mono (by omega)) k3⟩
end
end G
set_option Elab.async false
set_option linter.all false
set_option maxRecDepth 100000
set_option maxHeartbeats 2000000
/-! P0: isinstance by the kind of a thing. -/
namespace G
open PySem PySem.Spec PyProof.Rows L2
def isI : PyData → Bool
  | .int _ => true
  | .bool _ => true
  | _ => false
def isB : PyData → Bool
  | .bool _ => true
  | _ => false
def isTup : PyData → Bool
  | .tuple _ => true
  | _ => false
def isLst : PyData → Bool
  | .list _ => true
  | _ => false
def isDic : PyData → Bool
  | .dict _ => true
  | _ => false
theorem kit_i {K : PySem.W.Frag} : ∀ d : PyData, PySem.W.kitOne K (.type (tyN d)) (.type "int") = some (isI d)
  | .none => kit_ty (a := "NoneType") (b := "int") (r := false) (by decide +kernel)
  | .bool _ => kit_ty (a := "bool") (b := "int") (r := true) (by decide +kernel)
  | .int _ => kit_ty (a := "int") (b := "int") (r := true) (by decide +kernel)
  | .str _ => kit_ty (a := "str") (b := "int") (r := false) (by decide +kernel)
  | .list _ => kit_ty (a := "list") (b := "int") (r := false) (by decide +kernel)
  | .tuple _ => kit_ty (a := "tuple") (b := "int") (r := false) (by decide +kernel)
  | .dict _ => kit_ty (a := "dict") (b := "int") (r := false) (by decide +kernel)
theorem kit_b {K : PySem.W.Frag} : ∀ d : PyData, PySem.W.kitOne K (.type (tyN d)) (.type "bool") = some (isB d)
  | .none => kit_ty (a := "NoneType") (b := "bool") (r := false) (by decide +kernel)
  | .bool _ => kit_ty (a := "bool") (b := "bool") (r := true) (by decide +kernel)
  | .int _ => kit_ty (a := "int") (b := "bool") (r := false) (by decide +kernel)
  | .str _ => kit_ty (a := "str") (b := "bool") (r := false) (by decide +kernel)
  | .list _ => kit_ty (a := "list") (b := "bool") (r := false) (by decide +kernel)
  | .tuple _ => kit_ty (a := "tuple") (b := "bool") (r := false) (by decide +kernel)
  | .dict _ => kit_ty (a := "dict") (b := "bool") (r := false) (by decide +kernel)
theorem kit_t {K : PySem.W.Frag} : ∀ d : PyData, PySem.W.kitOne K (.type (tyN d)) (.type "tuple") = some (isTup d)
  | .none => kit_ty (a := "NoneType") (b := "tuple") (r := false) (by decide +kernel)
  | .bool _ => kit_ty (a := "bool") (b := "tuple") (r := false) (by decide +kernel)
  | .int _ => kit_ty (a := "int") (b := "tuple") (r := false) (by decide +kernel)
  | .str _ => kit_ty (a := "str") (b := "tuple") (r := false) (by decide +kernel)
  | .list _ => kit_ty (a := "list") (b := "tuple") (r := false) (by decide +kernel)
  | .tuple _ => kit_ty (a := "tuple") (b := "tuple") (r := true) (by decide +kernel)
  | .dict _ => kit_ty (a := "dict") (b := "tuple") (r := false) (by decide +kernel)
theorem kit_l {K : PySem.W.Frag} : ∀ d : PyData, PySem.W.kitOne K (.type (tyN d)) (.type "list") = some (isLst d)
  | .none => kit_ty (a := "NoneType") (b := "list") (r := false) (by decide +kernel)
  | .bool _ => kit_ty (a := "bool") (b := "list") (r := false) (by decide +kernel)
  | .int _ => kit_ty (a := "int") (b := "list") (r := false) (by decide +kernel)
  | .str _ => kit_ty (a := "str") (b := "list") (r := false) (by decide +kernel)
  | .list _ => kit_ty (a := "list") (b := "list") (r := true) (by decide +kernel)
  | .tuple _ => kit_ty (a := "tuple") (b := "list") (r := false) (by decide +kernel)
  | .dict _ => kit_ty (a := "dict") (b := "list") (r := false) (by decide +kernel)
theorem kit_d {K : PySem.W.Frag} : ∀ d : PyData, PySem.W.kitOne K (.type (tyN d)) (.type "dict") = some (isDic d)
  | .none => kit_ty (a := "NoneType") (b := "dict") (r := false) (by decide +kernel)
  | .bool _ => kit_ty (a := "bool") (b := "dict") (r := false) (by decide +kernel)
  | .int _ => kit_ty (a := "int") (b := "dict") (r := false) (by decide +kernel)
  | .str _ => kit_ty (a := "str") (b := "dict") (r := false) (by decide +kernel)
  | .list _ => kit_ty (a := "list") (b := "dict") (r := false) (by decide +kernel)
  | .tuple _ => kit_ty (a := "tuple") (b := "dict") (r := false) (by decide +kernel)
  | .dict _ => kit_ty (a := "dict") (b := "dict") (r := true) (by decide +kernel)
def isS : PyData → Bool
  | .str _ => true
  | _ => false
theorem kit_s {K : PySem.W.Frag} : ∀ d : PyData, PySem.W.kitOne K (.type (tyN d)) (.type "str") = some (isS d)
  | .none => kit_ty (a := "NoneType") (b := "str") (r := false) (by decide +kernel)
  | .bool _ => kit_ty (a := "bool") (b := "str") (r := false) (by decide +kernel)
  | .int _ => kit_ty (a := "int") (b := "str") (r := false) (by decide +kernel)
  | .str _ => kit_ty (a := "str") (b := "str") (r := true) (by decide +kernel)
  | .list _ => kit_ty (a := "list") (b := "str") (r := false) (by decide +kernel)
  | .tuple _ => kit_ty (a := "tuple") (b := "str") (r := false) (by decide +kernel)
  | .dict _ => kit_ty (a := "dict") (b := "str") (r := false) (by decide +kernel)
/-- isinstance(x, int), by name -/
theorem pt_isi {X : Cx} {y : Str} {py : Pos} {te : TE} {n : Str} {p q pos : Pos} (T : String) (he : PE X (.Name y py) te) (hg : Gl X "isinstance" := by rfl) (hm : X.mg "isinstance" = none) (gn : Gl X n := by rfl) (mn : X.mg n = none) (hv : bootBuiltins n = some (.type T) := by decide +kernel)
    (hn : n ≠ "__name__" := by decide) (hd : (n == ("__debug__" : Str)) = false := by decide) :
    PE X (.Call (.Name "isinstance" p) [.Name y py, .Name n q] [] pos) (tCB (rIsi X.K) (tCons te (tCons (tC (.ty T)) tNil))) :=
  pe_callB call_isi hg hm (by decide +kernel) (pa_cons he (pa_cons (pe_bltn gn mn hv rfl hn hd) pa_nil))

end G
set_option Elab.async false
set_option linter.all false
set_option maxRecDepth 100000
set_option maxHeartbeats 2000000
/-! P1: checks that pass; Between made. -/
namespace G
open PySem PySem.Spec PyProof.Rows L2 NdefX
abbrev sIsInt : Stmt := topS 16
abbrev sIsName : Stmt := topS 17
abbrev sNeedInt : Stmt := topS 22
abbrev sNeedName : Stmt := topS 23
abbrev sCondInit : Stmt := inClass (topS 34) 0
abbrev sBtwInit : Stmt := inClass (topS 37) 0
theorem scIsInt : FnScope ["value", "low", "high"] ["value", "low", "high"] (defScope sIsInt) := ⟨rfl, rfl, rfl, by decide +kernel, rfl, by decide +kernel, by decide +kernel⟩
theorem scIsName : FnScope ["value", "letter"] ["value"] (defScope sIsName) := ⟨rfl, rfl, rfl, by decide +kernel, rfl, by decide +kernel, by decide +kernel⟩
theorem scNeedInt : FnScope ["value", "low", "high"] ["value", "low", "high"] (defScope sNeedInt) := ⟨rfl, rfl, rfl, by decide +kernel, rfl, by decide +kernel, by decide +kernel⟩
theorem scNeedName : FnScope ["value"] ["value"] (defScope sNeedName) := ⟨rfl, rfl, rfl, by decide +kernel, rfl, by decide +kernel, by decide +kernel⟩
theorem scCondInit : FnScope ["self", "leaf_count", "height", "name_count"] ["self", "leaf_count", "height", "name_count"] (defScope sCondInit) := ⟨rfl, rfl, rfl, by decide +kernel, rfl, by decide +kernel, by decide +kernel⟩
abbrev nBtw : List Str := ["self", "field", "low", "high", "__class__"]
theorem scBtwInit : NScope nBtw ["self", "field", "low", "high"] ["__class__"] (defScope sBtwInit) := nscope_by (by decide +kernel)

/-- a method of the text that captures __class__, as it stands behind the top -/
structure FunX (K : PySem.W.Frag) (x qual : Str) (st : Stmt) (f cda cc : Addr) (kV : Value) (fd : FuncData) : Prop where
  ex : ∃ (oc : Value) (od : Option Addr) (doc pm : Value) (an : Option Addr) (ct : Value) (osl : Array (Option Value)),
    fd = PySem.W.ksFn x qual (defArgs st) (defBody st) (defScope st) .none kV doc pm an (.ref cda) ct cc ∧ K.lookup f = some ⟨oc, od, .func fd, osl⟩ ∧ PySem.W.codeIn K (.ref cda) qual = true
  cell : ∃ oc od sl v, K.lookup cc = some ⟨oc, od, .cell v, sl⟩
abbrev nfOf (x qual : Str) (st : Stmt) (cda cc : Addr) : NF := ⟨x, qual, defArgs st, defBody st, defScope st, [("__class__", cc)], cda⟩
theorem FunX.ok {P : Program} {w : World} {K : PySem.W.Frag} {mg : Str → Option Value} {base : Heap} {CX : CXT} {x qual : Str} {st : Stmt} {f cda cc : Addr} {kV : Value} {fd : FuncData} {N ps : List Str} {k : Nat} {sp : Sp}
    (F : FunX K x qual st f cda cc kV fd) (S : NScope N ps ["__class__"] (defScope st)) (len : ∀ vs H Q E, sp vs H Q E → vs.length = ps.length)
    (hbody : ∀ (A : Around) (outer : List Env) (s : Shared) (H : Hp) (vs : List V) (Q : VK) (E : XK), Room k (A.deeper (envF (nfOf x qual st cda cc) f s.heap.objs.size)) → sp vs H Q E →
      ∃ t, PSsa (ncx CX P w K mg base N (nfOf x qual st cda cc) f A outer s H E) (defBody st) (defBody st) t ∧ t { nx := fun _ H' => Q .non H', rt := Q } (startF N vs [none]) H) :
    FnOk P w K mg base CX (k + 1) f fd ps sp := by
  obtain ⟨oc, od, doc, pm, an, ct, osl, rfl, lk, hcd⟩ := F.ex
  exact fnx_of lk hcd F.cell S len hbody

def spIsInt : Sp := fun vs H Q _ => ∃ v lo hi : Int, vs = [.int v, .int lo, .int hi] ∧ Q (.bl (decide (lo ≤ v) && decide (v ≤ hi))) H
def spIsName : Sp := fun vs H Q _ => ∃ z : Str, vs = [.str z] ∧ NameZ z ∧ ∀ H', Same H H' → Q (.bl true) H'
def spNeedInt : Sp := fun vs H Q _ => ∃ v lo hi : Int, vs = [.int v, .int lo, .int hi] ∧ lo ≤ v ∧ v ≤ hi ∧ Q .non H
def spNeedName : Sp := fun vs H Q _ => ∃ z : Str, vs = [.str z] ∧ NameZ z ∧ ∀ H', Same H H' → Q .non H'
/-- Condition.__init__, of any class below it -/
def spCond (C : Addr) : Sp := fun vs H Q _ => ∃ (a dx : Addr) (l h k : Int) (fs : List (Str × V)), vs = [.ref a, .int l, .int h, .int k] ∧ H a = some (.ins C dx fs) ∧ fs.length ≤ 500 ∧ l ≤ 6 ∧ h ≤ 5 ∧ k ≤ 8 ∧
  Q .non (upd H a (.ins C dx (putF "name_count" (.int k) (putF "height" (.int h) (putF "leaf_count" (.int l) fs)))))
section
variable {P : Program} {w : World} {K : PySem.W.Frag} {mg : Str → Option Value} {base : Heap}
theorem ok_isint {f : Addr} {fd : FuncData} (F : Fun K "is_integer" "is_integer" sIsInt f fd) (mi : mg "isinstance" = none) (mn : mg "int" = none) (mb : mg "bool" = none) : FnOk P w K mg base CX0 1 f fd ["value", "low", "high"] spIsInt := by
  refine F.ok scIsInt (fun vs H Q E h => ?_) (fun cdv A outer s H vs Q E hr h => ?_)
  · obtain ⟨v, lo, hi, rfl, _⟩ := h
    rfl
  · obtain ⟨v, lo, hi, rfl, q⟩ := h
    refine ⟨_, pss_cons (ps_if (PW.pt (pw_or (pt_not (pt_val (pt_isi "int" (pv 0) (hm := mi) (mn := mn)))) (pw_or1 (pt_val (pt_isi "bool" (pv 0) (hm := mi) (mn := mb)))))) (pss_one (ps_ret pe_bl)) pss_nil)
      (pss_one (ps_ret (pe_chain op_le op_le (pv 1) (pv 0) (pv 2)))), ?_⟩
    have hR : Rp K H (.int v) (.int v) := .int v
    refine ⟨_, rfl, _, _, _, _, _, rfl, .ty _, rp_ty hR, kit_i (.int v), _, rfl, iteF ?_⟩
    refine ⟨_, rfl, _, _, _, _, _, rfl, .ty _, rp_ty hR, kit_b (.int v), _, rfl, iteF ?_⟩
    refine ⟨_, rfl, _, rfl, _, _, rfl, rfl, _, rfl, ?_⟩
    cases e : decide (lo ≤ v) with
    | false =>
      refine iteF ?_
      rw [e] at q
      exact q
    | true =>
      refine iteT ?_
      rw [e] at q
      exact ⟨_, rfl, _, _, rfl, rfl, q⟩
theorem ok_isname {f : Addr} {fd : FuncData} {t1 t2 : Tok} (F : Fun K "is_name" "is_name" sIsName f fd) (gM : mg "MOST_LETTERS" = some (.int 8 t1)) (gL : mg "LETTERS" = some (.str abc t2)) (mi : mg "isinstance" = none) (ms : mg "str" = none) (ml : mg "len" = none) (ma : mg "all" = none) :
    FnOk P w K mg base CX0 1 f fd ["value"] spIsName := by
  refine F.ok scIsName (fun vs H Q E h => ?_) (fun cdv A outer s H vs Q E hr h => ?_)
  · obtain ⟨z, rfl, _⟩ := h
    rfl
  · obtain ⟨z, rfl, ⟨hz, h1, h8⟩, q⟩ := h
    refine ⟨_, pss_cons (ps_if (PW.pt (pw_or (pt_not (pt_val (pt_isi "str" (pv 0) (hm := mi) (mn := ms)))) (pw_or1 (pt_not (pt_chain op_le op_le pe_int (pe_callB call_len_str (by rfl) ml PySem.boot_len (pa_cons (pv 0) pa_nil)) (pe_glob (v := .int 8) rfl gM ⟨_, rfl⟩))))))
        (pss_one (ps_ret pe_bl)) pss_nil)
      (pss_one (ps_ret (pe_callB (cr_all rfl) (by rfl) ma (by decide +kernel) (pa_cons (pe_lc (own := [("letter", 1)]) (g := gName 1) (tt := tYes) (by rfl) scIsName.nd (pi_str (pv 0))
        (blkOk_by (own := [("letter", 1)]) (N := ["value", "letter"]) (sc := defScope sIsName) (by decide +kernel)) (fun _ _ _ _ _ => pg_name (i := 1) scIsName.nd rfl (.inl rfl)) (fun _ _ _ _ _ => pts_nil)
        (fun _ _ _ _ _ => pe_cmpR op_in_sign (pv 1) (pe_glob (v := .str abc) rfl gL ⟨_, rfl⟩) (by rfl))) pa_nil)))), ?_⟩
    have hR : Rp K H (.str z) (.str z) := .str z
    refine ⟨_, rfl, _, _, _, _, _, rfl, .ty _, rp_ty hR, kit_s (.str z), _, rfl, iteF ?_⟩
    refine ⟨_, rfl, z, rfl, small_size (by omega), _, _, rfl, rfl, _, rfl, ?_⟩
    rw [decide_eq_true (show (1 : Int) ≤ (z.length : Int) by omega)]
    refine iteT ⟨_, _, rfl, rfl, _, rfl, ?_⟩
    rw [decide_eq_true (show (z.length : Int) ≤ 8 by omega)]
    refine iteF ?_
    refine ⟨_, rfl, z, rfl, fun D hD => ?_⟩
    refine lc_it walk_str (fun i H2 => Same H H2 ∧ H2 D = some (.lst ((List.replicate i true).map V.bl))) ?_ ?_ ?_ ?_
    · exact ⟨Same.new hD, upd_same⟩
    · exact fun _ _ _ _ => trivial
    · rintro i x H2 H3 hi ⟨s2, e2⟩ ⟨rfl, c, hc, rfl⟩
      have hc2 : (cs z)[i]? = some c := by
        rw [← hc, ← Array.getElem?_toList]
      have hzs : z.cps.size = z.length := rfl
      have c97 := hz c (List.mem_of_getElem? hc2)
      refine ⟨rfl, ?_⟩
      unfold tYes
      dsimp only
      rw [if_pos rfl]
      refine ⟨_, rfl, c, _, rfl, rfl, _, e2, ?_, fun a o e => ?_, ?_⟩
      · rw [List.length_map, List.length_replicate]
        exact Nat.lt_of_lt_of_le hi (small_size (by omega))
      · rw [upd_ne (ne_of_none e hD)]
        exact s2 _ _ e
      · have hin : decide (c ∈ abc.cps.toList) = true := decide_eq_true (by
          have e : abc.cps.toList = (List.range 26).map (97 + ·) := by decide +kernel
          rw [e]
          exact List.mem_map.mpr ⟨c - 97, List.mem_range.mpr (by omega), by omega⟩)
        rw [upd_same, hin, List.replicate_succ', List.map_append]
        rfl
    · rintro H2 ⟨s2, e2⟩
      refine ⟨D, _, rfl, .of e2, ?_⟩
      have ha : (List.replicate z.cps.size true).all id = true := by
        rw [List.all_eq_true]
        intro x hx
        rw [(List.mem_replicate.mp hx).2]
        rfl
      rw [ha]
      exact q H2 s2
theorem ok_needint {f fI : Addr} {fd fdI : FuncData} (F : Fun K "need_integer" "need_integer" sNeedInt f fd) (I : Fun K "is_integer" "is_integer" sIsInt fI fdI) (bI : Binds K fdI ["value", "low", "high"] []) (gI : mg "is_integer" = some (.ref fI))
    (GI : FnOk P w K mg base CX0 1 fI fdI ["value", "low", "high"] spIsInt) : FnOk P w K mg base CX0 2 f fd ["value", "low", "high"] spNeedInt := by
  refine F.ok scNeedInt (fun vs H Q E h => ?_) (fun cdv A outer s H vs Q E hr h => ?_)
  · obtain ⟨v, lo, hi, rfl, _⟩ := h
    rfl
  · obtain ⟨v, lo, hi, rfl, h1, h2, q⟩ := h
    refine ⟨_, pss_one (ps_if (pt_not (pt_val (pe_call GI hr rfl gI I.kp bI .nil pass0 (pa_cons (pv 0) (pa_cons (pv 1) (pa_cons (pv 2) pa_nil)))))) (pss_one ps_never) pss_nil), ?_⟩
    refine ⟨_, rfl, _, rfl, _, rfl, v, lo, hi, rfl, _, rfl, ?_⟩
    rw [decide_eq_true h1, decide_eq_true h2]
    exact iteF q
theorem ok_needname {f fI : Addr} {fd fdI : FuncData} (F : Fun K "need_name" "need_name" sNeedName f fd) (I : Fun K "is_name" "is_name" sIsName fI fdI) (bI : Binds K fdI ["value"] []) (gI : mg "is_name" = some (.ref fI))
    (GI : FnOk P w K mg base CX0 1 fI fdI ["value"] spIsName) : FnOk P w K mg base CX0 2 f fd ["value"] spNeedName := by
  refine F.ok scNeedName (fun vs H Q E h => ?_) (fun cdv A outer s H vs Q E hr h => ?_)
  · obtain ⟨z, rfl, _⟩ := h
    rfl
  · obtain ⟨z, rfl, hz, q⟩ := h
    refine ⟨_, pss_one (ps_if (pt_not (pt_val (pe_call GI hr rfl gI I.kp bI .nil pass0 (pa_cons (pv 0) pa_nil)))) (pss_one ps_never) pss_nil), ?_⟩
    exact ⟨_, rfl, z, rfl, hz, fun H' s' => ⟨_, rfl, iteF (q H' s')⟩⟩
theorem ok_condinit {f C : Addr} {fd : FuncData} {t1 t2 t3 : Tok} (F : Fun K "__init__" "Condition.__init__" sCondInit f fd) (c : Cls K C) (n1 : NoAttr K C "leaf_count") (n2 : NoAttr K C "height") (n3 : NoAttr K C "name_count")
    (g1 : mg "MOST_LEAVES" = some (.int 6 t1)) (g2 : mg "MOST_DEPTH" = some (.int 5 t2)) (g3 : mg "MOST_NAMES" = some (.int 8 t3)) :
    FnOk P w K mg base CX0 1 f fd ["self", "leaf_count", "height", "name_count"] (spCond C) := by
  refine F.ok scCondInit (fun vs H Q E h => ?_) (fun cdv A outer s H vs Q E hr h => ?_)
  · obtain ⟨a, dx, l, h, k, fs, rfl, _⟩ := h
    rfl
  · obtain ⟨a, dx, l, h, k, fs, rfl, ha, hf, h1, h2, h3, q⟩ := h
    refine ⟨_, pss_cons (ps_if (pt_cmpR op_gt (pv 1) (pe_glob (v := .int 6) rfl g1 ⟨_, rfl⟩) (nomark _)) (pss_one ps_never) pss_nil)
      (pss_cons (ps_if (pt_cmpR op_gt (pv 2) (pe_glob (v := .int 5) rfl g2 ⟨_, rfl⟩) (nomark _)) (pss_one ps_never) pss_nil)
      (pss_cons (ps_if (pt_cmpR op_gt (pv 3) (pe_glob (v := .int 8) rfl g3 ⟨_, rfl⟩) (nomark _)) (pss_one ps_never) pss_nil)
      (pss_cons (ps_fld (pv 0) (pv 1) rfl) (pss_cons (ps_fld (pv 0) (pv 2) rfl) (pss_one (ps_fld (pv 0) (pv 3) rfl)))))), ?_⟩
    have l1 := length_putF "leaf_count" (V.int l) fs
    have l2 := length_putF "height" (V.int h) (putF "leaf_count" (V.int l) fs)
    refine ⟨_, rfl, _, _, rfl, rfl, _, rfl, ?_⟩
    rw [decide_eq_false (show ¬ l > 6 by omega)]
    refine iteF ⟨_, rfl, _, _, rfl, rfl, _, rfl, ?_⟩
    rw [decide_eq_false (show ¬ h > 5 by omega)]
    refine iteF ⟨_, rfl, _, _, rfl, rfl, _, rfl, ?_⟩
    rw [decide_eq_false (show ¬ k > 8 by omega)]
    refine iteF ?_
    refine ⟨_, rfl, _, rfl, a, C, dx, fs, rfl, ha, c, n1, by omega, ?_⟩
    refine ⟨_, rfl, _, rfl, a, C, dx, _, rfl, upd_same, c, n2, by omega, ?_⟩
    refine ⟨_, rfl, _, rfl, a, C, dx, _, rfl, upd_same, c, n3, by omega, ?_⟩
    rw [upd_upd, upd_upd]
    exact q
end
end G
set_option Elab.async false
set_option linter.all false
set_option maxRecDepth 100000
set_option maxHeartbeats 2000000
/-! P2: Between made. -/
namespace G
open PySem PySem.Spec PyProof.Rows L2 NdefX
/-- a Between's fields -/
def btwFs (z : Str) (lo hi : Int) : List (Str × V) := [("leaf_count", .int 1), ("height", .int 1), ("name_count", .int 0), ("field_name", .str z), ("lowest", .int lo), ("highest", .int hi)]
def spBtw (C : Addr) : Sp := fun vs H Q _ => ∃ (a dx : Addr) (z : Str) (lo hi : Int), vs = [.ref a, .str z, .int lo, .int hi] ∧ H a = some (.ins C dx []) ∧ NameZ z ∧ -999 ≤ lo ∧ lo ≤ hi ∧ hi ≤ 999 ∧
  ∀ H', Same H H' → Q .non (upd H' a (.ins C dx (btwFs z lo hi)))
section
variable {P : Program} {w : World} {K : PySem.W.Frag} {mg : Str → Option Value} {base : Heap}
theorem ok_btwinit {f cda cc C f2 fN fJ : Addr} {kV : Value} {fd fdN fdJ fdC : FuncData} (F : FunX K "__init__" "Between.__init__" sBtwInit f cda cc kV fd) (S : SupOf P K f cda cc C C f2 "self") (c : Cls K C)
    (n1 : NoAttr K C "field_name") (n2 : NoAttr K C "lowest") (n3 : NoAttr K C "highest")
    (GN : FnOk P w K mg base CX0 2 fN fdN ["value"] spNeedName) (gN : mg "need_name" = some (.ref fN)) (kN : PySem.W.keepIn K (.ref fN) = true) (bN : Binds K fdN ["value"] [])
    (GJ : FnOk P w K mg base CX0 2 fJ fdJ ["value", "low", "high"] spNeedInt) (gJ : mg "need_integer" = some (.ref fJ)) (kJ : PySem.W.keepIn K (.ref fJ) = true) (bJ : Binds K fdJ ["value", "low", "high"] [])
    (GC : FnOk P w K mg base CX0 1 f2 fdC ["self", "leaf_count", "height", "name_count"] (spCond C)) (bC : Binds K fdC ["self", "leaf_count", "height", "name_count"] []) (ms : mg "super" = none) :
    FnOk P w K mg base CX0 3 f fd ["self", "field", "low", "high"] (spBtw C) := by
  refine F.ok scBtwInit (fun vs H Q E h => ?_) (fun A outer s H vs Q E hr h => ?_)
  · obtain ⟨a, dx, z, lo, hi, rfl, _⟩ := h
    rfl
  · obtain ⟨a, dx, z, lo, hi, rfl, ha, hz, h1, h2, h3, q⟩ := h
    have hr1 := hr.mono (show 1 ≤ 2 by decide)
    refine ⟨_, pssa_cons (psa (ps_expr (pe_call GN hr rfl gN kN bN .nil pass0 (pa_cons (pv 1) pa_nil))))
      (pssa_cons (psa (ps_expr (pe_call GJ hr rfl gJ kJ bJ .nil pass0 (pa_cons (pv 2) (pa_cons (pe_un un_neg pe_int) (pa_cons pe_int pa_nil))))))
      (pssa_cons (psa (ps_expr (pe_call GJ hr rfl gJ kJ bJ .nil pass0 (pa_cons (pv 3) (pa_cons (pv 2) (pa_cons pe_int pa_nil))))))
      (pssa_cons (psa_super (i := 0) S (GC.raw bC .nil) hr1 pass0 rfl rfl rfl rfl rfl rfl ms rfl (pa_cons pe_int (pa_cons pe_int (pa_cons pe_int pa_nil))))
      (pssa (pss_cons (ps_fld (pv 0) (pv 1) rfl) (pss_cons (ps_fld (pv 0) (pv 2) rfl) (pss_one (ps_fld (pv 0) (pv 3) rfl)))))))), ?_⟩
    refine ⟨_, rfl, z, rfl, hz, fun H1 s1 => ?_⟩
    have ha1 := s1 _ _ ha
    refine ⟨_, rfl, _, rfl, lo, -999, 999, rfl, h1, by omega, ?_⟩
    refine ⟨_, rfl, _, rfl, hi, lo, 999, rfl, h2, h3, ?_⟩
    refine ⟨a, dx, [], rfl, ha1, a, dx, 1, 1, 0, [], rfl, ha1, by decide, by decide, by decide, by decide, ?_⟩
    refine ⟨_, rfl, _, rfl, a, C, dx, _, rfl, upd_same, c, n1, by decide, ?_⟩
    refine ⟨_, rfl, _, rfl, a, C, dx, _, rfl, upd_same, c, n2, (by show 4 < 1000; decide), ?_⟩
    refine ⟨_, rfl, _, rfl, a, C, dx, _, rfl, upd_same, c, n3, (by show 5 < 1000; decide), ?_⟩
    rw [upd_upd, upd_upd, upd_upd]
    exact q H1 s1
end
end G
set_option Elab.async false
set_option linter.all false
set_option maxRecDepth 100000
set_option maxHeartbeats 2000000
/-! P3: a value of a record is one; a record is one. -/
namespace G
open PySem PySem.Spec PyProof.Rows L2 NdefX
abbrev sIsValue : Stmt := topS 18
abbrev sNeedValue : Stmt := topS 24
abbrev sNeedRecord : Stmt := topS 25
theorem scIsValue : FnScope ["value", "field"] ["value"] (defScope sIsValue) := ⟨rfl, rfl, rfl, by decide +kernel, rfl, by decide +kernel, by decide +kernel⟩
theorem scNeedValue : FnScope ["value"] ["value"] (defScope sNeedValue) := ⟨rfl, rfl, rfl, by decide +kernel, rfl, by decide +kernel, by decide +kernel⟩
theorem scNeedRecord : FnScope ["key", "value"] ["key", "value"] (defScope sNeedRecord) := ⟨rfl, rfl, rfl, by decide +kernel, rfl, by decide +kernel, by decide +kernel⟩
/-- a record's value, of some names -/
structure ValOk (zs : List Str) (kvs : List (Key × V)) : Prop where
  nm : ∀ z ∈ zs, NameZ z
  is : ValN zs kvs
  pos : 1 ≤ kvs.length
  six : kvs.length ≤ 6
theorem valV_of {zs : List Str} {kvs : List (Key × V)} (h : ValN zs kvs) {i : Nat} {k : Key} {v : V} (e : kvs[i]? = some (k, v)) : ∃ (z : Str) (n : Int), k = Sum.inr z ∧ z ∈ zs ∧ valV kvs k = some (.int n) ∧ -999 ≤ n ∧ n ≤ 999 := by
  have hm := List.mem_of_getElem? e
  obtain ⟨z, j, ez, hz, _, _⟩ := h _ hm
  obtain ⟨rfl, _⟩ := Prod.mk.inj ez
  cases q : valV kvs (Sum.inr z) with
  | none =>
    exfalso
    have h2 : (kvs.find? fun kv => decide (kv.1 = (Sum.inr z : Key))) = none := by
      have : Option.map (fun p : Key × V => p.2) (kvs.find? fun kv => decide (kv.1 = (Sum.inr z : Key))) = none := q
      exact Option.map_eq_none_iff.mp this
    have h3 := List.find?_eq_none.mp h2 _ hm
    exact h3 (decide_eq_true rfl)
  | some x =>
    have h2 : Option.map (fun p : Key × V => p.2) (kvs.find? fun kv => decide (kv.1 = (Sum.inr z : Key))) = some x := q
    obtain ⟨p, hp, rfl⟩ := Option.map_eq_some_iff.mp h2
    obtain ⟨z2, n, ep, _, n1, n2⟩ := h p (List.mem_of_find?_eq_some hp)
    rw [ep]
    exact ⟨z, n, rfl, hz, rfl, n1, n2⟩
def spIsValue : Sp := fun vs H Q _ => ∃ (d : Addr) (zs : List Str) (kvs : List (Key × V)), vs = [.ref d] ∧ H d = some (.dK kvs) ∧ ValOk zs kvs ∧ ∀ H', Same H H' → Q (.bl true) H'
def spNeedValue : Sp := fun vs H Q _ => ∃ (d : Addr) (zs : List Str) (kvs : List (Key × V)), vs = [.ref d] ∧ H d = some (.dK kvs) ∧ ValOk zs kvs ∧ ∀ H', Same H H' → Q .non H'
def spNeedRecord : Sp := fun vs H Q _ => ∃ (y : Str) (d : Addr) (zs : List Str) (kvs : List (Key × V)), vs = [.str y, .ref d] ∧ NameZ y ∧ H d = some (.dK kvs) ∧ ValOk zs kvs ∧ ∀ H', Same H H' → Q .non H'
section
variable {P : Program} {w : World} {K : PySem.W.Frag} {mg : Str → Option Value} {base : Heap}
theorem ok_isvalue {f fN fI : Addr} {fd fdN fdI : FuncData} {t1 t2 : Tok} (F : Fun K "is_value" "is_value" sIsValue f fd) (N : Fun K "is_name" "is_name" sIsName fN fdN) (bN : Binds K fdN ["value"] []) (gN : mg "is_name" = some (.ref fN))
    (GN : FnOk P w K mg base CX0 1 fN fdN ["value"] spIsName) (I : Fun K "is_integer" "is_integer" sIsInt fI fdI) (bI : Binds K fdI ["value", "low", "high"] []) (gI : mg "is_integer" = some (.ref fI)) (GI : FnOk P w K mg base CX0 1 fI fdI ["value", "low", "high"] spIsInt)
    (gM : mg "MOST_FIELDS" = some (.int 6 t1)) (gG : mg "GREATEST" = some (.int 999 t2)) (mi : mg "isinstance" = none) (md : mg "dict" = none) (ml : mg "len" = none) (ma : mg "all" = none) :
    FnOk P w K mg base CX0 2 f fd ["value"] spIsValue := by
  refine F.ok scIsValue (fun vs H Q E h => ?_) (fun cdv A outer s H vs Q E hr h => ?_)
  · obtain ⟨d, zs, kvs, rfl, _⟩ := h
    rfl
  · obtain ⟨d, zs, kvs, rfl, hd, hv, q⟩ := h
    have hu := hu_of hr
    refine ⟨_, pss_cons (ps_if (PW.pt (pw_or (pt_not (pt_val (pt_isi "dict" (pv 0) (hm := mi) (mn := md)))) (pw_or1 (pt_not (pt_chain op_le op_le pe_int (pe_callB call_lenD (by rfl) ml PySem.boot_len (pa_cons (pv 0) pa_nil)) (pe_glob (v := .int 6) rfl gM ⟨_, rfl⟩))))))
        (pss_one (ps_ret pe_bl)) pss_nil)
      (pss_one (ps_ret (pe_callB (cr_all rfl) (by rfl) ma (by decide +kernel) (pa_cons (pe_lock (pe_lc (own := [("field", 1)]) (g := gName 1) (tt := tYes) (by rfl) scIsValue.nd (pi_keys (pv 0))
        (blkOk_by (own := [("field", 1)]) (N := ["value", "field"]) (sc := defScope sIsValue) (by decide +kernel)) (fun _ _ _ _ _ => pg_name (i := 1) scIsValue.nd rfl (.inl rfl)) (fun _ _ _ _ _ => pts_nil)
        (fun _ _ _ _ _ => pe_and (pe_call GN hr rfl gN N.kp bN .nil pass0 (pa_cons (pv 1) pa_nil)) (pe_one (pe_call GI hr rfl gI I.kp bI .nil pass0 (pa_cons (pe_dget hu (pv 0) (pv 1) (fun _ _ => rfl))
          (pa_cons (pe_un un_neg (pe_glob (v := .int 999) rfl gG ⟨_, rfl⟩)) (pa_cons (pe_glob (v := .int 999) rfl gG ⟨_, rfl⟩) pa_nil)))))))) pa_nil)))), ?_⟩
    refine ⟨_, rfl, _, _, _, _, _, rfl, .ty _, .base (.dK hd), kit_ty (a := "dict") (b := "dict") (r := true) (by decide +kernel), _, rfl, iteF ?_⟩
    refine ⟨_, rfl, d, kvs, rfl, hd, ?_⟩
    have h1 := hv.pos
    have h6 := hv.six
    refine ⟨_, _, rfl, rfl, _, rfl, ?_⟩
    rw [decide_eq_true (show (1 : Int) ≤ (kvs.length : Int) by omega)]
    refine iteT ⟨_, _, rfl, rfl, _, rfl, ?_⟩
    rw [decide_eq_true (show (kvs.length : Int) ≤ 6 by omega)]
    refine iteF ?_
    refine ⟨d, _, hd, trivial, fun od => ?_⟩
    refine ⟨_, rfl, d, od, rfl, .inl ⟨kvs, upd_same, fun D hD => ?_⟩⟩
    have ndD : d ≠ D := fun z => by
      rw [← z, upd_same] at hD
      cases hD
    have fD : H D = none := (upd_ne ndD.symm).symm.trans hD
    refine lc_it walk_keys (fun i H2 => But d H H2 ∧ H2 d = some (.frz od (.dK kvs)) ∧ H2 D = some (.lst ((List.replicate i true).map V.bl))) ?_ ?_ ?_ ?_
    · exact ⟨but_upd But.upd fD, (upd_ne ndD).trans upd_same, upd_same⟩
    · exact fun _ _ _ h => h.2.1
    · rintro i x H2 H3 hi ⟨b2, d2, e2⟩ ⟨rfl, k, v, hk, rfl⟩
      obtain ⟨z, n, rfl, hz, hn, n1, n2⟩ := valV_of hv.is hk
      refine ⟨rfl, ?_⟩
      unfold tYes
      dsimp only
      rw [if_pos rfl]
      refine ⟨_, rfl, z, rfl, hv.nm z hz, fun H4 s4 => ⟨_, rfl, iteT ?_⟩⟩
      have d4 := s4 _ _ d2
      have e4 := s4 _ _ e2
      refine ⟨_, rfl, _, rfl, d, .int n, rfl, .inl ⟨kvs, Sum.inr z, .inr ⟨od, d4⟩, rfl, hn.symm⟩, _, rfl, n, -999, 999, rfl, ?_⟩
      rw [decide_eq_true n1, decide_eq_true n2]
      refine ⟨_, e4, ?_, ?_, ?_, ?_⟩
      · rw [List.length_map, List.length_replicate]
        exact small1000 (by omega)
      · exact but_upd (b2.trans (But.same s4)) fD
      · exact (upd_ne ndD).trans d4
      · rw [upd_same, List.replicate_succ', List.map_append]
        rfl
    · rintro H2 ⟨b2, d2, e2⟩
      refine ⟨d2, D, _, rfl, .of ((upd_ne ndD.symm).trans e2), ?_⟩
      have ha : (List.replicate kvs.length true).all id = true := by
        rw [List.all_eq_true]
        intro x hx
        rw [(List.mem_replicate.mp hx).2]
        rfl
      rw [ha]
      refine q _ fun c o e => ?_
      by_cases hc : c = d
      · rw [hc] at e ⊢
        rw [hd] at e
        rw [← e]
        exact upd_same
      · rw [upd_ne hc]
        exact b2 c o hc e
theorem ok_needvalue {f fI : Addr} {fd fdI : FuncData} (F : Fun K "need_value" "need_value" sNeedValue f fd) (I : Fun K "is_value" "is_value" sIsValue fI fdI) (bI : Binds K fdI ["value"] []) (gI : mg "is_value" = some (.ref fI))
    (GI : FnOk P w K mg base CX0 2 fI fdI ["value"] spIsValue) : FnOk P w K mg base CX0 3 f fd ["value"] spNeedValue := by
  refine F.ok scNeedValue (fun vs H Q E h => ?_) (fun cdv A outer s H vs Q E hr h => ?_)
  · obtain ⟨d, zs, kvs, rfl, _⟩ := h
    rfl
  · obtain ⟨d, zs, kvs, rfl, hd, hv, q⟩ := h
    refine ⟨_, pss_one (ps_if (pt_not (pt_val (pe_call GI hr rfl gI I.kp bI .nil pass0 (pa_cons (pv 0) pa_nil)))) (pss_one ps_never) pss_nil), ?_⟩
    exact ⟨_, rfl, d, zs, kvs, rfl, hd, hv, fun H' s' => ⟨_, rfl, iteF (q H' s')⟩⟩
theorem ok_needrecord {f fN fV : Addr} {fd fdN fdV : FuncData} (F : Fun K "need_record" "need_record" sNeedRecord f fd) (kN : PySem.W.keepIn K (.ref fN) = true) (bN : Binds K fdN ["value"] []) (gN : mg "need_name" = some (.ref fN)) (GN : FnOk P w K mg base CX0 2 fN fdN ["value"] spNeedName)
    (kV : PySem.W.keepIn K (.ref fV) = true) (bV : Binds K fdV ["value"] []) (gV : mg "need_value" = some (.ref fV)) (GV : FnOk P w K mg base CX0 3 fV fdV ["value"] spNeedValue) : FnOk P w K mg base CX0 4 f fd ["key", "value"] spNeedRecord := by
  refine F.ok scNeedRecord (fun vs H Q E h => ?_) (fun cdv A outer s H vs Q E hr h => ?_)
  · obtain ⟨y, d, zs, kvs, rfl, _⟩ := h
    rfl
  · obtain ⟨y, d, zs, kvs, rfl, hy, hd, hv, q⟩ := h
    refine ⟨_, pss_cons (ps_expr (pe_call GN (hr.mono (by decide)) rfl gN kN bN .nil pass0 (pa_cons (pv 0) pa_nil))) (pss_one (ps_expr (pe_call GV hr rfl gV kV bV .nil pass0 (pa_cons (pv 1) pa_nil)))), ?_⟩
    exact ⟨_, rfl, y, rfl, hy, fun H1 s1 => ⟨_, rfl, d, zs, kvs, rfl, s1 _ _ hd, hv, fun H2 s2 => q H2 (s1.trans s2)⟩⟩
end
end G
set_option Elab.async false
set_option linter.all false
set_option maxRecDepth 100000
set_option maxHeartbeats 2000000
/-! P4: a Between asked. -/
namespace G
open PySem PySem.Spec PyProof.Rows L2 NdefX
abbrev sBtw (j : Nat) : Stmt := inClass (topS 37) j
theorem scOne (j : Nat) (h : FnScope ["self"] ["self"] (defScope (sBtw j))) : FnScope ["self"] ["self"] (defScope (sBtw j)) := h
theorem scBtw1 : FnScope ["self"] ["self"] (defScope (sBtw 1)) := ⟨rfl, rfl, rfl, by decide +kernel, rfl, by decide +kernel, by decide +kernel⟩
theorem scBtw2 : FnScope ["self"] ["self"] (defScope (sBtw 2)) := ⟨rfl, rfl, rfl, by decide +kernel, rfl, by decide +kernel, by decide +kernel⟩
theorem scBtw3 : FnScope ["self"] ["self"] (defScope (sBtw 3)) := ⟨rfl, rfl, rfl, by decide +kernel, rfl, by decide +kernel, by decide +kernel⟩
theorem scBtw4 : FnScope ["self", "key", "value"] ["self", "key", "value"] (defScope (sBtw 4)) := ⟨rfl, rfl, rfl, by decide +kernel, rfl, by decide +kernel, by decide +kernel⟩
theorem scBtw5 : FnScope ["self", "key", "value"] ["self", "key", "value"] (defScope (sBtw 5)) := ⟨rfl, rfl, rfl, by decide +kernel, rfl, by decide +kernel, by decide +kernel⟩
theorem scBtw6 : FnScope ["self"] ["self"] (defScope (sBtw 6)) := ⟨rfl, rfl, rfl, by decide +kernel, rfl, by decide +kernel, by decide +kernel⟩
theorem scBtw7 : FnScope ["self"] ["self"] (defScope (sBtw 7)) := ⟨rfl, rfl, rfl, by decide +kernel, rfl, by decide +kernel, by decide +kernel⟩
/-- at a stands Between(z, low=lo, high=hi) -/
def BtwAt (C : Addr) (H : Hp) (a : Addr) (z : Str) (lo hi : Int) : Prop := ∃ dx, H a = some (.ins C dx (btwFs z lo hi))
/-- whether it holds -/
def btwHolds (z : Str) (lo hi : Int) (kvs : List (Key × V)) : Bool := match valV kvs (Sum.inr z) with
  | some (.int n) => decide (lo ≤ n) && decide (n ≤ hi)
  | _ => false
theorem valV_int {zs : List Str} {kvs : List (Key × V)} (h : ValN zs kvs) (k : Key) : valV kvs k = none ∨ ∃ n, valV kvs k = some (.int n) := by
  cases q : valV kvs k with
  | none => exact .inl rfl
  | some x =>
    have h2 : Option.map (fun p : Key × V => p.2) (kvs.find? fun kv => decide (kv.1 = k)) = some x := q
    obtain ⟨p, hp, rfl⟩ := Option.map_eq_some_iff.mp h2
    obtain ⟨z2, n, ep, _, n1, n2⟩ := h p (List.mem_of_find?_eq_some hp)
    exact .inr ⟨n, by rw [ep]⟩
def spBtwField (C : Addr) : Sp := fun vs H Q _ => ∃ (a : Addr) (z : Str) (lo hi : Int), vs = [.ref a] ∧ BtwAt C H a z lo hi ∧ Q (.str z) H
def spBtwLow (C : Addr) : Sp := fun vs H Q _ => ∃ (a : Addr) (z : Str) (lo hi : Int), vs = [.ref a] ∧ BtwAt C H a z lo hi ∧ Q (.int lo) H
def spBtwHigh (C : Addr) : Sp := fun vs H Q _ => ∃ (a : Addr) (z : Str) (lo hi : Int), vs = [.ref a] ∧ BtwAt C H a z lo hi ∧ Q (.int hi) H
def spBtwOne (C : Addr) : Sp := fun vs H Q _ => ∃ (a : Addr) (z : Str) (lo hi : Int), vs = [.ref a] ∧ BtwAt C H a z lo hi ∧ Q (.int 1) H
def spBtwHolds (C : Addr) : Sp := fun vs H Q _ => ∃ (a d : Addr) (y z : Str) (lo hi : Int) (zs : List Str) (kvs : List (Key × V)), vs = [.ref a, .str y, .ref d] ∧ BtwAt C H a z lo hi ∧ H d = some (.dK kvs) ∧ ValN zs kvs ∧ Q (.bl (btwHolds z lo hi kvs)) H
def spBtwCall (C : Addr) : Sp := fun vs H Q _ => ∃ (a d : Addr) (y z : Str) (lo hi : Int) (zs : List Str) (kvs : List (Key × V)), vs = [.ref a, .str y, .ref d] ∧ BtwAt C H a z lo hi ∧ NameZ y ∧ H d = some (.dK kvs) ∧ ValOk zs kvs ∧
  ∀ H', Same H H' → Q (.bl (btwHolds z lo hi kvs)) H'
section
variable {P : Program} {w : World} {K : PySem.W.Frag} {mg : Str → Option Value} {base : Heap} {f C : Addr} {fd : FuncData}
theorem ok_btwfield (F : Fun K "field" "Between.field" (sBtw 1) f fd) (c : Cls K C) (n : NoAttr K C "field_name") : FnOk P w K mg base CX0 1 f fd ["self"] (spBtwField C) := by
  refine F.ok scBtw1 (fun vs H Q E h => ?_) (fun cdv A outer s H vs Q E hr h => ?_)
  · obtain ⟨a, z, lo, hi, rfl, _⟩ := h
    rfl
  · obtain ⟨a, z, lo, hi, rfl, ⟨dx, ha⟩, q⟩ := h
    exact ⟨_, pss_one (ps_ret (pe_fld (pv 0) rfl)), _, rfl, a, C, dx, _, _, rfl, ha, c, n, rfl, q⟩
theorem ok_btwlow (F : Fun K "low" "Between.low" (sBtw 2) f fd) (c : Cls K C) (n : NoAttr K C "lowest") : FnOk P w K mg base CX0 1 f fd ["self"] (spBtwLow C) := by
  refine F.ok scBtw2 (fun vs H Q E h => ?_) (fun cdv A outer s H vs Q E hr h => ?_)
  · obtain ⟨a, z, lo, hi, rfl, _⟩ := h
    rfl
  · obtain ⟨a, z, lo, hi, rfl, ⟨dx, ha⟩, q⟩ := h
    exact ⟨_, pss_one (ps_ret (pe_fld (pv 0) rfl)), _, rfl, a, C, dx, _, _, rfl, ha, c, n, rfl, q⟩
theorem ok_btwhigh (F : Fun K "high" "Between.high" (sBtw 3) f fd) (c : Cls K C) (n : NoAttr K C "highest") : FnOk P w K mg base CX0 1 f fd ["self"] (spBtwHigh C) := by
  refine F.ok scBtw3 (fun vs H Q E h => ?_) (fun cdv A outer s H vs Q E hr h => ?_)
  · obtain ⟨a, z, lo, hi, rfl, _⟩ := h
    rfl
  · obtain ⟨a, z, lo, hi, rfl, ⟨dx, ha⟩, q⟩ := h
    exact ⟨_, pss_one (ps_ret (pe_fld (pv 0) rfl)), _, rfl, a, C, dx, _, _, rfl, ha, c, n, rfl, q⟩
theorem ok_btwleaves (F : Fun K "leaves" "Between.leaves" (sBtw 6) f fd) (c : Cls K C) (n : NoAttr K C "leaf_count") : FnOk P w K mg base CX0 1 f fd ["self"] (spBtwOne C) := by
  refine F.ok scBtw6 (fun vs H Q E h => ?_) (fun cdv A outer s H vs Q E hr h => ?_)
  · obtain ⟨a, z, lo, hi, rfl, _⟩ := h
    rfl
  · obtain ⟨a, z, lo, hi, rfl, ⟨dx, ha⟩, q⟩ := h
    exact ⟨_, pss_one (ps_ret (pe_fld (pv 0) rfl)), _, rfl, a, C, dx, _, _, rfl, ha, c, n, rfl, q⟩
theorem ok_btwdepth (F : Fun K "depth" "Between.depth" (sBtw 7) f fd) (c : Cls K C) (n : NoAttr K C "height") : FnOk P w K mg base CX0 1 f fd ["self"] (spBtwOne C) := by
  refine F.ok scBtw7 (fun vs H Q E h => ?_) (fun cdv A outer s H vs Q E hr h => ?_)
  · obtain ⟨a, z, lo, hi, rfl, _⟩ := h
    rfl
  · obtain ⟨a, z, lo, hi, rfl, ⟨dx, ha⟩, q⟩ := h
    exact ⟨_, pss_one (ps_ret (pe_fld (pv 0) rfl)), _, rfl, a, C, dx, _, _, rfl, ha, c, n, rfl, q⟩
theorem ok_btwholds (F : Fun K "holds" "Between.holds" (sBtw 5) f fd) (c : Cls K C) (n1 : NoAttr K C "field_name") (n2 : NoAttr K C "lowest") (n3 : NoAttr K C "highest") : FnOk P w K mg base CX0 1 f fd ["self", "key", "value"] (spBtwHolds C) := by
  refine F.ok scBtw5 (fun vs H Q E h => ?_) (fun cdv A outer s H vs Q E hr h => ?_)
  · obtain ⟨a, d, y, z, lo, hi, zs, kvs, rfl, _⟩ := h
    rfl
  · obtain ⟨a, d, y, z, lo, hi, zs, kvs, rfl, ⟨dx, ha⟩, hd, hv, q⟩ := h
    have hu := hu_of hr
    refine ⟨_, pss_one (ps_ret (pe_and (pe_cmp (pc_din hu (pe_fld (pv 0) rfl) (pv 2)) rfl) (pe_one (pe_chain op_le op_le (pe_fld (pv 0) rfl) (pe_dget hu (pv 2) (pe_fld (pv 0) rfl) (fun _ _ => rfl)) (pe_fld (pv 0) rfl))))), ?_⟩
    refine ⟨_, rfl, a, C, dx, _, _, rfl, ha, c, n1, rfl, _, rfl, d, _, rfl, DGet.k (k := Sum.inr z) hd, _, rfl, ?_⟩
    unfold btwHolds at q
    rcases valV_int hv (Sum.inr z) with e | ⟨n, e⟩
    · rw [e] at q ⊢
      exact iteF q
    · rw [e] at q ⊢
      replace q : Q (.bl (decide (lo ≤ n) && decide (n ≤ hi))) H := q
      refine iteT ?_
      refine ⟨_, rfl, a, C, dx, _, _, rfl, ha, c, n2, rfl, _, rfl, _, rfl, a, C, dx, _, _, rfl, ha, c, n1, rfl, d, _, rfl, by rw [← e]; exact DGet.k (k := Sum.inr z) hd, _, _, rfl, rfl, _, rfl, ?_⟩
      cases e2 : decide (lo ≤ n) with
      | false =>
        refine iteF ?_
        rw [e2] at q
        exact q
      | true =>
        refine iteT ?_
        rw [e2] at q
        exact ⟨_, rfl, a, C, dx, _, _, rfl, ha, c, n3, rfl, _, _, rfl, rfl, q⟩
theorem ok_btwcall {fR fH : Addr} {fdR fdH : FuncData} (F : Fun K "__call__" "Between.__call__" (sBtw 4) f fd) (c : Cls K C) (kR : PySem.W.keepIn K (.ref fR) = true) (bR : Binds K fdR ["key", "value"] []) (gR : mg "need_record" = some (.ref fR))
    (GR : FnOk P w K mg base CX0 4 fR fdR ["key", "value"] spNeedRecord) (hm : Meth K C "holds" fH) (bH : Binds K fdH ["self", "key", "value"] []) (GH : FnOk P w K mg base CX0 1 fH fdH ["self", "key", "value"] (spBtwHolds C)) :
    FnOk P w K mg base CX0 5 f fd ["self", "key", "value"] (spBtwCall C) := by
  refine F.ok scBtw4 (fun vs H Q E h => ?_) (fun cdv A outer s H vs Q E hr h => ?_)
  · obtain ⟨a, d, y, z, lo, hi, zs, kvs, rfl, _⟩ := h
    rfl
  · obtain ⟨a, d, y, z, lo, hi, zs, kvs, rfl, ⟨dx, ha⟩, hy, hd, hv, q⟩ := h
    refine ⟨_, pss_cons (ps_expr (pe_call GR hr rfl gR kR bR .nil pass0 (pa_cons (pv 1) (pa_cons (pv 2) pa_nil))))
      (pss_one (ps_ret (pe_meth (pv 0) c hm GH (hr.mono (by decide)) bH .nil pass0 (pa_cons (pv 1) (pa_cons (pv 2) pa_nil))))), ?_⟩
    refine ⟨_, rfl, _, rfl, y, d, zs, kvs, rfl, hy, hd, hv, fun H1 s1 => ?_⟩
    exact ⟨_, rfl, a, dx, _, rfl, s1 _ _ ha, rfl, _, rfl, _, rfl, a, d, y, z, lo, hi, zs, kvs, rfl, ⟨dx, s1 _ _ ha⟩, s1 _ _ hd, hv.is, q H1 s1⟩
end
end G
set_option Elab.async false
set_option linter.all false
set_option maxRecDepth 100000
set_option maxHeartbeats 2000000
/-! P5: a method that captures __class__ and has *names; Named made. -/
namespace G
open PySem PySem.Spec PyProof.Rows L2 NdefX StX
section
variable {CX : CXT} {P : Program} {w : World} {K : PySem.W.Frag} {mg : Str → Option Value} {base : Heap} {k : Nat} {f cda cc : Addr} {name qual : Str} {params : Arguments} {body : List Stmt} {scope : Scope} {dV kV doc pm ct oc : Value} {an od : Option Addr}
  {osl : Array (Option Value)} {N ps : List Str} {sp : Sp}
theorem cell_one {A : Around} {outer : List Env} {s : Shared} {H : Hp} (e0 : Env0 P w K mg base A outer s H) (hcell : ∃ oc od sl v, K.lookup cc = some ⟨oc, od, .cell v, sl⟩) : CellsAt [(("__class__" : Str), cc)] ["__class__"] [none] s.heap H := by
  have inK : K.In s.heap := e0.mod.kin.keeps fun b o e => (e0.bs b o e).1
  obtain ⟨oc3, od3, sl3, v3, lk3⟩ := hcell
  have one : ∀ {y : Str} {c : Addr}, List.lookup y [(("__class__" : Str), cc)] = some c → y = "__class__" ∧ c = cc := fun {y c} z => by
    have z2 := PySem.mem_of_lookup z
    rw [List.mem_singleton] at z2
    exact ⟨congrArg Prod.fst z2, congrArg Prod.snd z2⟩
  refine ⟨rfl, fun y c z => ?_, fun y y' c z z' => (one z).1.trans (one z').1.symm, fun i y z => ?_⟩
  · obtain ⟨_, rfl⟩ := one z
    exact ⟨(e0.bs _ _ (e0.mod.kin _ _ lk3)).2, v3, _, inK _ _ lk3, rfl⟩
  · have hy : y = "__class__" := by
      have z2 := List.mem_of_getElem? z
      rw [List.mem_singleton] at z2
      exact z2
    subst hy
    refine ⟨cc, by simp [List.lookup], fun v z => ?_⟩
    cases i with
    | zero => cases z
    | succ j => cases z
theorem run_bndx {A : Around} {outer : List Env} {s : Shared} {H : Hp} {args : Args} {Q : VK} {E : XK} {G : List V → Hp → Prop} (lk : K.lookup f = some ⟨oc, od, .func (PySem.W.ksFn name qual params body scope dV kV doc pm an (.ref cda) ct cc), osl⟩)
    (hcd : PySem.W.codeIn K (.ref cda) qual = true) (hcell : ∃ oc od sl v, K.lookup cc = some ⟨oc, od, .cell v, sl⟩) (S : NScope N ps ["__class__"] scope) (hr : Room (k + 1) A) (e0 : Env0 P w K mg base A outer s H)
    (hb : Bnd CX P w K mg base (PySem.W.ksFn name qual params body scope dV kV doc pm an (.ref cda) ct cc) args ps A outer s H E G)
    (hbody : ∀ (s2 : Shared) (H2 : Hp) (vs : List V), G vs H2 → Room k (A.deeper (envF ⟨name, qual, params, body, scope, [("__class__", cc)], cda⟩ f s2.heap.objs.size)) →
      ∃ t, PSsa (ncx CX P w K mg base N ⟨name, qual, params, body, scope, [("__class__", cc)], cda⟩ f A outer s2 H2 E) body body t ∧ t { nx := fun _ H' => Q .non H', rt := Q } (startF N vs [none]) H2) :
    codeAny (model P w) A (.call (.ref f) args) (CR CX outer P w H s Q E) s := by
  have inK : K.In s.heap := e0.mod.kin.keeps fun b o e => (e0.bs b o e).1
  refine codeAny_call_function hr.depth (inK _ _ lk) rfl S.co S.gen rfl (PySem.W.codeRec_of inK hcd) ?_
  refine hb _ _ _ fun s2 H2 vs us e2 un ho hx r hl g => ?_
  have lim : s2.heap.NoLimit := e0.mod.nolimit.keeps fun b o e => (e2.bs b o e).1
  refine wpAny_newFunctionEnv (s := s2) S.nocell (fun y hy => S.par y.1 (List.of_mem_zip hy).1) (fun h₁ hns hsb => ⟨lim.fresh _ hsb, ?_⟩) S.kind
  show codeAny _ _ (.func body (envF ⟨name, qual, params, body, scope, [("__class__", cc)], cda⟩ f s2.heap.objs.size)) _ _
  refine ks_codeAny_funcAt ?_
  have kp : ∀ b o, s2.heap.get? b = some o → h₁.get? b = some o := fun b o e => hsb.extBut b o (Nat.ne_of_lt (Heap.lt_size e)) (Heap.get?_push_of_some _ e)
  obtain ⟨t, ht, hq⟩ := hbody s2 H2 vs g (hr.deeper _)
  have I : Inv (ncx CX P w K mg base N ⟨name, qual, params, body, scope, [("__class__", cc)], cda⟩ f A outer s2 H2 E) [] (startF N vs [none]) H2 { s2 with heap := h₁, toks := s2.toks + (ps.zip us).length } := inv_startN S hr.hd e2 hl r (cell_one e2 hcell) hns kp
  refine ks_wpAt_mono (ht.run [] _ _ _ _ I hq) (fun fl s' hs => ?_) fun e s' hs => ?_
  · have fin : ∀ {σ' : L2.St} {H' : Hp} {v' : V} {u' : Value}, Inv (ncx CX P w K mg base N ⟨name, qual, params, body, scope, [("__class__", cc)], cda⟩ f A outer s2 H2 E) [] σ' H' s' → L2.RelV v' u' → Q v' H' → CE outer P w H s Q u' s' :=
      fun {σ' H' v' u'} J rv' q => ⟨v', H', J.os.trans ho, J.bare, un.trans J.base, J.hok, rv', q⟩
    cases fl with
    | ret u' =>
      obtain ⟨v', σ', H', J, rv', q⟩ := hs
      exact fin J rv' q
    | next =>
      obtain ⟨σ', H', J, q⟩ := hs
      exact fin (v' := V.non) (u' := Value.none) J rfl q
    | brk =>
      obtain ⟨_, _, _, q⟩ := hs
      exact False.elim q
    | cont =>
      obtain ⟨_, _, _, q⟩ := hs
      exact False.elim q
  · exact wpAny_mono hs (fun _ s'' z => hx e s'' z) fun e' s'' z => hx e' s'' z
theorem fnx_star {pv : Str} (lk : K.lookup f = some ⟨oc, od, .func (PySem.W.ksFn name qual params body scope dV kV doc pm an (.ref cda) ct cc), osl⟩) (hcd : PySem.W.codeIn K (.ref cda) qual = true) (hcell : ∃ oc od sl v, K.lookup cc = some ⟨oc, od, .cell v, sl⟩)
    (S : NScope N (ps ++ [pv]) ["__class__"] scope) (hCX : CXUp CX)
    (hb : ∀ us rest : List Value, us.length = ps.length → bindArgs (PySem.W.ksFn name qual params body scope dV kV doc pm an (.ref cda) ct cc) ⟨us ++ rest, []⟩ = (newTuple rest >>= fun t => pure (ps.zip us ++ [(pv, t)])))
    (hbody : ∀ (A : Around) (outer : List Env) (s : Shared) (H : Hp) (vs : List V) (Q : VK) (E : XK), Room k (A.deeper (envF ⟨name, qual, params, body, scope, [("__class__", cc)], cda⟩ f s.heap.objs.size)) → sp vs H Q E →
      ∃ t, PSsa (ncx CX P w K mg base N ⟨name, qual, params, body, scope, [("__class__", cc)], cda⟩ f A outer s H E) body body t ∧ t { nx := fun _ H' => Q .non H', rt := Q } (startF N vs [none]) H) :
    FnR P w K mg base CX (k + 1) f (fun vs H Q E => ∃ ws rest, vs = ws ++ rest ∧ ws.length = ps.length ∧ rest.length ≤ sizeLine ∧ ∀ p, H p = Option.none → sp (ws ++ [V.ref p]) (upd H p (.tup rest)) Q E) := by
  intro A outer s H us vs Q E hr e0 r hsp
  obtain ⟨ws, rest, rfl, hl, hz, hq⟩ := hsp
  obtain ⟨u1, u2, rfl, r1, r2⟩ := vals_split r
  have hn : H s.heap.objs.size = Option.none := e0.hok.fresh (Nat.le_refl _)
  have hl1 : u1.length = ps.length := by rw [← r1.length]; exact hl
  have hl2 : u2.length ≤ sizeLine := by rw [← r2.length]; exact hz
  refine run_bndx lk hcd hcell S hr e0 (G := fun xs H2 => ∃ p, H p = Option.none ∧ xs = ws ++ [V.ref p] ∧ H2 = upd H p (.tup rest)) (fun A' Ex Q' h => ?_) fun s2 H2 xs g hr' => ?_
  · rw [hb u1 u2 hl1]
    have new : ObjOk P w (upd H s.heap.objs.size (.tup rest)) (s.heap.push ({ cls := .type "tuple", data := .seq u2.toArray } : Obj)) s.heap.objs.size (.tup rest) := ⟨hz, u2, r2, ⟨_, Heap.get?_push_size _ rfl, rfl, _, rfl⟩⟩
    have un := un_laid (fs := frs outer) (s := s) (o := ({ cls := .type "tuple", data := .seq u2.toArray } : Obj)) (u := .tup rest) hn
    have z := h _ _ (ws ++ [V.ref s.heap.objs.size]) (u1 ++ [Value.ref s.heap.objs.size]) (env0_laid e0 new) un rfl (fun e s' => hCX outer s H _ _ E e s' un (fun b o q => Heap.get?_push_of_some _ q) rfl) (r1.append (.cons rfl .nil))
      (by rw [List.length_append, List.length_append, hl] <;> rfl) ⟨_, hn, rfl, rfl⟩
    rw [List.zip_append hl1.symm] at z
    exact wpAny_bind (wpAny_newTuple (wpAny_pure z) hl2)
  · obtain ⟨p, hp, rfl, rfl⟩ := g
    exact hbody A outer s2 _ _ Q E hr' (hq p hp)
end
/-! ### Named -/
abbrev sNamInit : Stmt := inClass (topS 38) 0
abbrev nNam : List Str := ["self", "names", "__class__", "name"]
theorem scNamInit : NScope nNam ([("self" : Str)] ++ [("names" : Str)]) ["__class__"] (defScope sNamInit) := nscope_by (by decide +kernel)
def namFs (t : Addr) : List (Str × V) := [("leaf_count", .int 1), ("height", .int 1), ("name_count", .int 0), ("accepted_names", .ref t)]
/-- the fields with n names -/
def namF (n : Nat) (t : Addr) : List (Str × V) := [("leaf_count", .int 1), ("height", .int 1), ("name_count", .int (n : Nat)), ("accepted_names", .ref t)]
def spNam (C : Addr) : Sp := fun vs H Q _ => ∃ (a dx t : Addr) (zs : List Str), vs = [.ref a, .ref t] ∧ H a = some (.ins C dx []) ∧ H t = some (.tup (zs.map V.str)) ∧ zs.length ≤ 8 ∧ (∀ z ∈ zs, NameZ z) ∧
  ∀ H', Same (upd H a (.ins C dx [("leaf_count", .int 1), ("height", .int 1), ("name_count", .int (zs.length : Nat))])) H' → Q .non (upd H' a (.ins C dx (namF zs.length t)))
section
variable {P : Program} {w : World} {K : PySem.W.Frag} {mg : Str → Option Value} {base : Heap}
theorem ok_naminit {f cda cc C f2 fN : Addr} {kV : Value} {fd fdN fdC : FuncData} (F : FunX K "__init__" "Named.__init__" sNamInit f cda cc kV fd) (S : SupOf P K f cda cc C C f2 "self") (c : Cls K C) (n1 : NoAttr K C "accepted_names")
    (GN : FnOk P w K mg base CX0 2 fN fdN ["value"] spNeedName) (gN : mg "need_name" = some (.ref fN)) (kN : PySem.W.keepIn K (.ref fN) = true) (bN : Binds K fdN ["value"] [])
    (GC : FnOk P w K mg base CX0 1 f2 fdC ["self", "leaf_count", "height", "name_count"] (spCond C)) (bC : Binds K fdC ["self", "leaf_count", "height", "name_count"] []) (ms : mg "super" = none) (ml : mg "len" = none) :
    FnR P w K mg base CX0 3 f (fun vs H Q E => ∃ ws rest, vs = ws ++ rest ∧ ws.length = ["self"].length ∧ rest.length ≤ sizeLine ∧ ∀ p, H p = Option.none → spNam C (ws ++ [V.ref p]) (upd H p (.tup rest)) Q E) := by
  obtain ⟨oc, od, doc, pm, an, ct, osl, rfl, lk, hcd⟩ := F.ex
  refine fnx_star (ps := ["self"]) (pv := "names") (k := 2) lk hcd F.cell scNamInit cxUp_none (fun us rest hl => match us, rest, hl with | [_], [], _ => rfl | [_], _ :: _, _ => rfl) (fun A outer s H vs Q E hr h => ?_)
  obtain ⟨a, dx, t, zs, rfl, ha, ht, h8, hz, q⟩ := h
  have hr1 := hr.mono (show 1 ≤ 2 by decide)
  refine ⟨_, pssa_cons (psa_super (i := 0) S (GC.raw bC .nil) hr1 pass0 rfl rfl rfl rfl rfl rfl ms rfl (pa_cons pe_int (pa_cons pe_int (pa_cons (pe_callB call_len_seq (by rfl) ml PySem.boot_len (pa_cons (pv 1) pa_nil)) pa_nil))))
    (pssa (pss_cons (ps_for PassesOwn.leaving rfl (pi_tup (pv 1)) (pg_name (i := 3) scNamInit.nd rfl (.inl rfl)) (pss_one (ps_expr (pe_call GN hr rfl gN kN bN .nil pass0 (pa_cons (pv 3) pa_nil)))))
      (pss_one (ps_fld (pv 0) (pv 1) rfl)))), ?_⟩
  have nat : t ≠ a := fun z => by
    rw [z, ha] at ht
    cases ht
  refine ⟨a, dx, [], rfl, ha, _, rfl, t, _, rfl, .inr (.of ht), a, dx, 1, 1, _, [], rfl, ha, by decide, by decide, by decide, by rw [List.length_map]; omega, ?_⟩
  rw [List.length_map]
  have ht1 : (upd H a (.ins C dx (putF "name_count" (.int (zs.length : Nat)) (putF "height" (.int 1) (putF "leaf_count" (.int 1) []))))) t = some (.tup (zs.map V.str)) := (upd_ne nat).trans ht
  refine ⟨_, rfl, t, rfl, ⟨_, .of ht1⟩, ?_⟩
  refine for_tup (xs := zs.map V.str) (fun i σ H2 => ∃ x3 : Option V, σ = [some (.ref a), some (.ref t), none, x3] ∧ Same (upd H a (.ins C dx [("leaf_count", .int 1), ("height", .int 1), ("name_count", .int (zs.length : Nat))])) H2) ?_ ?_ ?_ ?_
  · exact ⟨none, rfl, Same.refl _⟩
  · rintro i σ H2 _ ⟨x3, rfl, s2⟩
    exact .of (s2 _ _ ht1)
  · rintro i x σ H2 hx ⟨x3, rfl, s2⟩
    rw [List.getElem?_map] at hx
    obtain ⟨y, hy, rfl⟩ := Option.map_eq_some_iff.mp hx
    exact ⟨_, rfl, y, rfl, hz y (List.mem_of_getElem? hy), fun H3 s3 => ⟨_, rfl, s2.trans s3⟩⟩
  · rintro σ H2 ⟨x3, rfl, s2⟩
    exact ⟨_, rfl, _, rfl, a, C, dx, _, rfl, s2 _ _ upd_same, c, n1, (by show 3 < 1000; decide), q H2 s2⟩
end
end G
set_option Elab.async false
set_option linter.all false
set_option maxRecDepth 100000
set_option maxHeartbeats 2000000
/-! P6: a Named asked. -/
namespace G
open PySem PySem.Spec PyProof.Rows L2 NdefX
abbrev sNam (j : Nat) : Stmt := inClass (topS 38) j
theorem scNam1 : FnScope ["self"] ["self"] (defScope (sNam 1)) := ⟨rfl, rfl, rfl, by decide +kernel, rfl, by decide +kernel, by decide +kernel⟩
theorem scNam2 : FnScope ["self", "key", "value"] ["self", "key", "value"] (defScope (sNam 2)) := ⟨rfl, rfl, rfl, by decide +kernel, rfl, by decide +kernel, by decide +kernel⟩
theorem scNam3 : FnScope ["self", "key", "value"] ["self", "key", "value"] (defScope (sNam 3)) := ⟨rfl, rfl, rfl, by decide +kernel, rfl, by decide +kernel, by decide +kernel⟩
theorem scNam4 : FnScope ["self"] ["self"] (defScope (sNam 4)) := ⟨rfl, rfl, rfl, by decide +kernel, rfl, by decide +kernel, by decide +kernel⟩
theorem scNam5 : FnScope ["self"] ["self"] (defScope (sNam 5)) := ⟨rfl, rfl, rfl, by decide +kernel, rfl, by decide +kernel, by decide +kernel⟩
/-- at a stands Named(*zs), whose tuple is at t -/
def NamAt (C : Addr) (H : Hp) (a t : Addr) (zs : List Str) : Prop := ∃ dx, H a = some (.ins C dx (namF zs.length t)) ∧ H t = some (.tup (zs.map V.str))
theorem NamAt.same {C a t : Addr} {H H' : Hp} {zs : List Str} (h : NamAt C H a t zs) (s : Same H H') : NamAt C H' a t zs := let ⟨dx, h1, h2⟩ := h; ⟨dx, s _ _ h1, s _ _ h2⟩
def spNamAcc (C : Addr) : Sp := fun vs H Q _ => ∃ (a t : Addr) (zs : List Str), vs = [.ref a] ∧ NamAt C H a t zs ∧ Q (.ref t) H
def spNamOne (C : Addr) : Sp := fun vs H Q _ => ∃ (a t : Addr) (zs : List Str), vs = [.ref a] ∧ NamAt C H a t zs ∧ Q (.int 1) H
def spNamHolds (C : Addr) : Sp := fun vs H Q _ => ∃ (a d t : Addr) (y : Str) (zs : List Str), vs = [.ref a, .str y, .ref d] ∧ NamAt C H a t zs ∧ Q (.bl (inV (.str y) (zs.map V.str))) H
def spNamCall (C : Addr) : Sp := fun vs H Q _ => ∃ (a d t : Addr) (y : Str) (zs ws : List Str) (kvs : List (Key × V)), vs = [.ref a, .str y, .ref d] ∧ NamAt C H a t zs ∧ NameZ y ∧ H d = some (.dK kvs) ∧ ValOk ws kvs ∧
  ∀ H', Same H H' → Q (.bl (inV (.str y) (zs.map V.str))) H'
section
variable {P : Program} {w : World} {K : PySem.W.Frag} {mg : Str → Option Value} {base : Heap} {f C : Addr} {fd : FuncData}
theorem ok_namleaves (F : Fun K "leaves" "Named.leaves" (sNam 4) f fd) (c : Cls K C) (n : NoAttr K C "leaf_count") : FnOk P w K mg base CX0 1 f fd ["self"] (spNamOne C) := by
  refine F.ok scNam4 (fun vs H Q E h => ?_) (fun cdv A outer s H vs Q E hr h => ?_)
  · obtain ⟨a, t, zs, rfl, _⟩ := h
    rfl
  · obtain ⟨a, t, zs, rfl, ⟨dx, ha, _⟩, q⟩ := h
    exact ⟨_, pss_one (ps_ret (pe_fld (pv 0) rfl)), _, rfl, a, C, dx, _, _, rfl, ha, c, n, rfl, q⟩
theorem ok_namdepth (F : Fun K "depth" "Named.depth" (sNam 5) f fd) (c : Cls K C) (n : NoAttr K C "height") : FnOk P w K mg base CX0 1 f fd ["self"] (spNamOne C) := by
  refine F.ok scNam5 (fun vs H Q E h => ?_) (fun cdv A outer s H vs Q E hr h => ?_)
  · obtain ⟨a, t, zs, rfl, _⟩ := h
    rfl
  · obtain ⟨a, t, zs, rfl, ⟨dx, ha, _⟩, q⟩ := h
    exact ⟨_, pss_one (ps_ret (pe_fld (pv 0) rfl)), _, rfl, a, C, dx, _, _, rfl, ha, c, n, rfl, q⟩
theorem ok_namholds (F : Fun K "holds" "Named.holds" (sNam 3) f fd) (c : Cls K C) (n : NoAttr K C "accepted_names") : FnOk P w K mg base CX0 1 f fd ["self", "key", "value"] (spNamHolds C) := by
  refine F.ok scNam3 (fun vs H Q E h => ?_) (fun cdv A outer s H vs Q E hr h => ?_)
  · obtain ⟨a, d, t, y, zs, rfl, _⟩ := h
    rfl
  · obtain ⟨a, d, t, y, zs, rfl, ⟨dx, ha, ht⟩, q⟩ := h
    refine ⟨_, pss_one (ps_ret (pe_cmpR op_in_seq (pv 1) (pe_fld (pv 0) rfl) (by rfl))), ?_⟩
    refine ⟨_, rfl, _, rfl, a, C, dx, _, _, rfl, ha, c, n, rfl, t, _, rfl, .inr (.of ht), rfl, ?_, q⟩
    rw [List.all_eq_true]
    intro x hx
    obtain ⟨z, _, rfl⟩ := List.mem_map.mp hx
    rfl
theorem ok_namcall {fR fH : Addr} {fdR fdH : FuncData} (F : Fun K "__call__" "Named.__call__" (sNam 2) f fd) (c : Cls K C) (kR : PySem.W.keepIn K (.ref fR) = true) (bR : Binds K fdR ["key", "value"] []) (gR : mg "need_record" = some (.ref fR))
    (GR : FnOk P w K mg base CX0 4 fR fdR ["key", "value"] spNeedRecord) (hm : Meth K C "holds" fH) (bH : Binds K fdH ["self", "key", "value"] []) (GH : FnOk P w K mg base CX0 1 fH fdH ["self", "key", "value"] (spNamHolds C)) :
    FnOk P w K mg base CX0 5 f fd ["self", "key", "value"] (spNamCall C) := by
  refine F.ok scNam2 (fun vs H Q E h => ?_) (fun cdv A outer s H vs Q E hr h => ?_)
  · obtain ⟨a, d, t, y, zs, ws, kvs, rfl, _⟩ := h
    rfl
  · obtain ⟨a, d, t, y, zs, ws, kvs, rfl, hn, hy, hd, hv, q⟩ := h
    refine ⟨_, pss_cons (ps_expr (pe_call GR hr rfl gR kR bR .nil pass0 (pa_cons (pv 1) (pa_cons (pv 2) pa_nil))))
      (pss_one (ps_ret (pe_meth (pv 0) c hm GH (hr.mono (by decide)) bH .nil pass0 (pa_cons (pv 1) (pa_cons (pv 2) pa_nil))))), ?_⟩
    refine ⟨_, rfl, _, rfl, y, d, ws, kvs, rfl, hy, hd, hv, fun H1 s1 => ?_⟩
    obtain ⟨dx, ha, ht⟩ := hn.same s1
    exact ⟨_, rfl, a, dx, _, rfl, ha, rfl, _, rfl, _, rfl, a, d, t, y, zs, rfl, ⟨dx, ha, ht⟩, q H1 s1⟩
end
end G
set_option Elab.async false
set_option linter.all false
set_option maxRecDepth 100000
set_option maxHeartbeats 2000000
/-! P7: an instance called with keywords alone. -/
namespace G
open PySem PySem.Spec PyProof.Rows L2 NdefX StX
theorem callOK_of {M : Model} {A : Around} {E : Value → Shared → Prop} {s : Shared} {a : Addr} {pos : Pos} {Q : Value → Shared → Prop} {args : List (Bool × Sem Value)} {keywords : List (Option Str × Sem Value)}
    (plain : (args.any (·.1) || keywords.any (·.1.isNone)) = false)
    (h : wpAny M A (evalArgs (.ref a) true args keywords) (fun z s₁ => (∃ C ox od, PySem.W.InstAt s₁.heap a ox C od ∧ ox.data = .plain) ∧ wpAny M A (call (.ref a) ([] ++ z.pos) z.kw) Q E s₁) E s) :
    wpAny M A (callWith pos (.ref a) [] args keywords) Q E s := by
  unfold callWith
  refine wpAny_bind (wpAny_holding (wpAny_mono h (fun z s₁ hz => wpAny_bind (wpAny_standAt ?_)) fun _ _ y => y))
  obtain ⟨C, ox, od, J, hd⟩ := hz.1
  simp only [plain]
  refine wpAny_bind ((PySem.W.kco_keeper (M := M) J hd).here ?_)
  have fin : ∀ {t : Sem Value}, wpAny M A t Q E s₁ → wpAny M A (t >>= fun r => holding [r] point >>= fun _ => pure r) Q E s₁ := fun go =>
    wpAny_bind (wpAny_mono go (fun r s₂ hr => wpAny_bind (wpAny_holding (wpAny_point (wpAny_pure hr)))) fun _ _ y => y)
  exact fin (wpAny_operateT hz.2)
/-- x(k = v, ..), x a name that holds an instance of C -/
def tCallOK (X : Cx) (C : Addr) (m : Nat) (sp : Sp) (gV : List V → List V → List V) (E : XK) (tf : TE) (tk : TA) : TE := fun σ H Q => tf σ H fun y H1 => ∃ a, y = V.ref a ∧ tk σ H1 fun zs H2 => zs.length = m ∧ InsC X H2 a C ∧ sp (gV [V.ref a] zs) H2 Q E
theorem pe_callOK {X : Cx} {CX : CXT} {k : Nat} {C g0 : Addr} {fd : FuncData} {ps ks : List Str} {sp : Sp} {E : XK} {x : Str} {p pos : Pos} {kws : List Keyword} {tf : TE} {tk : TA} {g : List Value → List Value → List Value} {gV : List V → List V → List V}
    (hf : PE X (.Name x p) tf) (c : CallO X.K C g0) (F : FnOk X.prog X.w X.K X.mg X.base CX k g0 fd ps sp) (hr : Room k X.A) (hb : KBn X.K fd ps 1 ks g gV) (hx : Passes CX X E) (hkw : PK X kws tk)
    (hall : (backToKw pos (keywordEach kws X.env)).all (·.1.isSome) = true := by rfl) (hks : (backToKw pos (keywordEach kws X.env)).filterMap (·.1) = ks := by rfl)
    (hpl : ((backTo pos (starEach [] X.env)).any (·.1) || (backToKw pos (keywordEach kws X.env)).any (·.1.isNone)) = false := by rfl) :
    PE X (.Call (.Name x p) [] kws pos) (tCallOK X C ks.length sp gV E tf tk) := by
  refine ⟨fun pins s σ H Q I h => ?_⟩
  refine wpAny_Call_Name_kw (thn (hf.run pins s σ H _ I h) fun u s1 ⟨y, H1, I1, ry, a, ey, q⟩ => ?_)
  subst ey
  obtain rfl : u = Value.ref a := ry
  refine callOK_of hpl (evalArgs_kw2_nil hall (thn (hkw.run pos pins s1 σ H1 _ I1 q) fun ws s2 ⟨zs, H2, I2, rz, l2, hi, q2⟩ => ?_))
  obtain ⟨ox, od, J, hd⟩ := insC_at I2 hi
  refine ⟨⟨C, ox, od, J, hd⟩, ?_⟩
  rw [hks]
  have r1 : Vals [V.ref a] [Value.ref a] := .cons rfl .nil
  have r2 := hb.rel r1 rz
  refine wpAny_call (PySem.W.kco_code I2.kIn J hd c.at_ c.fn c.fi (codeAny_mono (F.run X.A X.stack s2 H2 ⟨[.ref a], ks.zip ws⟩ (g [.ref a] ws) (gV [.ref a] zs) Q E hr I2.env0 (hb.to s2 [.ref a] ws I2.kIn rfl (rz.length.symm.trans l2)) r2 q2) fun r s' hq => ?_))
  cases r with
  | error e => exact hx pins σ H2 s2 e s' I2 hq
  | ok fl =>
    cases fl with
    | ret u => exact I2.after hq
    | next => exact False.elim hq
    | brk => exact False.elim hq
    | cont => exact False.elim hq
/-- __call__(value = v, key = k) -/
theorem kb_vk {K : PySem.W.Frag} {qual : Str} {st : Stmt} {f : Addr} {fd : FuncData} (F : Fun K "__call__" qual st f fd)
    (h : ∀ (kV doc pm : Value) (an : Option Addr) (cdv ct : Value) (a v k : Value), bindArgs (PySem.W.fnOf "__call__" qual (defArgs st) (defBody st) (defScope st) .none kV doc pm an cdv ct) ⟨[a], [("value", v), ("key", k)]⟩ = pure [(("self" : Str), a), (("key" : Str), k), (("value" : Str), v)]) :
    KBn K fd ["self", "key", "value"] 1 ["value", "key"] (fun us ws => us ++ ws.reverse) (fun vs zs => vs ++ zs.reverse) := by
  obtain ⟨oc, od, kV, doc, pm, an, cdv, ct, osl, rfl, lk, hcd⟩ := F.ex
  refine ⟨fun s us ws _ hu hw => ?_, fun {vs us zs ws} r1 r2 => ?_⟩
  · match us, ws, hu, hw with
    | [a], [v, k], _, _ => exact .of_eq (h kV doc pm an cdv ct a v k)
  · have rev : ∀ {zs : List V} {ws : List Value}, Vals zs ws → Vals zs.reverse ws.reverse := by
      intro zs ws r
      induction r with
      | nil => exact .nil
      | cons a _ ih =>
        rw [List.reverse_cons, List.reverse_cons]
        exact ih.append (.cons a .nil)
    exact r1.append (rev r2)
end G
set_option Elab.async false
set_option linter.all false
set_option maxRecDepth 100000
set_option maxHeartbeats 2000000
/-! P8: how Between's arguments are bound. -/
namespace G
open PySem PySem.Spec PyProof.Rows L2 NdefX StX
section
variable {K : PySem.W.Frag} {f cda cc D : Addr} {fd : FuncData} {t1 t2 : Tok}
/-- the defaults of low and high -/
structure BtwDef (K : PySem.W.Frag) (D : Addr) : Prop where
  lo : ∃ t, PySem.W.nsIn K D "low" = some (some (.int (-999) t))
  hi : ∃ t, PySem.W.nsIn K D "high" = some (some (.int 999 t))
abbrev psBtw : List Str := ["self", "field", "low", "high"]
theorem btw_b1 (F : FunX K "__init__" "Between.__init__" sBtwInit f cda cc (.ref D) fd) (d : BtwDef K D) : ∃ ds : List Value, Binds K fd psBtw ds ∧ Vals [V.int (-999), V.int 999] ds := by
  obtain ⟨oc, od, doc, pm, an, ct, osl, rfl, lk, hcd⟩ := F.ex
  obtain ⟨tl, hl⟩ := d.lo
  obtain ⟨th, hh⟩ := d.hi
  refine ⟨[.int (-999) tl, .int 999 th], fun s us X hlen => ?_, .cons ⟨tl, rfl⟩ (.cons ⟨th, rfl⟩ .nil)⟩
  have h2 : us.length = 2 := by
    rw [List.length_append] at hlen
    have h3 : us.length + 2 = 4 := hlen
    omega
  match us, h2 with
  | [a, b], _ =>
    refine BindsTo.of_looks fun M => KwChain.looks (l := [("low", .int (-999) tl), ("high", .int 999 th)]) (D := D) X (fun q hq => ?_) ⟨_, _, _, _, _, _, rfl, rfl, _, _, _, _, _, _, rfl, rfl, rfl⟩
    rcases List.mem_cons.mp hq with rfl | hq
    · exact hl
    · rcases List.mem_cons.mp hq with rfl | hq
      · exact hh
      · cases hq
theorem btw_b2 (F : FunX K "__init__" "Between.__init__" sBtwInit f cda cc (.ref D) fd) (d : BtwDef K D) : ∃ t, KBn K fd psBtw 2 ["low"] (fun us ws => us ++ (ws ++ [.int 999 t])) (fun vs zs => vs ++ (zs ++ [.int 999])) := by
  obtain ⟨oc, od, doc, pm, an, ct, osl, rfl, lk, hcd⟩ := F.ex
  obtain ⟨th, hh⟩ := d.hi
  refine ⟨th, fun s us ws X h1 h2 => ?_, fun r1 r2 => r1.append (r2.append (.cons ⟨th, rfl⟩ .nil))⟩
  match us, ws, h1, h2 with
  | [a, b], [c], _, _ =>
    refine BindsTo.of_looks fun M => KwChain.looks (l := [("high", .int 999 th)]) (D := D) X (fun q hq => ?_) ⟨_, _, _, _, _, _, rfl, rfl, rfl⟩
    rcases List.mem_cons.mp hq with rfl | hq
    · exact hh
    · cases hq
theorem btw_b3 (F : FunX K "__init__" "Between.__init__" sBtwInit f cda cc (.ref D) fd) (d : BtwDef K D) : ∃ t, KBn K fd psBtw 1 ["high", "field"] (fun us ws => us ++ (ws.drop 1 ++ ([.int (-999) t] ++ ws.take 1))) (fun vs zs => vs ++ (zs.drop 1 ++ ([.int (-999)] ++ zs.take 1))) := by
  obtain ⟨oc, od, doc, pm, an, ct, osl, rfl, lk, hcd⟩ := F.ex
  obtain ⟨tl, hl⟩ := d.lo
  refine ⟨tl, fun s us ws X h1 h2 => ?_, fun r1 r2 => r1.append ((r2.drop 1).append ((show Vals [V.int (-999)] [Value.int (-999) tl] from .cons ⟨tl, rfl⟩ .nil).append (r2.take 1)))⟩
  match us, ws, h1, h2 with
  | [a], [c, b], _, _ =>
    refine BindsTo.of_looks fun M => KwChain.looks (l := [("low", .int (-999) tl)]) (D := D) X (fun q hq => ?_) ⟨_, _, _, _, _, _, rfl, rfl, rfl⟩
    rcases List.mem_cons.mp hq with rfl | hq
    · exact hl
    · cases hq
theorem btw_b4 (F : FunX K "__init__" "Between.__init__" sBtwInit f cda cc (.ref D) fd) : KBn K fd psBtw 2 ["high", "low"] (fun us ws => us ++ (ws.drop 1 ++ ws.take 1)) (fun vs zs => vs ++ (zs.drop 1 ++ zs.take 1)) := by
  obtain ⟨oc, od, doc, pm, an, ct, osl, rfl, lk, hcd⟩ := F.ex
  refine ⟨fun s us ws X h1 h2 => ?_, fun r1 r2 => r1.append ((r2.drop 1).append (r2.take 1))⟩
  match us, ws, h1, h2 with
  | [a, b], [c, d], _, _ => exact .of_eq rfl
end
end G
set_option Elab.async false
set_option linter.all false
set_option maxRecDepth 100000
set_option maxHeartbeats 2000000
/-! HK: the head's facts by a Hook of our own: methods that capture __class__, properties, instances that are called; the law's end over it. -/
namespace G
open PySem PySem.Spec PyProof.Rows L2 NdefX StX He

/-! ### defs by where they stand -/
/-- a def of the text: where it stands, its names, its statement, the names that it captures -/
structure Dp where
  at_ : PySem.W.Frag → Addr
  name : Str
  qual : Str
  st : Stmt
  clo : List Str
abbrev FnY : Type := Option (Str × Str × Arguments × FuncBody × Scope × Addr × List Str × Addr)
def fnY (K : PySem.W.Frag) (a : Addr) : FnY := match K.lookup a with
  | some ⟨_, _, .func fd, _⟩ => some (fd.name, fd.qualname, fd.params, fd.body, fd.scope, fd.globals, fd.closure.map (·.1), fd.builtins)
  | _ => none
def Dp.val (d : Dp) : FnY := some (d.name, d.qual, defArgs d.st, .stmts (defBody d.st), defScope d.st, mainGlobals, d.clo, builtinsNs)
def noneB : Value → Bool
  | .none => true
  | _ => false
/-- the def's code, no positional defaults -/
def codB (K : PySem.W.Frag) (a : Addr) (q : Str) : Bool := match K.lookup a with
  | some ⟨_, _, .func fd, _⟩ => PySem.W.codeIn K fd.code q && noneB fd.defaults
  | _ => false
def plainB (K : PySem.W.Frag) (a : Addr) (q : Str) : Bool := PySem.W.keepIn K (.ref a) && codB K a q
theorem fun_of {K : PySem.W.Frag} {a : Addr} {d : Dp} (e : fnY K a = d.val) (hc : d.clo = []) (c : plainB K a d.qual = true) : ∃ fd, Fun K d.name d.qual d.st a fd := by
  obtain ⟨kp, c2⟩ := ba c
  unfold fnY Dp.val at e
  rw [hc] at e
  unfold codB at c2
  cases q : K.lookup a with
  | none =>
    rw [q] at c2
    cases c2
  | some o =>
    obtain ⟨oc, od, dt, osl⟩ := o
    rw [q] at c2 e
    cases dt with
    | func fd =>
      obtain ⟨n1, n2, n3, n4, n5, n6, n7, n8, n9, n10, n11, n12, n13, n14, n15⟩ := fd
      have e2 : (some (n1, n2, n3, n4, n5, n6, n7.map (·.1), n15) : FnY) = some (d.name, d.qual, defArgs d.st, .stmts (defBody d.st), defScope d.st, mainGlobals, [], builtinsNs) := e
      simp only [Option.some.injEq, Prod.mk.injEq] at e2
      obtain ⟨h1, h2, h3, h4, h5, h6, h7, h8⟩ := e2
      have h7' : n7 = [] := List.map_eq_nil_iff.mp h7
      subst h1 h2 h3 h4 h5 h6 h7' h8
      have c3 : (PySem.W.codeIn K n13 d.qual && noneB n8) = true := c2
      obtain ⟨k1, k2⟩ := ba c3
      cases n8 with
      | none => exact ⟨_, ⟨oc, od, n9, n10, n11, n12, n13, n14, osl, rfl, q, k1⟩, kp⟩
      | _ => cases k2
    | _ => cases c2
/-- a method that captures __class__ -/
def celC (K : PySem.W.Frag) (cc C : Addr) : Bool := match K.lookup cc with
  | some ⟨_, _, .cell (some (.ref D)), _⟩ => decide (D = C)
  | _ => false
def cloB (K : PySem.W.Frag) (a C : Addr) : Bool := match K.lookup a with
  | some ⟨_, _, .func fd, _⟩ => (match fd.closure with
    | [(_, cc)] => celC K cc C
    | _ => false)
  | _ => false
/-- .. its code object's file -/
def filC (K : PySem.W.Frag) (c : Addr) (file : Str) : Bool := match K.lookup c with
  | some ⟨_, _, .fields vs, _⟩ => (match vs.toList[2]? with
    | some (Value.str fl _) => file == fl
    | _ => false)
  | _ => false
def filV (K : PySem.W.Frag) (v : Value) (file : Str) : Bool := match v with
  | .ref c => filC K c file
  | _ => false
def filB (K : PySem.W.Frag) (a : Addr) (file : Str) : Bool := match K.lookup a with
  | some ⟨_, _, .func fd, _⟩ => filV K fd.code file
  | _ => false
def kwV (K : PySem.W.Frag) (a : Addr) : Value := match K.lookup a with
  | some ⟨_, _, .func fd, _⟩ => fd.kwdefaults
  | _ => .none
/-- what FunX and SupOf want of the def at a, of the class at C -/
structure ClsDef (P : Program) (K : PySem.W.Frag) (d : Dp) (a C : Addr) : Prop where
  ex : ∃ (oc : Value) (od : Option Addr) (doc pm ct : Value) (an : Option Addr) (osl : Array (Option Value)) (cda cc : Addr) (oc3 : Value) (od3 : Option Addr) (sl3 : Array (Option Value)) (oc2 : Value) (od2 : Option Addr) (vs : Array Value) (sl2 : Array (Option Value)) (fl : Str) (tf : Tok),
    K.lookup a = some ⟨oc, od, .func (PySem.W.ksFn d.name d.qual (defArgs d.st) (defBody d.st) (defScope d.st) .none (kwV K a) doc pm an (.ref cda) ct cc), osl⟩ ∧ PySem.W.codeIn K (.ref cda) d.qual = true ∧
    K.lookup cc = some ⟨oc3, od3, .cell (some (.ref C)), sl3⟩ ∧ K.lookup cda = some ⟨oc2, od2, .fields vs, sl2⟩ ∧ vs.toList[2]? = some (Value.str fl tf) ∧ ((P.main.file : Str) == fl) = true
theorem clsdef_of {P : Program} {K : PySem.W.Frag} {a C : Addr} {d : Dp} (e : fnY K a = d.val) (hc : d.clo = [("__class__" : Str)]) (c : (codB K a d.qual && (cloB K a C && filB K a P.main.file)) = true) : ClsDef P K d a C := by
  obtain ⟨c1, c23⟩ := ba c
  obtain ⟨c2, c3⟩ := ba c23
  unfold fnY Dp.val at e
  rw [hc] at e
  unfold codB at c1
  unfold cloB at c2
  unfold filB at c3
  cases q : K.lookup a with
  | none =>
    rw [q] at c1
    cases c1
  | some o =>
    obtain ⟨oc, od, dt, osl⟩ := o
    rw [q] at c1 c2 c3 e
    cases dt with
    | func fd =>
      have ekw : kwV K a = fd.kwdefaults := by
        unfold kwV
        rw [q]
      obtain ⟨n1, n2, n3, n4, n5, n6, n7, n8, n9, n10, n11, n12, n13, n14, n15⟩ := fd
      have e2 : (some (n1, n2, n3, n4, n5, n6, n7.map (·.1), n15) : FnY) = some (d.name, d.qual, defArgs d.st, .stmts (defBody d.st), defScope d.st, mainGlobals, [("__class__" : Str)], builtinsNs) := e
      simp only [Option.some.injEq, Prod.mk.injEq] at e2
      obtain ⟨h1, h2, h3, h4, h5, h6, h7, h8⟩ := e2
      obtain ⟨cc, rfl⟩ : ∃ cc, n7 = [(("__class__" : Str), cc)] := by
        match n7, h7 with
        | [(y, cc)], h7 =>
          have : y = ("__class__" : Str) := by
            have h9 : [y] = [("__class__" : Str)] := h7
            exact List.head_eq_of_cons_eq h9
          exact ⟨cc, by rw [this]⟩
      subst h1 h2 h3 h4 h5 h6 h8
      have c4 : (PySem.W.codeIn K n13 d.qual && noneB n8) = true := c1
      obtain ⟨k1, k2⟩ := ba c4
      have c5 : celC K cc C = true := c2
      unfold celC at c5
      have c6 : filV K n13 P.main.file = true := c3
      obtain ⟨oc3, od3, sl3, hcell⟩ : ∃ oc3 od3 sl3, K.lookup cc = some ⟨oc3, od3, .cell (some (.ref C)), sl3⟩ := by
        split at c5
        · rename_i x1 x2 D x3 ho
          rw [of_decide_eq_true c5] at ho
          exact ⟨_, _, _, ho⟩
        · cases c5
      cases n13 with
      | ref cda =>
        have c7 : filC K cda P.main.file = true := c6
        unfold filC at c7
        obtain ⟨oc2, od2, vs, sl2, fl, tf, w1, w2, w3⟩ : ∃ oc2 od2 vs sl2 fl tf, K.lookup cda = some ⟨oc2, od2, .fields vs, sl2⟩ ∧ vs.toList[2]? = some (Value.str fl tf) ∧ ((P.main.file : Str) == fl) = true := by
          split at c7
          · rename_i x1 x2 vs x3 ho
            split at c7
            · rename_i fl tf hv
              exact ⟨_, _, vs, _, fl, tf, ho, hv, c7⟩
            · cases c7
          · cases c7
        cases n8 with
        | none =>
          refine ⟨oc, od, n10, n11, n14, n12, osl, cda, cc, oc3, od3, sl3, oc2, od2, vs, sl2, fl, tf, ?_, k1, hcell, w1, w2, w3⟩
          rw [ekw]
          exact q
        | _ => cases k2
      | _ => cases c6
    | _ => cases c1
/-- what super() rests on besides -/
def supB (K : PySem.W.Frag) (C f2 : Addr) : Bool := PySem.W.isClsIn K C && (decide (PySem.W.mroIn K C (.ref C) = some true) && (eqO (PySem.W.nsIn K cStatics "thirdparty.any") (some none) && (eqO (PySem.W.ks_superIn K C C "__init__") (some (some (.ref f2))) &&
  (decide (PySem.W.typeIn K (.ref f2) = some (.type "function")) && PySem.W.fnIn K f2))))
/-! ### properties, calls -/
def getr (K : PySem.W.Frag) (p : Addr) : Addr := match PySem.W.recIn K p "property" with
  | some (.ref g :: _) => g
  | _ => 0
def proB (K : PySem.W.Frag) (C : Addr) (f : Str) : Bool := eqO (PySem.W.findIn K (.ref C) f) (some (some (.ref (ma K C f)))) && (eqO (PySem.W.specialIn K (.ref (ma K C f)) "__get__") (some (some (.builtin "property.__get__"))) &&
  (decide (PySem.W.takesIn K (.ref (ma K C f)) = some true) && (match PySem.W.recIn K (ma K C f) "property" with
    | some (.ref _ :: _) => true
    | _ => false)))
theorem pro_ok {K : PySem.W.Frag} {C : Addr} {f : Str} (h : proB K C f = true) : PropOf K C f (ma K C f) (getr K (ma K C f)) := by
  obtain ⟨c1, c⟩ := ba h
  obtain ⟨c2, c⟩ := ba c
  obtain ⟨c3, c4⟩ := ba c
  refine ⟨eqO_ok c1, eqO_ok c2, of_decide_eq_true c3, ?_⟩
  unfold getr
  split at c4
  · rename_i g rest e
    rw [e]
    exact ⟨rest, rfl⟩
  · cases c4
def calB (K : PySem.W.Frag) (C : Addr) : Bool := eqO (PySem.W.findIn K (.ref C) "__call__") (some (some (.ref (ma K C "__call__")))) && (PySem.W.isFn K (.ref (ma K C "__call__")) && PySem.W.fnIn K (ma K C "__call__"))
theorem cal_ok {K : PySem.W.Frag} {C : Addr} (h : calB K C = true) : CallO K C (ma K C "__call__") := by
  obtain ⟨c1, c⟩ := ba h
  obtain ⟨c2, c3⟩ := ba c
  exact ⟨eqO_ok c1, c2, c3⟩
/-! ### the Hook -/
/-- what an object names, as far as the facts ask -/
def refsQ (o : Obj) : List Addr := match o.data with
  | .dict es _ => es.toList.flatMap fun e => refV e.val
  | .func fd => refV fd.code ++ (refV fd.kwdefaults ++ fd.closure.map (·.2))
  | .cls cd => [cd.ns]
  | .fields vs => (match o.cls with
    | .type n => (match decide (n = "property") with
      | true => vs.toList.flatMap refV
      | false => [])
    | _ => [])
  | _ => []
def frL {α : Type} : List Addr → (List Addr → α) → α
  | [], k => k []
  | a :: r, k => HandSHeadRun.frNat a fun a => frL r fun r => k (a :: r)
theorem frL_eq {α : Type} : ∀ (l : List Addr) (k : List Addr → α), frL l k = k l
  | [], _ => rfl
  | a :: r, k => by
    show (HandSHeadRun.frNat a fun a => frL r fun r => k (a :: r)) = _
    rw [HandSHeadRun.frNat_eq, frL_eq r]
def lvl (g : Addr → Option Obj) (as : List Addr) : List Addr := as.flatMap fun a => match g a with
  | some o => refsQ o
  | none => []
def asQ {α : Type} (g : Addr → Option Obj) : Nat → List Addr → List Addr → (List Addr → α) → α
  | 0, fr, acc, k => k (acc ++ fr)
  | n + 1, fr, acc, k => frL (lvl g fr) fun f2 => asQ g n f2 (acc ++ fr) k
theorem asQ_ex {g : Addr → Option Obj} : ∀ (n : Nat) (fr acc : List Addr), ∃ as : List Addr, ∀ (α : Type) (k : List Addr → α), asQ g n fr acc k = k as
  | 0, fr, acc => ⟨acc ++ fr, fun _ _ => rfl⟩
  | n + 1, fr, acc => by
    obtain ⟨as, h⟩ := asQ_ex (g := g) n (lvl g fr) (acc ++ fr)
    refine ⟨as, fun α k => ?_⟩
    show (frL (lvl g fr) fun f2 => asQ g n f2 (acc ++ fr) k) = _
    rw [frL_eq]
    exact h α k
def frK {α : Type} (g : Addr → Option Obj) : List Addr → (PySem.W.Frag → α) → α
  | [], k => k []
  | a :: r, k => match g a with
    | some o => frK g r fun K => k ((a, o) :: K)
    | none => frK g r k
theorem frK_eq {α : Type} {g : Addr → Option Obj} : ∀ (as : List Addr) (k : PySem.W.Frag → α), frK g as k = k (frG g as)
  | [], _ => rfl
  | a :: r, k => by
    unfold frK frG
    rw [List.filterMap_cons]
    cases g a with
    | some o =>
      show (frK g r fun K => k ((a, o) :: K)) = _
      rw [frK_eq r]
      rfl
    | none =>
      show frK g r k = _
      rw [frK_eq r]
      rfl
abbrev AlP : Type := Bool × List FnY
abbrev Ck : Type := PySem.W.Frag → Bool
def obsP (cs : List Ck) (fn : List Dp) (K : PySem.W.Frag) : AlP := (cs.all fun c => c K, fn.map fun d => fnY K (d.at_ K))
def valP (fn : List Dp) : AlP := (true, fn.map Dp.val)
def SaysP (cs : List Ck) (fn : List Dp) (K : PySem.W.Frag) : Prop := obsP cs fn K = valP fn
def obsPG (n : Nat) (cs : List Ck) (fn : List Dp) (g : Addr → Option Obj) : AlP := asQ g n [mainGlobals, cStatics] [] fun as => frK g as fun K => obsP cs fn K
theorem obsPG_ex (n : Nat) (cs : List Ck) (fn : List Dp) (g : Addr → Option Obj) : ∃ as, obsPG n cs fn g = obsP cs fn (frG g as) := by
  obtain ⟨as, h⟩ := asQ_ex (g := g) n [mainGlobals, cStatics] []
  refine ⟨as, ?_⟩
  unfold obsPG
  rw [h, frK_eq]
def hookP (n : Nat) (cs : List Ck) (fn : List Dp) : PySem.W.Hook where
  α := AlP
  obs := fun s => obsPG n cs fn s.heap.get?
  val := fun _ => valP fn
  says := fun _ h => ∃ K : PySem.W.Frag, K.In h ∧ SaysP cs fn K
  of := fun _ s e => by
    obtain ⟨as, h⟩ := obsPG_ex n cs fn s.heap.get?
    rw [h] at e
    exact ⟨_, frG_in, e⟩
  keeps := fun _ _ _ ⟨K, hK, c⟩ k => ⟨K, PySem.W.Frag.In.keeps hK k, c⟩
theorem obsPG_eq {n : Nat} {cs : List Ck} {fn : List Dp} {g : Addr → Option Obj} {s : Shared} (h : ∀ a, g a = s.heap.get? a) : obsPG n cs fn g = (hookP n cs fn).obs s := by
  have e : g = s.heap.get? := funext h
  rw [e] <;> rfl
section
variable {cs : List Ck} {fn : List Dp} {K : PySem.W.Frag}
theorem SaysP.ck (c : SaysP cs fn K) (i : Nat) {f : Ck} (h : cs[i]? = some f := by rfl) : f K = true :=
  List.all_eq_true.mp (show (cs.all fun c => c K) = true from congrArg (fun z : AlP => z.1) c) f (List.mem_of_getElem? h)
theorem SaysP.at_ (c : SaysP cs fn K) (i : Nat) {d : Dp} (h : fn[i]? = some d := by rfl) : fnY K (d.at_ K) = d.val := by
  have e : fn.map (fun d => fnY K (d.at_ K)) = fn.map Dp.val := congrArg (fun z : AlP => z.2) c
  have e2 : (fn.map fun d => fnY K (d.at_ K))[i]? = (fn.map Dp.val)[i]? := by rw [e]
  rw [List.getElem?_map, List.getElem?_map, h] at e2
  exact Option.some.inj e2
end
/-! ### the law's end -/
theorem walk_goE {l : PySem.W.OpenLaw} {n k : Nat} {q : Program} {loose : List Str} {XP : (Str → Option Value) → Heap → Prop} {YP : World → Heap → Prop} {d : DefRec} {x : Str}
    (most : l.most = some n) (few : n ≤ sizeLine) (nodf : d.params.defaults = []) (hr : Room k callerA)
    (F : ∀ (w : World) (mg : Str → Option Value) (fa : Addr) (h : Heap), YP w h → h.Ns mainGlobals mg → mg d.name = some (.ref fa) →
      ∃ (K : PySem.W.Frag) (fd : FuncData) (sp : Sp), K.In h ∧ (∀ (s : Shared) (u : Value), BindsTo s fd ⟨[u], []⟩ [(x, u)]) ∧
        (∀ (H : Hp) (a : Addr) (ns : List Int), ns.length ≤ n → Only H → SqL K H a (ns.map V.int) → sp [.ref a] H (fun v _ => v = .bl true) fun _ _ _ => False) ∧
        ∀ base : Heap, K.In base → base.Ns mainGlobals mg → FnG l.prog w K mg base CX0 k fa fd [x] sp) :
    PySem.W.WalkO q loose XP YP l.row.toRowW d [] (fun f vs => PySem.call f vs) := by
  refine Att.attach_call most nodf
    fun w _ s₁ mg mb fa _ _ _ _ a vs ns top Y _ _ _ atF obj allInt len noG => ?_
  obtain ⟨K, fd, sp, inK, binds, hsp, keeps⟩ := F w mg fa _ Y top.T.g atF
  exact law_go inK top.T.g top.T.b top.T.builtins top.T.nolimit noG obj allInt (Nat.le_trans len few) hr keeps binds
    fun H hO hS => hsp H a ns len hO hS
end G
set_option Elab.async false
set_option linter.all false
set_option maxRecDepth 100000
set_option maxHeartbeats 2000000
/-! HK2: FunX and SupOf by the Hook. -/
namespace G
open PySem PySem.Spec PyProof.Rows L2 NdefX StX He
theorem funx_of {P : Program} {K : PySem.W.Frag} {d : Dp} {a C f2 : Addr} {x : Str} (D : ClsDef P K d a C) (hx : ∃ ar, ((defArgs d.st).posonlyargs ++ (defArgs d.st).args).head? = some ar ∧ ar.arg = x) (s : supB K C f2 = true)
    (top : (P.main.scope.names.lookup ("super" : Str)).isSome = false) :
    ∃ cda cc fd, FunX K d.name d.qual d.st a cda cc (kwV K a) fd ∧ SupOf P K a cda cc C C f2 x := by
  obtain ⟨oc, od, doc, pm, ct, an, osl, cda, cc, oc3, od3, sl3, oc2, od2, vs, sl2, fl, tf, h1, h2, h3, h4, h5, h6⟩ := D.ex
  obtain ⟨s1, s⟩ := ba s
  obtain ⟨s2, s⟩ := ba s
  obtain ⟨s3, s⟩ := ba s
  obtain ⟨s4, s⟩ := ba s
  obtain ⟨s5, s6⟩ := ba s
  obtain ⟨cd, hcd⟩ := Option.isSome_iff_exists.mp s1
  obtain ⟨ar, e1, e2⟩ := hx
  rw [Array.getElem?_toList] at h5
  exact ⟨cda, cc, _, ⟨⟨oc, od, doc, pm, an, ct, osl, rfl, h1, h2⟩, ⟨oc3, od3, sl3, _, h3⟩⟩,
    ⟨⟨oc, od, _, osl, ar, h1, e1, e2⟩, ⟨oc2, od2, vs, sl2, fl, tf, h4, h5, h6⟩, ⟨oc3, od3, sl3, h3⟩, ⟨cd, hcd⟩, ⟨cd, hcd⟩, of_decide_eq_true s2, eqO_ok s3, eqO_ok s4, of_decide_eq_true s5, s6, top⟩⟩
def intB (K : PySem.W.Frag) (D : Addr) (x : Str) (i : Int) : Bool := match PySem.W.nsIn K D x with
  | some (some (Value.int j _)) => decide (j = i)
  | _ => false
theorem int_of {K : PySem.W.Frag} {D : Addr} {x : Str} {i : Int} (h : intB K D x i = true) : ∃ t, PySem.W.nsIn K D x = some (some (.int i t)) := by
  unfold intB at h
  split at h
  · rename_i j t e
    rw [of_decide_eq_true h] at e
    exact ⟨t, e⟩
  · cases h
def btwDefB (K : PySem.W.Frag) (v : Value) : Bool := match v with
  | .ref D => intB K D "low" (-999) && intB K D "high" 999
  | _ => false
theorem btwDef_of {K : PySem.W.Frag} {v : Value} (h : btwDefB K v = true) : ∃ D, v = .ref D ∧ BtwDef K D := by
  unfold btwDefB at h
  split at h
  · rename_i D
    obtain ⟨h1, h2⟩ := ba h
    exact ⟨D, rfl, int_of h1, int_of h2⟩
  · cases h
end G
set_option Elab.async false
set_option linter.all false
set_option maxRecDepth 100000
set_option maxHeartbeats 4000000
/-! P9: a Named of none to eight names. -/
namespace G
open PySem PySem.Spec PyProof.Rows L2 NdefX StX
abbrev sNamed : Stmt := topS 60
theorem scNamed : FnScope ["_law_some", "_law_many", "_law_rest", "_law_one", "_law_two", "_law_three", "_law_four", "_law_five", "_law_six", "_law_seven", "_law_eight"] ["_law_some"] (defScope sNamed) := ⟨rfl, rfl, rfl, by decide +kernel, rfl, by decide +kernel, by decide +kernel⟩
/-- C() by a positional promise -/
theorem pe_makeR0 {X : Cx} {CX : CXT} {k : Nat} {f C : Addr} {sp : Sp} {E : XK} {x : Str} {p pos : Pos} (M : Mk X.K C f) (F : FnR X.prog X.w X.K X.mg X.base CX k f sp) (hr : Room (k + 1) X.A) (hg : Gl X x) (hm : X.mg x = some (.ref C)) (hx : Passes CX X E) (hdb : (x == ("__debug__" : Str)) = false := by decide) :
    PE X (.Call (.Name x p) [] [] pos) (tMakeR C sp E tNil) := by
  refine ⟨fun pins s σ H Q I h => ?_⟩
  refine wpAny_Call_Name_kw (ld_glob I hg hm ?_ hdb)
  exact PySem.W.callWith_K0 I.kIn M.kp (run_makeR (us := []) M F hr hx I .nil h)
abbrev spNamR (C : Addr) : Sp := fun vs H Q E => ∃ ws rest, vs = ws ++ rest ∧ ws.length = ["self"].length ∧ rest.length ≤ sizeLine ∧ ∀ p, H p = Option.none → spNam C (ws ++ [V.ref p]) (upd H p (.tup rest)) Q E
/-- a Named is made -/
theorem nam_made {C : Addr} {H1 : Hp} {Q : VK} {E : XK} {zs : List Str} (h8 : zs.length ≤ 8) (hz : ∀ z ∈ zs, NameZ z) (q : ∀ (a t : Addr) (H' : Hp), NamAt C H' a t zs → Same H1 H' → Q (.ref a) H') :
    ∀ x dx, H1 x = Option.none → H1 dx = Option.none → dx ≠ x → spNamR C (V.ref x :: zs.map V.str) (upd (upd H1 dx (.own x)) x (.ins C dx [])) (fun v H2 => v = .non ∧ Q (.ref x) H2) E := by
  intro x dx hx hdx hne
  refine ⟨[V.ref x], zs.map V.str, rfl, rfl, by rw [List.length_map]; exact small_size (by omega), fun p hp => ?_⟩
  have npx : p ≠ x := fun z => by
    rw [z, upd_same] at hp
    cases hp
  rw [upd_ne npx] at hp
  have npd : p ≠ dx := fun z => by
    rw [z, upd_same] at hp
    cases hp
  rw [upd_ne npd] at hp
  refine ⟨x, dx, p, zs, rfl, ?_, upd_same, h8, hz, fun H' s' => ⟨rfl, ?_⟩⟩
  · rw [upd_ne npx.symm, upd_same]
  · refine q x p _ ⟨dx, upd_same, ?_⟩ fun c o e => ?_
    · rw [upd_ne npx]
      exact s' p _ ((upd_ne npx).trans upd_same)
    · have n1 := ne_of_none e hx
      rw [upd_ne n1]
      refine s' c o ?_
      rw [upd_ne n1, upd_ne (ne_of_none e hp), upd_ne n1, upd_ne (ne_of_none e hdx)]
      exact e
def spMkNam (K : PySem.W.Frag) (C : Addr) : Sp := fun vs H Q _ => ∃ (p : Addr) (zs : List Str), vs = [.ref p] ∧ (SqL K H p (zs.map V.str) ∨ SqT K H p (zs.map V.str)) ∧ zs.length ≤ 8 ∧ (∀ z ∈ zs, NameZ z) ∧ ∀ (a t : Addr) (H' : Hp), NamAt C H' a t zs → Same H H' → Q (.ref a) H'
section
variable {P : Program} {w : World} {K : PySem.W.Frag} {mg : Str → Option Value} {base : Heap}
theorem ok_named {f C fI : Addr} {fd : FuncData} (F : Fun K "_law_named" "_law_named" sNamed f fd) (M : Mk K C fI) (G : FnR P w K mg base CX0 3 fI (spNamR C)) (gC : mg "Named" = some (.ref C)) (ml : mg "len" = none) (mL : mg "list" = none) :
    FnOk P w K mg base CX0 5 f fd ["_law_some"] (spMkNam K C) := by
  refine F.ok scNamed (fun vs H Q E h => ?_) (fun cdv A outer s H vs Q E hr h => ?_)
  · obtain ⟨p, zs, rfl, _⟩ := h
    rfl
  · obtain ⟨p, zs, rfl, hS, h8, hz, q⟩ := h
    refine ⟨_, pss_cons (ps_par (i := 1) (j := 2) (by rfl) scNamed.nd rfl rfl (by decide) rfl rfl (pa_cons (pe_callB call_len_seq (by rfl) ml PySem.boot_len (pa_cons (pv 0) pa_nil))
        (pa_cons (pe_op op_cat (pe_callTy call_list_of (by rfl) mL (by decide +kernel) (pa_cons (pv 0) pa_nil)) (pe_op op_rep (pe_lst (pa_cons pe_non pa_nil)) pe_int)) pa_nil)) (by rfl))
      (pss_cons (ps_asg (pe_slice sl_list (pv 2) po_none (po_some pe_int)) (pg_unl (by rfl) (pgs_cons (pg_name (i := 3) scNamed.nd rfl (.inl rfl)) (pgs_cons (pg_name (i := 4) scNamed.nd rfl (.inl rfl)) (pgs_cons (pg_name (i := 5) scNamed.nd rfl (.inl rfl)) (pgs_cons (pg_name (i := 6) scNamed.nd rfl (.inl rfl)) (pgs_cons (pg_name (i := 7) scNamed.nd rfl (.inl rfl)) (pgs_cons (pg_name (i := 8) scNamed.nd rfl (.inl rfl)) (pgs_cons (pg_name (i := 9) scNamed.nd rfl (.inl rfl)) (pgs_cons (pg_name (i := 10) scNamed.nd rfl (.inl rfl)) pgs_nil))))))))))
      (pss_cons (ps_if (pt_cmpR op_eq (pv 1) pe_int (nomark _)) (pss_one (ps_ret (pe_makeR0 M G hr rfl gC pass0))) pss_nil)
      (pss_cons (ps_if (pt_cmpR op_eq (pv 1) pe_int (nomark _)) (pss_one (ps_ret (pe_makeR M G hr rfl gC pass0 (pa_cons (pv 3) pa_nil)))) pss_nil)
      (pss_cons (ps_if (pt_cmpR op_eq (pv 1) pe_int (nomark _)) (pss_one (ps_ret (pe_makeR M G hr rfl gC pass0 (pa_cons (pv 3) (pa_cons (pv 4) pa_nil))))) pss_nil)
      (pss_cons (ps_if (pt_cmpR op_eq (pv 1) pe_int (nomark _)) (pss_one (ps_ret (pe_makeR M G hr rfl gC pass0 (pa_cons (pv 3) (pa_cons (pv 4) (pa_cons (pv 5) pa_nil)))))) pss_nil)
      (pss_cons (ps_if (pt_cmpR op_eq (pv 1) pe_int (nomark _)) (pss_one (ps_ret (pe_makeR M G hr rfl gC pass0 (pa_cons (pv 3) (pa_cons (pv 4) (pa_cons (pv 5) (pa_cons (pv 6) pa_nil))))))) pss_nil)
      (pss_cons (ps_if (pt_cmpR op_eq (pv 1) pe_int (nomark _)) (pss_one (ps_ret (pe_makeR M G hr rfl gC pass0 (pa_cons (pv 3) (pa_cons (pv 4) (pa_cons (pv 5) (pa_cons (pv 6) (pa_cons (pv 7) pa_nil)))))))) pss_nil)
      (pss_cons (ps_if (pt_cmpR op_eq (pv 1) pe_int (nomark _)) (pss_one (ps_ret (pe_makeR M G hr rfl gC pass0 (pa_cons (pv 3) (pa_cons (pv 4) (pa_cons (pv 5) (pa_cons (pv 6) (pa_cons (pv 7) (pa_cons (pv 8) pa_nil))))))))) pss_nil)
      (pss_cons (ps_if (pt_cmpR op_eq (pv 1) pe_int (nomark _)) (pss_one (ps_ret (pe_makeR M G hr rfl gC pass0 (pa_cons (pv 3) (pa_cons (pv 4) (pa_cons (pv 5) (pa_cons (pv 6) (pa_cons (pv 7) (pa_cons (pv 8) (pa_cons (pv 9) pa_nil)))))))))) pss_nil)
      (pss_cons (ps_if (pt_cmpR op_eq (pv 1) pe_int (nomark _)) (pss_one (ps_ret (pe_makeR M G hr rfl gC pass0 (pa_cons (pv 3) (pa_cons (pv 4) (pa_cons (pv 5) (pa_cons (pv 6) (pa_cons (pv 7) (pa_cons (pv 8) (pa_cons (pv 9) (pa_cons (pv 10) pa_nil))))))))))) pss_nil)
      (pss_one ps_never))))))))))), ?_⟩
    refine ⟨_, rfl, p, _, rfl, hS, _, rfl, p, _, rfl, hS, fun l hl => ⟨by decide, fun u hu => ?_⟩⟩
    have nlu : l ≠ u := fun z => by
      rw [z, upd_same] at hu
      cases hu
    refine ⟨_, _, _, rfl, rfl, upd_same, by decide, by decide, by decide, fun v hv => ?_⟩
    have nuv : u ≠ v := fun z => by
      rw [z, upd_same] at hv
      cases hv
    have nlv : l ≠ v := fun z => by
      rw [← z, upd_ne nlu, upd_same] at hv
      cases hv
    have l9 : ((List.replicate (9 : Int).toNat [V.non]).flatten).length = 9 := rfl
    refine ⟨l, v, zs.map V.str, (List.replicate (9 : Int).toNat [V.non]).flatten, rfl, rfl, ?_, upd_same, ?_, fun p2 hp2 => ?_⟩
    · rw [upd_ne nlv, upd_ne nlu, upd_same]
    · rw [l9, List.length_map]
      exact small_size (by omega)
    refine ⟨_, _, rfl, ?_⟩
    refine ⟨_, rfl, _, rfl, p2, _, rfl, .of upd_same, fun p3 hp3 => ?_⟩
    rw [show ((8 : Int)) = ((8 : Nat) : Int) from rfl, cutV_first _ 8 (by rw [List.length_append, l9]; omega)]
    have same : Same H (upd (upd (upd (upd (upd H l (.lst (zs.map V.str))) u (.lst [.non])) v (.lst (List.replicate (9 : Int).toNat [V.non]).flatten)) p2 (.lst (zs.map V.str ++ (List.replicate (9 : Int).toNat [V.non]).flatten))) p3 (.lst ((zs.map V.str ++ (List.replicate (9 : Int).toNat [V.non]).flatten).take 8))) := ((((Same.new hl).trans (Same.new hu)).trans (Same.new hv)).trans (Same.new hp2)).trans (Same.new hp3)
    have mk := nam_made (C := C) (H1 := upd (upd (upd (upd (upd H l (.lst (zs.map V.str))) u (.lst [.non])) v (.lst (List.replicate (9 : Int).toNat [V.non]).flatten)) p2 (.lst (zs.map V.str ++ (List.replicate (9 : Int).toNat [V.non]).flatten))) p3 (.lst ((zs.map V.str ++ (List.replicate (9 : Int).toNat [V.non]).flatten).take 8))) (Q := Q) (E := E0) h8 hz fun a t H' n s => q a t H' n (same.trans s)
    clear same
    match zs, h8, hz, hS, q, mk with
    | [], h8, hz, hS, q, mk =>
      refine ⟨p3, _, rfl, .of upd_same, rfl, _, _, rfl, _, _, rfl, _, _, rfl, _, _, rfl, _, _, rfl, _, _, rfl, _, _, rfl, _, _, rfl, rfl, ?_⟩
      refine ⟨_, rfl, rfl, _, rfl, iteT ?_⟩
      exact mk
    | [a0], h8, hz, hS, q, mk =>
      refine ⟨p3, _, rfl, .of upd_same, rfl, _, _, rfl, _, _, rfl, _, _, rfl, _, _, rfl, _, _, rfl, _, _, rfl, _, _, rfl, _, _, rfl, rfl, ?_⟩
      refine ⟨_, rfl, rfl, _, rfl, iteF ?_⟩
      refine ⟨_, rfl, rfl, _, rfl, iteT ?_⟩
      exact ⟨_, rfl, mk⟩
    | [a0, a1], h8, hz, hS, q, mk =>
      refine ⟨p3, _, rfl, .of upd_same, rfl, _, _, rfl, _, _, rfl, _, _, rfl, _, _, rfl, _, _, rfl, _, _, rfl, _, _, rfl, _, _, rfl, rfl, ?_⟩
      refine ⟨_, rfl, rfl, _, rfl, iteF ?_⟩
      refine ⟨_, rfl, rfl, _, rfl, iteF ?_⟩
      refine ⟨_, rfl, rfl, _, rfl, iteT ?_⟩
      exact ⟨_, rfl, _, rfl, mk⟩
    | [a0, a1, a2], h8, hz, hS, q, mk =>
      refine ⟨p3, _, rfl, .of upd_same, rfl, _, _, rfl, _, _, rfl, _, _, rfl, _, _, rfl, _, _, rfl, _, _, rfl, _, _, rfl, _, _, rfl, rfl, ?_⟩
      refine ⟨_, rfl, rfl, _, rfl, iteF ?_⟩
      refine ⟨_, rfl, rfl, _, rfl, iteF ?_⟩
      refine ⟨_, rfl, rfl, _, rfl, iteF ?_⟩
      refine ⟨_, rfl, rfl, _, rfl, iteT ?_⟩
      exact ⟨_, rfl, _, rfl, _, rfl, mk⟩
    | [a0, a1, a2, a3], h8, hz, hS, q, mk =>
      refine ⟨p3, _, rfl, .of upd_same, rfl, _, _, rfl, _, _, rfl, _, _, rfl, _, _, rfl, _, _, rfl, _, _, rfl, _, _, rfl, _, _, rfl, rfl, ?_⟩
      refine ⟨_, rfl, rfl, _, rfl, iteF ?_⟩
      refine ⟨_, rfl, rfl, _, rfl, iteF ?_⟩
      refine ⟨_, rfl, rfl, _, rfl, iteF ?_⟩
      refine ⟨_, rfl, rfl, _, rfl, iteF ?_⟩
      refine ⟨_, rfl, rfl, _, rfl, iteT ?_⟩
      exact ⟨_, rfl, _, rfl, _, rfl, _, rfl, mk⟩
    | [a0, a1, a2, a3, a4], h8, hz, hS, q, mk =>
      refine ⟨p3, _, rfl, .of upd_same, rfl, _, _, rfl, _, _, rfl, _, _, rfl, _, _, rfl, _, _, rfl, _, _, rfl, _, _, rfl, _, _, rfl, rfl, ?_⟩
      refine ⟨_, rfl, rfl, _, rfl, iteF ?_⟩
      refine ⟨_, rfl, rfl, _, rfl, iteF ?_⟩
      refine ⟨_, rfl, rfl, _, rfl, iteF ?_⟩
      refine ⟨_, rfl, rfl, _, rfl, iteF ?_⟩
      refine ⟨_, rfl, rfl, _, rfl, iteF ?_⟩
      refine ⟨_, rfl, rfl, _, rfl, iteT ?_⟩
      exact ⟨_, rfl, _, rfl, _, rfl, _, rfl, _, rfl, mk⟩
    | [a0, a1, a2, a3, a4, a5], h8, hz, hS, q, mk =>
      refine ⟨p3, _, rfl, .of upd_same, rfl, _, _, rfl, _, _, rfl, _, _, rfl, _, _, rfl, _, _, rfl, _, _, rfl, _, _, rfl, _, _, rfl, rfl, ?_⟩
      refine ⟨_, rfl, rfl, _, rfl, iteF ?_⟩
      refine ⟨_, rfl, rfl, _, rfl, iteF ?_⟩
      refine ⟨_, rfl, rfl, _, rfl, iteF ?_⟩
      refine ⟨_, rfl, rfl, _, rfl, iteF ?_⟩
      refine ⟨_, rfl, rfl, _, rfl, iteF ?_⟩
      refine ⟨_, rfl, rfl, _, rfl, iteF ?_⟩
      refine ⟨_, rfl, rfl, _, rfl, iteT ?_⟩
      exact ⟨_, rfl, _, rfl, _, rfl, _, rfl, _, rfl, _, rfl, mk⟩
    | [a0, a1, a2, a3, a4, a5, a6], h8, hz, hS, q, mk =>
      refine ⟨p3, _, rfl, .of upd_same, rfl, _, _, rfl, _, _, rfl, _, _, rfl, _, _, rfl, _, _, rfl, _, _, rfl, _, _, rfl, _, _, rfl, rfl, ?_⟩
      refine ⟨_, rfl, rfl, _, rfl, iteF ?_⟩
      refine ⟨_, rfl, rfl, _, rfl, iteF ?_⟩
      refine ⟨_, rfl, rfl, _, rfl, iteF ?_⟩
      refine ⟨_, rfl, rfl, _, rfl, iteF ?_⟩
      refine ⟨_, rfl, rfl, _, rfl, iteF ?_⟩
      refine ⟨_, rfl, rfl, _, rfl, iteF ?_⟩
      refine ⟨_, rfl, rfl, _, rfl, iteF ?_⟩
      refine ⟨_, rfl, rfl, _, rfl, iteT ?_⟩
      exact ⟨_, rfl, _, rfl, _, rfl, _, rfl, _, rfl, _, rfl, _, rfl, mk⟩
    | [a0, a1, a2, a3, a4, a5, a6, a7], h8, hz, hS, q, mk =>
      refine ⟨p3, _, rfl, .of upd_same, rfl, _, _, rfl, _, _, rfl, _, _, rfl, _, _, rfl, _, _, rfl, _, _, rfl, _, _, rfl, _, _, rfl, rfl, ?_⟩
      refine ⟨_, rfl, rfl, _, rfl, iteF ?_⟩
      refine ⟨_, rfl, rfl, _, rfl, iteF ?_⟩
      refine ⟨_, rfl, rfl, _, rfl, iteF ?_⟩
      refine ⟨_, rfl, rfl, _, rfl, iteF ?_⟩
      refine ⟨_, rfl, rfl, _, rfl, iteF ?_⟩
      refine ⟨_, rfl, rfl, _, rfl, iteF ?_⟩
      refine ⟨_, rfl, rfl, _, rfl, iteF ?_⟩
      refine ⟨_, rfl, rfl, _, rfl, iteF ?_⟩
      refine ⟨_, rfl, rfl, _, rfl, iteT ?_⟩
      exact ⟨_, rfl, _, rfl, _, rfl, _, rfl, _, rfl, _, rfl, _, rfl, _, rfl, mk⟩
    | _ :: _ :: _ :: _ :: _ :: _ :: _ :: _ :: _ :: _, h8, _, _, _, _ => exact absurd h8 (by simp)
end
end G
set_option Elab.async false
set_option linter.all false
set_option maxRecDepth 100000
set_option maxHeartbeats 2000000
/-! PA: repr of a dict, of a truth value. -/
namespace G
open PySem PySem.Spec PyProof.Rows L2
/-- repr(d), d a dict (or a tuple) without lists in it -/
def rReprD (K : PySem.W.Frag) : List V → Hp → VK → Prop := fun vs H Q => ∃ (a : Addr) (d : PyData), vs = [.ref a] ∧ Rp K H (.ref a) d ∧ d.showable = true ∧ okS d = true ∧ d.depth ≤ 20 ∧ mass d ≤ sizeLine ∧ Q (.str d.shown) H
theorem call_reprD {X : Cx} (hg : X.A.guards = some []) (hu : X.A.units + 64 < cLine) : CallR X (.builtin "repr") (rReprD X.K) := by
  intro pins s σ H xs us Q I r h
  obtain ⟨a, d, rfl, hr, hs, ho, hp, hm, q⟩ := h
  obtain rfl := Vals.ref1 r
  obtain ⟨as, q1, z1⟩ := rp_reads I d _ _ hr (show RelV (.ref a) (.ref a) from rfl)
  exact repr_of_reads' q1 hs (fun _ => z1 ho) hg (by omega) (fun _ _ e => e) (fun h' u tk k => ⟨.str _, H, I.kept k, ⟨u, rfl⟩, q⟩) (Nat.le_trans (shown_le d hs) hm)
/-- repr(b), b a truth value -/
def rReprB : List V → Hp → VK → Prop := fun vs H Q => ∃ b : Bool, vs = [.bl b] ∧ Q (.str (if b then "True" else "False")) H
theorem call_reprB {X : Cx} : CallR X (.builtin "repr") rReprB := by
  intro pins s σ H xs us Q I r h
  obtain ⟨b, rfl, q⟩ := h
  obtain ⟨u, rfl, ru⟩ := vals1 r
  obtain rfl : u = Value.bool b := ru
  exact PySem.P.repr_of_bool ⟨.str _, H, I.tok _, ⟨_, rfl⟩, q⟩
end G
set_option Elab.async false
set_option linter.all false
set_option maxRecDepth 100000
set_option maxHeartbeats 2000000
/-! C1: conditions as a plain tree; where one stands in the heap, as an object and as the law's tuple. -/
namespace G
open PySem PySem.Spec PyProof.Rows L2 NdefX StX
inductive Md where
  | btw (z : Str) (lo hi : Int)
  | nam (zs : List Str)
  | neg (m : Md)
  | both (a b : Md)
  | eith (a b : Md)
namespace Md
def leaves : Md → Nat
  | .btw _ _ _ => 1
  | .nam _ => 1
  | .neg m => m.leaves
  | .both a b => a.leaves + b.leaves
  | .eith a b => a.leaves + b.leaves
def depth : Md → Nat
  | .btw _ _ _ => 1
  | .nam _ => 1
  | .neg m => m.depth + 1
  | .both a b => max a.depth b.depth + 1
  | .eith a b => max a.depth b.depth + 1
def names : Md → Nat
  | .btw _ _ _ => 0
  | .nam zs => zs.length
  | .neg m => m.names
  | .both a b => a.names + b.names
  | .eith a b => a.names + b.names
def size : Md → Nat
  | .btw _ _ _ => 1
  | .nam _ => 1
  | .neg m => m.size + 1
  | .both a b => a.size + b.size + 1
  | .eith a b => a.size + b.size + 1
def tag : Md → Nat
  | .btw _ _ _ => 0
  | .nam _ => 1
  | .neg _ => 2
  | .both _ _ => 3
  | .eith _ _ => 4
def holds (y : Str) (kvs : List (Key × V)) : Md → Bool
  | .btw z lo hi => btwHolds z lo hi kvs
  | .nam zs => inV (.str y) (zs.map V.str)
  | .neg m => !(m.holds y kvs)
  | .both a b => a.holds y kvs && b.holds y kvs
  | .eith a b => a.holds y kvs || b.holds y kvs
/-- names are names, bounds are bounds -/
def good : Md → Prop
  | .btw z lo hi => NameZ z ∧ -999 ≤ lo ∧ lo ≤ hi ∧ hi ≤ 999
  | .nam zs => ∀ z ∈ zs, NameZ z
  | .neg m => m.good
  | .both a b => a.good ∧ b.good
  | .eith a b => a.good ∧ b.good
theorem depth_pos : ∀ m : Md, 1 ≤ m.depth
  | .btw _ _ _ => Nat.le_refl _
  | .nam _ => Nat.le_refl _
  | .neg m => Nat.le_add_left _ _
  | .both a b => Nat.le_add_left _ _
  | .eith a b => Nat.le_add_left _ _
theorem size_le : ∀ m : Md, m.size < 2 ^ m.depth
  | .btw _ _ _ => (by decide : 1 < 2 ^ 1)
  | .nam _ => (by decide : 1 < 2 ^ 1)
  | .neg m => by
    have := size_le m
    show m.size + 1 < 2 ^ (m.depth + 1)
    rw [Nat.pow_succ]
    omega
  | .both a b => by
    have h1 := size_le a
    have h2 := size_le b
    have e1 : 2 ^ a.depth ≤ 2 ^ max a.depth b.depth := Nat.pow_le_pow_right (by decide) (Nat.le_max_left _ _)
    have e2 : 2 ^ b.depth ≤ 2 ^ max a.depth b.depth := Nat.pow_le_pow_right (by decide) (Nat.le_max_right _ _)
    show a.size + b.size + 1 < 2 ^ (max a.depth b.depth + 1)
    rw [Nat.pow_succ]
    omega
  | .eith a b => by
    have h1 := size_le a
    have h2 := size_le b
    have e1 : 2 ^ a.depth ≤ 2 ^ max a.depth b.depth := Nat.pow_le_pow_right (by decide) (Nat.le_max_left _ _)
    have e2 : 2 ^ b.depth ≤ 2 ^ max a.depth b.depth := Nat.pow_le_pow_right (by decide) (Nat.le_max_right _ _)
    show a.size + b.size + 1 < 2 ^ (max a.depth b.depth + 1)
    rw [Nat.pow_succ]
    omega
theorem size_31 {m : Md} (h : m.depth ≤ 5) : m.size ≤ 31 := by
  have h1 := m.size_le
  have h2 : 2 ^ m.depth ≤ 2 ^ 5 := Nat.pow_le_pow_right (by decide) h
  have h3 : (2 : Nat) ^ 5 = 32 := by decide
  omega
end Md
/-- the five classes -/
structure Cs where
  bt : Addr
  nm : Addr
  nt : Addr
  bo : Addr
  ei : Addr
def Md.cls (c : Cs) : Md → Addr
  | .btw _ _ _ => c.bt
  | .nam _ => c.nm
  | .neg _ => c.nt
  | .both _ _ => c.bo
  | .eith _ _ => c.ei
def condFs (l h n : Nat) : List (Str × V) := [("leaf_count", .int (l : Nat)), ("height", .int (h : Nat)), ("name_count", .int (n : Nat))]
def negFs (l h n : Nat) (p : Addr) : List (Str × V) := [("leaf_count", .int (l : Nat)), ("height", .int (h : Nat)), ("name_count", .int (n : Nat)), ("inner", .ref p)]
def pairFs (l h n : Nat) (p q : Addr) : List (Str × V) := [("leaf_count", .int (l : Nat)), ("height", .int (h : Nat)), ("name_count", .int (n : Nat)), ("first", .ref p), ("second", .ref q)]
/-- the condition m stands at a -/
def CoAt (c : Cs) (H : Hp) : Addr → Md → Prop
  | a, .btw z lo hi => BtwAt c.bt H a z lo hi
  | a, .nam zs => ∃ t, NamAt c.nm H a t zs
  | a, .neg m => ∃ p dx, H a = some (.ins c.nt dx (negFs m.leaves (m.depth + 1) m.names p)) ∧ CoAt c H p m
  | a, .both m n => ∃ p q dx, H a = some (.ins c.bo dx (pairFs (m.leaves + n.leaves) (max m.depth n.depth + 1) (m.names + n.names) p q)) ∧ CoAt c H p m ∧ CoAt c H q n
  | a, .eith m n => ∃ p q dx, H a = some (.ins c.ei dx (pairFs (m.leaves + n.leaves) (max m.depth n.depth + 1) (m.names + n.names) p q)) ∧ CoAt c H p m ∧ CoAt c H q n
/-- the law's tuple of m stands at t -/
def MdAt (H : Hp) : Addr → Md → Prop
  | t, .btw z lo hi => H t = some (.tup [.str "between", .str z, .int lo, .int hi])
  | t, .nam zs => H t = some (.tup (.str "named" :: zs.map V.str))
  | t, .neg m => ∃ u, H t = some (.tup [.str "not", .ref u]) ∧ MdAt H u m
  | t, .both m n => ∃ u v, H t = some (.tup [.str "both", .ref u, .ref v]) ∧ MdAt H u m ∧ MdAt H v n
  | t, .eith m n => ∃ u v, H t = some (.tup [.str "either", .ref u, .ref v]) ∧ MdAt H u m ∧ MdAt H v n
/-- what never changes -/
def still : HO → Bool
  | .ins _ _ _ => true
  | .tup _ => true
  | _ => false
def SK (H H' : Hp) : Prop := ∀ p o, H p = some o → still o = true → H' p = some o
theorem SK.of_same {H H' : Hp} (s : Same H H') : SK H H' := fun p o e _ => s p o e
theorem SK.trans {H H1 H2 : Hp} (a : SK H H1) (b : SK H1 H2) : SK H H2 := fun p o e z => b p o (a p o e z) z
theorem SK.of_but {H H' : Hp} {b : Addr} {n : Nat} (B : BoxAt H b n) (k : But b H H') : SK H H' := fun p o e z => k p o (fun q => by
  obtain ⟨_, _, _, eb, _⟩ := B
  rw [q, eb] at e
  rw [← Option.some.inj e] at z
  cases z) e
theorem CoAt.sk {c : Cs} {H H' : Hp} (s : SK H H') : ∀ {m : Md} {a : Addr}, CoAt c H a m → CoAt c H' a m
  | .btw z lo hi, a, ⟨dx, e⟩ => ⟨dx, s _ _ e rfl⟩
  | .nam zs, a, ⟨t, dx, e1, e2⟩ => ⟨t, dx, s _ _ e1 rfl, s _ _ e2 rfl⟩
  | .neg m, a, ⟨p, dx, e, h⟩ => ⟨p, dx, s _ _ e rfl, CoAt.sk s h⟩
  | .both m n, a, ⟨p, q, dx, e, h1, h2⟩ => ⟨p, q, dx, s _ _ e rfl, CoAt.sk s h1, CoAt.sk s h2⟩
  | .eith m n, a, ⟨p, q, dx, e, h1, h2⟩ => ⟨p, q, dx, s _ _ e rfl, CoAt.sk s h1, CoAt.sk s h2⟩
theorem CoAt.same {c : Cs} {H H' : Hp} {m : Md} {a : Addr} (h : CoAt c H a m) (s : Same H H') : CoAt c H' a m := h.sk (.of_same s)
theorem MdAt.sk {H H' : Hp} (s : SK H H') : ∀ {m : Md} {t : Addr}, MdAt H t m → MdAt H' t m
  | .btw z lo hi, t, e => s _ _ e rfl
  | .nam zs, t, e => s _ _ e rfl
  | .neg m, t, ⟨u, e, h⟩ => ⟨u, s _ _ e rfl, MdAt.sk s h⟩
  | .both m n, t, ⟨u, v, e, h1, h2⟩ => ⟨u, v, s _ _ e rfl, MdAt.sk s h1, MdAt.sk s h2⟩
  | .eith m n, t, ⟨u, v, e, h1, h2⟩ => ⟨u, v, s _ _ e rfl, MdAt.sk s h1, MdAt.sk s h2⟩
theorem MdAt.same {H H' : Hp} {m : Md} {t : Addr} (h : MdAt H t m) (s : Same H H') : MdAt H' t m := h.sk (.of_same s)
/-- what of the text a class of conditions has; D: the class Condition -/
structure CondC (K : PySem.W.Frag) (D C : Addr) : Prop where
  cl : Cls K C
  n1 : NoAttr K C "leaf_count"
  n2 : NoAttr K C "height"
  n3 : NoAttr K C "name_count"
  ha : PySem.W.findIn K (.ref C) "__class__" = some (some (.builtin "object.__class__"))
  hn : PySem.W.specialIn K (.builtin "object.__class__") "__get__" = some (some (.builtin "getset_descriptor.__get__"))
  htk : PySem.W.takesIn K (.builtin "object.__class__") = some true
  hm : PySem.W.mroIn K C (.type "object") = some true
  kit : PySem.W.kitOne K (.ref C) (.ref D) = some true
structure CsOk (K : PySem.W.Frag) (D : Addr) (c : Cs) : Prop where
  bt : CondC K D c.bt
  nm : CondC K D c.nm
  nt : CondC K D c.nt
  bo : CondC K D c.bo
  ei : CondC K D c.ei
theorem CsOk.of {K : PySem.W.Frag} {D : Addr} {c : Cs} (o : CsOk K D c) : ∀ m : Md, CondC K D (m.cls c)
  | .btw _ _ _ => o.bt
  | .nam _ => o.nm
  | .neg _ => o.nt
  | .both _ _ => o.bo
  | .eith _ _ => o.ei
theorem CoAt.get {c : Cs} {H : Hp} : ∀ {m : Md} {a : Addr}, CoAt c H a m → ∃ dx fs, H a = some (.ins (m.cls c) dx fs) ∧ fs.lookup ("leaf_count" : Str) = some (.int (m.leaves : Nat)) ∧ fs.lookup ("height" : Str) = some (.int (m.depth : Nat)) ∧
    fs.lookup ("name_count" : Str) = some (.int (m.names : Nat)) ∧ fs.lookup ("holds" : Str) = none ∧ fs.lookup ("leaves" : Str) = none ∧ fs.lookup ("depth" : Str) = none
  | .btw z lo hi, a, ⟨dx, e⟩ => ⟨dx, _, e, rfl, rfl, rfl, rfl, rfl, rfl⟩
  | .nam zs, a, ⟨t, dx, e, _⟩ => ⟨dx, _, e, rfl, rfl, rfl, rfl, rfl, rfl⟩
  | .neg m, a, ⟨p, dx, e, _⟩ => ⟨dx, _, e, rfl, rfl, rfl, rfl, rfl, rfl⟩
  | .both m n, a, ⟨p, q, dx, e, _, _⟩ => ⟨dx, _, e, rfl, rfl, rfl, rfl, rfl, rfl⟩
  | .eith m n, a, ⟨p, q, dx, e, _, _⟩ => ⟨dx, _, e, rfl, rfl, rfl, rfl, rfl, rfl⟩
end G
set_option Elab.async false
set_option linter.all false
set_option maxRecDepth 100000
set_option maxHeartbeats 2000000
/-! C2: Both, Either and Not made. -/
namespace G
open PySem PySem.Spec PyProof.Rows L2 NdefX StX
abbrev sNeedCond : Stmt := topS 42
abbrev sSizes : Stmt := topS 43
abbrev sBo (j : Nat) : Stmt := inClass (topS 39) j
abbrev sEi (j : Nat) : Stmt := inClass (topS 40) j
abbrev sNt (j : Nat) : Stmt := inClass (topS 41) j
theorem scNeedCond : FnScope ["value"] ["value"] (defScope sNeedCond) := ⟨rfl, rfl, rfl, by decide +kernel, rfl, by decide +kernel, by decide +kernel⟩
theorem scSizes : FnScope ["one", "other", "leaf_count", "height"] ["one", "other"] (defScope sSizes) := ⟨rfl, rfl, rfl, by decide +kernel, rfl, by decide +kernel, by decide +kernel⟩
theorem scBoInit : NScope ["self", "one", "other", "__class__", "sizes"] ["self", "one", "other"] ["__class__"] (defScope (sBo 0)) := nscope_by (by decide +kernel)
theorem scEiInit : NScope ["self", "one", "other", "__class__", "sizes"] ["self", "one", "other"] ["__class__"] (defScope (sEi 0)) := nscope_by (by decide +kernel)
theorem scNtInit : NScope ["self", "one", "__class__"] ["self", "one"] ["__class__"] (defScope (sNt 0)) := nscope_by (by decide +kernel)
def spNeedCond (c : Cs) : Sp := fun vs H Q _ => ∃ (a : Addr) (m : Md), vs = [.ref a] ∧ CoAt c H a m ∧ Q .non H
def spSizes (c : Cs) : Sp := fun vs H Q _ => ∃ (a b : Addr) (m n : Md), vs = [.ref a, .ref b] ∧ CoAt c H a m ∧ CoAt c H b n ∧
  ∀ p, H p = none → Q (.ref p) (upd H p (.tup [.int ((m.leaves + n.leaves : Nat) : Int), .int ((max m.depth n.depth + 1 : Nat) : Int), .int ((m.names + n.names : Nat) : Int)]))
/-- Both or Either made, of the class at C -/
def spPair (c : Cs) (C : Addr) : Sp := fun vs H Q _ => ∃ (a dx p q : Addr) (m n : Md), vs = [.ref a, .ref p, .ref q] ∧ H a = some (.ins C dx []) ∧ CoAt c H p m ∧ CoAt c H q n ∧ m.leaves + n.leaves ≤ 6 ∧ max m.depth n.depth + 1 ≤ 5 ∧ m.names + n.names ≤ 8 ∧
  ∀ H', Same H H' → Q .non (upd H' a (.ins C dx (pairFs (m.leaves + n.leaves) (max m.depth n.depth + 1) (m.names + n.names) p q)))
def spNeg (c : Cs) (C : Addr) : Sp := fun vs H Q _ => ∃ (a dx p : Addr) (m : Md), vs = [.ref a, .ref p] ∧ H a = some (.ins C dx []) ∧ CoAt c H p m ∧ m.leaves ≤ 6 ∧ m.depth + 1 ≤ 5 ∧ m.names ≤ 8 ∧
  Q .non (upd H a (.ins C dx (negFs m.leaves (m.depth + 1) m.names p)))
section
variable {P : Program} {w : World} {K : PySem.W.Frag} {mg : Str → Option Value} {base : Heap} {c : Cs} {D : Addr}
theorem ok_needcond {f : Addr} {fd : FuncData} (F : Fun K "need_condition" "need_condition" sNeedCond f fd) (O : CsOk K D c) (gD : mg "Condition" = some (.ref D)) (mi : mg "isinstance" = none) : FnOk P w K mg base CX0 1 f fd ["value"] (spNeedCond c) := by
  refine F.ok scNeedCond (fun vs H Q E h => ?_) (fun cdv A outer s H vs Q E hr h => ?_)
  · obtain ⟨a, m, rfl, _⟩ := h
    rfl
  · obtain ⟨a, m, rfl, hc, q⟩ := h
    refine ⟨_, pss_one (ps_if (pt_not (pt_val (pe_callB call_isi (by rfl) mi (by decide +kernel) (pa_cons (pv 0) (pa_cons (pe_glob (v := .ref D) rfl gD rfl) pa_nil))))) (pss_one ps_never) pss_nil), ?_⟩
    obtain ⟨dx, fs, ha, _⟩ := hc.get
    have o := O.of m
    exact ⟨_, rfl, _, _, _, _, _, rfl, .own D, .base (.ins ha o.cl o.ha o.hn o.htk o.hm), o.kit, _, rfl, iteF q⟩
theorem ok_sizes {f fN : Addr} {fd fdN : FuncData} (F : Fun K "sizes_of_pair" "sizes_of_pair" sSizes f fd) (O : CsOk K D c) (GN : FnOk P w K mg base CX0 1 fN fdN ["value"] (spNeedCond c)) (gN : mg "need_condition" = some (.ref fN)) (kN : PySem.W.keepIn K (.ref fN) = true) (bN : Binds K fdN ["value"] [])
    (mm : mg "max" = none) : FnOk P w K mg base CX0 2 f fd ["one", "other"] (spSizes c) := by
  refine F.ok scSizes (fun vs H Q E h => ?_) (fun cdv A outer s H vs Q E hr h => ?_)
  · obtain ⟨a, b, m, n, rfl, _⟩ := h
    rfl
  · obtain ⟨a, b, m, n, rfl, h1, h2, q⟩ := h
    refine ⟨_, pss_cons (ps_expr (pe_call GN hr rfl gN kN bN .nil pass0 (pa_cons (pv 0) pa_nil))) (pss_cons (ps_expr (pe_call GN hr rfl gN kN bN .nil pass0 (pa_cons (pv 1) pa_nil)))
      (pss_cons (ps_set (i := 2) scSizes.nd rfl (.inl rfl) (pe_op op_add (pe_fld (pv 0) rfl) (pe_fld (pv 1) rfl)))
      (pss_cons (ps_set (i := 3) scSizes.nd rfl (.inl rfl) (pe_op op_add (pe_callB (call_max2 rfl) (by rfl) mm (by decide +kernel) (pa_cons (pe_fld (pv 0) rfl) (pa_cons (pe_fld (pv 1) rfl) pa_nil))) pe_int))
      (pss_one (ps_ret (pe_tup (pa_cons (pv 2) (pa_cons (pv 3) (pa_cons (pe_op op_add (pe_fld (pv 0) rfl) (pe_fld (pv 1) rfl)) pa_nil))))))))), ?_⟩
    obtain ⟨dx, fs, ha, l1, l2, l3, _⟩ := h1.get
    obtain ⟨dy, gs, hb, r1, r2, r3, _⟩ := h2.get
    have o := O.of m
    have u := O.of n
    refine ⟨_, rfl, a, m, rfl, h1, _, rfl, b, n, rfl, h2, ?_⟩
    refine ⟨_, rfl, a, _, dx, fs, _, rfl, ha, o.cl, o.n1, l1, _, rfl, b, _, dy, gs, _, rfl, hb, u.cl, u.n1, r1, _, _, rfl, rfl, ?_⟩
    refine ⟨_, rfl, a, _, dx, fs, _, rfl, ha, o.cl, o.n2, l2, _, rfl, b, _, dy, gs, _, rfl, hb, u.cl, u.n2, r2, _, _, rfl, _, _, rfl, rfl, ?_⟩
    refine ⟨_, rfl, _, rfl, _, rfl, a, _, dx, fs, _, rfl, ha, o.cl, o.n3, l3, _, rfl, b, _, dy, gs, _, rfl, hb, u.cl, u.n3, r3, _, _, rfl, rfl, (by show 3 ≤ sizeLine; decide), fun p hp => ?_⟩
    have z := q p hp
    have e1 : ((m.leaves : Nat) : Int) + ((n.leaves : Nat) : Int) = ((m.leaves + n.leaves : Nat) : Int) := by omega
    have e3 : ((m.names : Nat) : Int) + ((n.names : Nat) : Int) = ((m.names + n.names : Nat) : Int) := by omega
    have e2 : (if ((n.depth : Nat) : Int) > ((m.depth : Nat) : Int) then ((n.depth : Nat) : Int) else ((m.depth : Nat) : Int)) + 1 = ((max m.depth n.depth + 1 : Nat) : Int) := by
      split <;> omega
    rw [← e1, ← e2, ← e3] at z
    exact z
theorem ok_boinit {f cda cc f2 fS : Addr} {kV : Value} {fd fdS fdC : FuncData} (F : FunX K "__init__" "Both.__init__" (sBo 0) f cda cc kV fd) (S : SupOf P K f cda cc c.bo c.bo f2 "self") (cl : Cls K c.bo) (n1 : NoAttr K c.bo "first") (n2 : NoAttr K c.bo "second")
    (GS : FnOk P w K mg base CX0 2 fS fdS ["one", "other"] (spSizes c)) (gS : mg "sizes_of_pair" = some (.ref fS)) (kS : PySem.W.keepIn K (.ref fS) = true) (bS : Binds K fdS ["one", "other"] [])
    (GC : FnOk P w K mg base CX0 1 f2 fdC ["self", "leaf_count", "height", "name_count"] (spCond c.bo)) (bC : Binds K fdC ["self", "leaf_count", "height", "name_count"] []) (ms : mg "super" = none) :
    FnOk P w K mg base CX0 3 f fd ["self", "one", "other"] (spPair c c.bo) := by
  refine F.ok scBoInit (fun vs H Q E h => ?_) (fun A outer s H vs Q E hr h => ?_)
  · obtain ⟨a, dx, p, q, m, n, rfl, _⟩ := h
    rfl
  · obtain ⟨a, dx, p, q, m, n, rfl, ha, h1, h2, l6, d5, n8, qq⟩ := h
    have hr1 := hr.mono (show 1 ≤ 2 by decide)
    refine ⟨_, pssa_cons (psa (ps_set (i := 4) scBoInit.nd rfl (.inl rfl) (pe_call GS hr rfl gS kS bS .nil pass0 (pa_cons (pv 1) (pa_cons (pv 2) pa_nil)))))
      (pssa_cons (psa_superS (i := 0) S (GC.raw bC .nil) hr1 pass0 rfl rfl rfl rfl rfl rfl ms rfl (pv 4))
      (pssa (pss_cons (ps_fld (pv 0) (pv 1) rfl) (pss_one (ps_fld (pv 0) (pv 2) rfl))))), ?_⟩
    refine ⟨_, rfl, _, rfl, p, q, m, n, rfl, h1, h2, fun t ht => ?_⟩
    have nat : a ≠ t := ne_of_none ha ht
    have ha1 := (upd_ne (o := .tup [.int ((m.leaves + n.leaves : Nat) : Int), .int ((max m.depth n.depth + 1 : Nat) : Int), .int ((m.names + n.names : Nat) : Int)]) nat).trans ha
    refine ⟨a, dx, [], rfl, ha1, _, rfl, t, _, rfl, .inl (.of upd_same), a, dx, _, _, _, [], rfl, ha1, (by decide), (by omega), (by omega), (by omega), ?_⟩
    refine ⟨_, rfl, _, rfl, a, c.bo, dx, _, rfl, upd_same, cl, n1, (by show 3 < 1000; decide), ?_⟩
    refine ⟨_, rfl, _, rfl, a, c.bo, dx, _, rfl, upd_same, cl, n2, (by show 4 < 1000; decide), ?_⟩
    rw [upd_upd, upd_upd]
    exact qq _ (Same.new ht)
theorem ok_eiinit {f cda cc f2 fS : Addr} {kV : Value} {fd fdS fdC : FuncData} (F : FunX K "__init__" "Either.__init__" (sEi 0) f cda cc kV fd) (S : SupOf P K f cda cc c.ei c.ei f2 "self") (cl : Cls K c.ei) (n1 : NoAttr K c.ei "first") (n2 : NoAttr K c.ei "second")
    (GS : FnOk P w K mg base CX0 2 fS fdS ["one", "other"] (spSizes c)) (gS : mg "sizes_of_pair" = some (.ref fS)) (kS : PySem.W.keepIn K (.ref fS) = true) (bS : Binds K fdS ["one", "other"] [])
    (GC : FnOk P w K mg base CX0 1 f2 fdC ["self", "leaf_count", "height", "name_count"] (spCond c.ei)) (bC : Binds K fdC ["self", "leaf_count", "height", "name_count"] []) (ms : mg "super" = none) :
    FnOk P w K mg base CX0 3 f fd ["self", "one", "other"] (spPair c c.ei) := by
  refine F.ok scEiInit (fun vs H Q E h => ?_) (fun A outer s H vs Q E hr h => ?_)
  · obtain ⟨a, dx, p, q, m, n, rfl, _⟩ := h
    rfl
  · obtain ⟨a, dx, p, q, m, n, rfl, ha, h1, h2, l6, d5, n8, qq⟩ := h
    have hr1 := hr.mono (show 1 ≤ 2 by decide)
    refine ⟨_, pssa_cons (psa (ps_set (i := 4) scEiInit.nd rfl (.inl rfl) (pe_call GS hr rfl gS kS bS .nil pass0 (pa_cons (pv 1) (pa_cons (pv 2) pa_nil)))))
      (pssa_cons (psa_superS (i := 0) S (GC.raw bC .nil) hr1 pass0 rfl rfl rfl rfl rfl rfl ms rfl (pv 4))
      (pssa (pss_cons (ps_fld (pv 0) (pv 1) rfl) (pss_one (ps_fld (pv 0) (pv 2) rfl))))), ?_⟩
    refine ⟨_, rfl, _, rfl, p, q, m, n, rfl, h1, h2, fun t ht => ?_⟩
    have nat : a ≠ t := ne_of_none ha ht
    have ha1 := (upd_ne (o := .tup [.int ((m.leaves + n.leaves : Nat) : Int), .int ((max m.depth n.depth + 1 : Nat) : Int), .int ((m.names + n.names : Nat) : Int)]) nat).trans ha
    refine ⟨a, dx, [], rfl, ha1, _, rfl, t, _, rfl, .inl (.of upd_same), a, dx, _, _, _, [], rfl, ha1, (by decide), (by omega), (by omega), (by omega), ?_⟩
    refine ⟨_, rfl, _, rfl, a, c.ei, dx, _, rfl, upd_same, cl, n1, (by show 3 < 1000; decide), ?_⟩
    refine ⟨_, rfl, _, rfl, a, c.ei, dx, _, rfl, upd_same, cl, n2, (by show 4 < 1000; decide), ?_⟩
    rw [upd_upd, upd_upd]
    exact qq _ (Same.new ht)
theorem ok_ntinit {f cda cc f2 fN : Addr} {kV : Value} {fd fdN fdC : FuncData} (F : FunX K "__init__" "Not.__init__" (sNt 0) f cda cc kV fd) (S : SupOf P K f cda cc c.nt c.nt f2 "self") (O : CsOk K D c) (n1 : NoAttr K c.nt "inner")
    (GN : FnOk P w K mg base CX0 1 fN fdN ["value"] (spNeedCond c)) (gN : mg "need_condition" = some (.ref fN)) (kN : PySem.W.keepIn K (.ref fN) = true) (bN : Binds K fdN ["value"] [])
    (GC : FnOk P w K mg base CX0 1 f2 fdC ["self", "leaf_count", "height", "name_count"] (spCond c.nt)) (bC : Binds K fdC ["self", "leaf_count", "height", "name_count"] []) (ms : mg "super" = none) :
    FnOk P w K mg base CX0 2 f fd ["self", "one"] (spNeg c c.nt) := by
  refine F.ok scNtInit (fun vs H Q E h => ?_) (fun A outer s H vs Q E hr h => ?_)
  · obtain ⟨a, dx, p, m, rfl, _⟩ := h
    rfl
  · obtain ⟨a, dx, p, m, rfl, ha, h1, l6, d5, n8, qq⟩ := h
    refine ⟨_, pssa_cons (psa (ps_expr (pe_call GN hr rfl gN kN bN .nil pass0 (pa_cons (pv 1) pa_nil))))
      (pssa_cons (psa_super (i := 0) S (GC.raw bC .nil) hr pass0 rfl rfl rfl rfl rfl rfl ms rfl (pa_cons (pe_fld (pv 1) rfl) (pa_cons (pe_op op_add (pe_fld (pv 1) rfl) pe_int) (pa_cons (pe_fld (pv 1) rfl) pa_nil))))
      (pssa (pss_one (ps_fld (pv 0) (pv 1) rfl)))), ?_⟩
    obtain ⟨dy, gs, hb, r1, r2, r3, _⟩ := h1.get
    have u := O.of m
    refine ⟨_, rfl, p, m, rfl, h1, ?_⟩
    refine ⟨a, dx, [], rfl, ha, _, rfl, p, _, dy, gs, _, rfl, hb, u.cl, u.n1, r1, _, rfl, p, _, dy, gs, _, rfl, hb, u.cl, u.n2, r2, _, _, rfl, rfl, _, rfl, p, _, dy, gs, _, rfl, hb, u.cl, u.n3, r3, ?_⟩
    refine ⟨a, dx, _, _, _, [], rfl, ha, (by decide), (by omega), (by omega), (by omega), ?_⟩
    refine ⟨_, rfl, _, rfl, a, c.nt, dx, _, rfl, upd_same, O.nt.cl, n1, (by show 3 < 1000; decide), ?_⟩
    rw [upd_upd]
    exact qq
end
end G
set_option Elab.async false
set_option linter.all false
set_option maxRecDepth 100000
set_option maxHeartbeats 2000000
/-! C3: what conditions do: leaves, depth, holds, called, joined. -/
namespace G
open PySem PySem.Spec PyProof.Rows L2 NdefX StX
def spLeaves (c : Cs) : Sp := fun vs H Q _ => ∃ (a : Addr) (m : Md), vs = [.ref a] ∧ CoAt c H a m ∧ Q (.int (m.leaves : Nat)) H
def spDepth (c : Cs) : Sp := fun vs H Q _ => ∃ (a : Addr) (m : Md), vs = [.ref a] ∧ CoAt c H a m ∧ Q (.int (m.depth : Nat)) H
/-- holds of the class whose tag is t, down to the depth d -/
def spHolds (c : Cs) (t d : Nat) : Sp := fun vs H Q _ => ∃ (a v : Addr) (y : Str) (m : Md) (zs : List Str) (kvs : List (Key × V)), vs = [.ref a, .str y, .ref v] ∧ CoAt c H a m ∧ m.tag = t ∧ m.depth ≤ d ∧ H v = some (.dK kvs) ∧ ValN zs kvs ∧ Q (.bl (m.holds y kvs)) H
def spCall (c : Cs) (d : Nat) : Sp := fun vs H Q _ => ∃ (a v : Addr) (y : Str) (m : Md) (zs : List Str) (kvs : List (Key × V)), vs = [.ref a, .str y, .ref v] ∧ CoAt c H a m ∧ m.depth ≤ d ∧ NameZ y ∧ H v = some (.dK kvs) ∧ ValOk zs kvs ∧
  ∀ H', Same H H' → Q (.bl (m.holds y kvs)) H'
def HoldsAll (P : Program) (w : World) (K : PySem.W.Frag) (mg : Str → Option Value) (base : Heap) (c : Cs) (k d : Nat) : Prop := ∀ m : Md, PolyM P w K mg base k (m.cls c) "holds" (spHolds c m.tag d)
/-- the sizes of a pair are within bounds -/
def Fits (m n : Md) : Prop := m.leaves + n.leaves ≤ 6 ∧ max m.depth n.depth + 1 ≤ 5 ∧ m.names + n.names ≤ 8
def spAnd (c : Cs) : Sp := fun vs H Q _ => ∃ (a b : Addr) (m n : Md), vs = [.ref a, .ref b] ∧ CoAt c H a m ∧ CoAt c H b n ∧ Fits m n ∧ ∀ r H', CoAt c H' r (.both m n) → Same H H' → Q (.ref r) H'
def spOr (c : Cs) : Sp := fun vs H Q _ => ∃ (a b : Addr) (m n : Md), vs = [.ref a, .ref b] ∧ CoAt c H a m ∧ CoAt c H b n ∧ Fits m n ∧ ∀ r H', CoAt c H' r (.eith m n) → Same H H' → Q (.ref r) H'
def spInv (c : Cs) : Sp := fun vs H Q _ => ∃ (a : Addr) (m : Md), vs = [.ref a] ∧ CoAt c H a m ∧ m.leaves ≤ 6 ∧ m.depth + 1 ≤ 5 ∧ m.names ≤ 8 ∧ ∀ r H', CoAt c H' r (.neg m) → Same H H' → Q (.ref r) H'
theorem put_same {H1 H' : Hp} {x dx C : Addr} {u : HO} (hx : H1 x = Option.none) (hdx : H1 dx = Option.none) (s' : Same (upd (upd H1 dx (.own x)) x (.ins C dx [])) H') : Same H1 (upd H' x u) := fun p o e => by
  have n1 := ne_of_none e hx
  rw [upd_ne n1]
  refine s' p o ?_
  rw [upd_ne n1, upd_ne (ne_of_none e hdx)]
  exact e
theorem new_same {H1 : Hp} {x dx C : Addr} (hx : H1 x = Option.none) (hdx : H1 dx = Option.none) : Same H1 (upd (upd H1 dx (.own x)) x (.ins C dx [])) := fun p o e => by
  rw [upd_ne (ne_of_none e hx), upd_ne (ne_of_none e hdx)]
  exact e
/-- a Both just made -/
theorem bo_made {c : Cs} {p q : Addr} {m n : Md} {H1 : Hp} {Q : VK} {E : XK} (h1 : CoAt c H1 p m) (h2 : CoAt c H1 q n) (f : Fits m n) (z : ∀ r H', CoAt c H' r (.both m n) → Same H1 H' → Q (.ref r) H') :
    ∀ x dx, H1 x = Option.none → H1 dx = Option.none → dx ≠ x → spPair c c.bo [.ref x, .ref p, .ref q] (upd (upd H1 dx (.own x)) x (.ins c.bo dx [])) (fun v H2 => v = .non ∧ Q (.ref x) H2) E := by
  intro x dx hx hdx _
  have s0 := new_same (C := c.bo) hx hdx
  refine ⟨x, dx, p, q, m, n, rfl, upd_same, h1.same s0, h2.same s0, f.1, f.2.1, f.2.2, fun H' s' => ⟨rfl, ?_⟩⟩
  have s1 := put_same (u := .ins c.bo dx (pairFs (m.leaves + n.leaves) (max m.depth n.depth + 1) (m.names + n.names) p q)) hx hdx s'
  exact z x _ ⟨p, q, dx, upd_same, h1.same s1, h2.same s1⟩ s1
theorem ei_made {c : Cs} {p q : Addr} {m n : Md} {H1 : Hp} {Q : VK} {E : XK} (h1 : CoAt c H1 p m) (h2 : CoAt c H1 q n) (f : Fits m n) (z : ∀ r H', CoAt c H' r (.eith m n) → Same H1 H' → Q (.ref r) H') :
    ∀ x dx, H1 x = Option.none → H1 dx = Option.none → dx ≠ x → spPair c c.ei [.ref x, .ref p, .ref q] (upd (upd H1 dx (.own x)) x (.ins c.ei dx [])) (fun v H2 => v = .non ∧ Q (.ref x) H2) E := by
  intro x dx hx hdx _
  have s0 := new_same (C := c.ei) hx hdx
  refine ⟨x, dx, p, q, m, n, rfl, upd_same, h1.same s0, h2.same s0, f.1, f.2.1, f.2.2, fun H' s' => ⟨rfl, ?_⟩⟩
  have s1 := put_same (u := .ins c.ei dx (pairFs (m.leaves + n.leaves) (max m.depth n.depth + 1) (m.names + n.names) p q)) hx hdx s'
  exact z x _ ⟨p, q, dx, upd_same, h1.same s1, h2.same s1⟩ s1
theorem nt_made {c : Cs} {p : Addr} {m : Md} {H1 : Hp} {Q : VK} {E : XK} (h1 : CoAt c H1 p m) (l6 : m.leaves ≤ 6) (d5 : m.depth + 1 ≤ 5) (n8 : m.names ≤ 8) (z : ∀ r H', CoAt c H' r (.neg m) → Same H1 H' → Q (.ref r) H') :
    ∀ x dx, H1 x = Option.none → H1 dx = Option.none → dx ≠ x → spNeg c c.nt [.ref x, .ref p] (upd (upd H1 dx (.own x)) x (.ins c.nt dx [])) (fun v H2 => v = .non ∧ Q (.ref x) H2) E := by
  intro x dx hx hdx _
  have s0 := new_same (C := c.nt) hx hdx
  refine ⟨x, dx, p, m, rfl, upd_same, h1.same s0, l6, d5, n8, rfl, ?_⟩
  have s1 : Same H1 (upd (upd (upd H1 dx (.own x)) x (.ins c.nt dx [])) x (.ins c.nt dx (negFs m.leaves (m.depth + 1) m.names p))) := put_same hx hdx (Same.refl _)
  exact z x _ ⟨p, dx, upd_same, h1.same s1⟩ s1
section
variable {P : Program} {w : World} {K : PySem.W.Frag} {mg : Str → Option Value} {base : Heap} {c : Cs} {D : Addr} {f : Addr} {fd : FuncData}
theorem sc_bt6 : FnScope ["self"] ["self"] (defScope (sBtw 6)) := ⟨rfl, rfl, rfl, by decide +kernel, rfl, by decide +kernel, by decide +kernel⟩
theorem sc_bt7 : FnScope ["self"] ["self"] (defScope (sBtw 7)) := ⟨rfl, rfl, rfl, by decide +kernel, rfl, by decide +kernel, by decide +kernel⟩
theorem sc_bt10 : FnScope ["self"] ["self"] (defScope (sBtw 10)) := ⟨rfl, rfl, rfl, by decide +kernel, rfl, by decide +kernel, by decide +kernel⟩
theorem sc_bt8 : FnScope ["self", "other"] ["self", "other"] (defScope (sBtw 8)) := ⟨rfl, rfl, rfl, by decide +kernel, rfl, by decide +kernel, by decide +kernel⟩
theorem sc_bt9 : FnScope ["self", "other"] ["self", "other"] (defScope (sBtw 9)) := ⟨rfl, rfl, rfl, by decide +kernel, rfl, by decide +kernel, by decide +kernel⟩
theorem sc_bt4 : FnScope ["self", "key", "value"] ["self", "key", "value"] (defScope (sBtw 4)) := ⟨rfl, rfl, rfl, by decide +kernel, rfl, by decide +kernel, by decide +kernel⟩
theorem sc_bt5 : FnScope ["self", "key", "value"] ["self", "key", "value"] (defScope (sBtw 5)) := ⟨rfl, rfl, rfl, by decide +kernel, rfl, by decide +kernel, by decide +kernel⟩
theorem ok_btleaves (F : Fun K "leaves" "Between.leaves" (sBtw 6) f fd) (O : CsOk K D c) : FnOk P w K mg base CX0 1 f fd ["self"] (spLeaves c) := by
  refine F.ok sc_bt6 (fun vs H Q E h => ?_) (fun cdv A outer s H vs Q E hr h => ?_)
  · obtain ⟨a, m, rfl, _⟩ := h
    rfl
  · obtain ⟨a, m, rfl, hc, qq⟩ := h
    obtain ⟨dx, fs, ha, l1, l2, l3, _⟩ := hc.get
    exact ⟨_, pss_one (ps_ret (pe_fld (pv 0) rfl)), _, rfl, a, _, dx, fs, _, rfl, ha, (O.of m).cl, (O.of m).n1, l1, qq⟩
theorem ok_btdepth (F : Fun K "depth" "Between.depth" (sBtw 7) f fd) (O : CsOk K D c) : FnOk P w K mg base CX0 1 f fd ["self"] (spDepth c) := by
  refine F.ok sc_bt7 (fun vs H Q E h => ?_) (fun cdv A outer s H vs Q E hr h => ?_)
  · obtain ⟨a, m, rfl, _⟩ := h
    rfl
  · obtain ⟨a, m, rfl, hc, qq⟩ := h
    obtain ⟨dx, fs, ha, l1, l2, l3, _⟩ := hc.get
    exact ⟨_, pss_one (ps_ret (pe_fld (pv 0) rfl)), _, rfl, a, _, dx, fs, _, rfl, ha, (O.of m).cl, (O.of m).n2, l2, qq⟩
theorem ok_btcall {k d : Nat} {fR : Addr} {fdR : FuncData} (F : Fun K "__call__" "Between.__call__" (sBtw 4) f fd) (HA : HoldsAll P w K mg base c k d) (h4 : 4 ≤ k) (kR : PySem.W.keepIn K (.ref fR) = true) (bR : Binds K fdR ["key", "value"] []) (gR : mg "need_record" = some (.ref fR))
    (GR : FnOk P w K mg base CX0 4 fR fdR ["key", "value"] spNeedRecord) : FnOk P w K mg base CX0 (k + 1) f fd ["self", "key", "value"] (spCall c d) := by
  refine F.ok sc_bt4 (fun vs H Q E h => ?_) (fun cdv A outer s H vs Q E hr h => ?_)
  · obtain ⟨a, v, y, m, zs, kvs, rfl, _⟩ := h
    rfl
  · obtain ⟨a, v, y, m, zs, kvs, rfl, hc, hd, hy, hv, ok, qq⟩ := h
    refine ⟨_, pss_cons (ps_expr (pe_call GR (hr.mono h4) rfl gR kR bR .nil pass0 (pa_cons (pv 1) (pa_cons (pv 2) pa_nil))))
      (pss_one (ps_ret (pe_methV (k := k) (pv 0) hr pass0 (pa_cons (pv 1) (pa_cons (pv 2) pa_nil))))), ?_⟩
    refine ⟨_, rfl, _, rfl, y, v, zs, kvs, rfl, hy, hv, ok, fun H1 s1 => ?_⟩
    have hc1 := hc.same s1
    obtain ⟨dx, fs, ha, l1, l2, l3, l4, _⟩ := hc1.get
    exact ⟨_, rfl, a, _, dx, fs, spHolds c m.tag d, rfl, ha, HA m, l4, _, rfl, _, rfl, a, v, y, m, zs, kvs, rfl, hc1, rfl, hd, s1 _ _ hv, ok.is, qq H1 s1⟩
theorem ok_btand_ {fB : Addr} {fdB : FuncData} (F : Fun K "__and__" "Between.__and__" (sBtw 8) f fd) (M : Mk K c.bo fB) (GB : FnOk P w K mg base CX0 3 fB fdB ["self", "one", "other"] (spPair c c.bo)) (gB : mg "Both" = some (.ref c.bo)) (bB : Binds K fdB ["self", "one", "other"] []) :
    FnOk P w K mg base CX0 5 f fd ["self", "other"] (spAnd c) := by
  refine F.ok sc_bt8 (fun vs H Q E h => ?_) (fun cdv A outer s H vs Q E hr h => ?_)
  · obtain ⟨a, b, m, n, rfl, _⟩ := h
    rfl
  · obtain ⟨a, b, m, n, rfl, h1, h2, ft, z⟩ := h
    exact ⟨_, pss_one (ps_ret (pe_make M GB hr rfl gB bB .nil pass0 (pa_cons (pv 0) (pa_cons (pv 1) pa_nil)))), _, rfl, _, rfl, bo_made h1 h2 ft z⟩
theorem ok_btor_ {fB : Addr} {fdB : FuncData} (F : Fun K "__or__" "Between.__or__" (sBtw 9) f fd) (M : Mk K c.ei fB) (GB : FnOk P w K mg base CX0 3 fB fdB ["self", "one", "other"] (spPair c c.ei)) (gB : mg "Either" = some (.ref c.ei)) (bB : Binds K fdB ["self", "one", "other"] []) :
    FnOk P w K mg base CX0 5 f fd ["self", "other"] (spOr c) := by
  refine F.ok sc_bt9 (fun vs H Q E h => ?_) (fun cdv A outer s H vs Q E hr h => ?_)
  · obtain ⟨a, b, m, n, rfl, _⟩ := h
    rfl
  · obtain ⟨a, b, m, n, rfl, h1, h2, ft, z⟩ := h
    exact ⟨_, pss_one (ps_ret (pe_make M GB hr rfl gB bB .nil pass0 (pa_cons (pv 0) (pa_cons (pv 1) pa_nil)))), _, rfl, _, rfl, ei_made h1 h2 ft z⟩
theorem ok_btinv {fB : Addr} {fdB : FuncData} (F : Fun K "__invert__" "Between.__invert__" (sBtw 10) f fd) (M : Mk K c.nt fB) (GB : FnOk P w K mg base CX0 2 fB fdB ["self", "one"] (spNeg c c.nt)) (gB : mg "Not" = some (.ref c.nt)) (bB : Binds K fdB ["self", "one"] []) :
    FnOk P w K mg base CX0 4 f fd ["self"] (spInv c) := by
  refine F.ok sc_bt10 (fun vs H Q E h => ?_) (fun cdv A outer s H vs Q E hr h => ?_)
  · obtain ⟨a, m, rfl, _⟩ := h
    rfl
  · obtain ⟨a, m, rfl, h1, l6, d5, n8, z⟩ := h
    exact ⟨_, pss_one (ps_ret (pe_make M GB hr rfl gB bB .nil pass0 (pa_cons (pv 0) pa_nil))), _, rfl, nt_made h1 l6 d5 n8 z⟩
theorem sc_nm4 : FnScope ["self"] ["self"] (defScope (sNam 4)) := ⟨rfl, rfl, rfl, by decide +kernel, rfl, by decide +kernel, by decide +kernel⟩
theorem sc_nm5 : FnScope ["self"] ["self"] (defScope (sNam 5)) := ⟨rfl, rfl, rfl, by decide +kernel, rfl, by decide +kernel, by decide +kernel⟩
theorem sc_nm8 : FnScope ["self"] ["self"] (defScope (sNam 8)) := ⟨rfl, rfl, rfl, by decide +kernel, rfl, by decide +kernel, by decide +kernel⟩
theorem sc_nm6 : FnScope ["self", "other"] ["self", "other"] (defScope (sNam 6)) := ⟨rfl, rfl, rfl, by decide +kernel, rfl, by decide +kernel, by decide +kernel⟩
theorem sc_nm7 : FnScope ["self", "other"] ["self", "other"] (defScope (sNam 7)) := ⟨rfl, rfl, rfl, by decide +kernel, rfl, by decide +kernel, by decide +kernel⟩
theorem sc_nm2 : FnScope ["self", "key", "value"] ["self", "key", "value"] (defScope (sNam 2)) := ⟨rfl, rfl, rfl, by decide +kernel, rfl, by decide +kernel, by decide +kernel⟩
theorem sc_nm3 : FnScope ["self", "key", "value"] ["self", "key", "value"] (defScope (sNam 3)) := ⟨rfl, rfl, rfl, by decide +kernel, rfl, by decide +kernel, by decide +kernel⟩
theorem ok_nmleaves (F : Fun K "leaves" "Named.leaves" (sNam 4) f fd) (O : CsOk K D c) : FnOk P w K mg base CX0 1 f fd ["self"] (spLeaves c) := by
  refine F.ok sc_nm4 (fun vs H Q E h => ?_) (fun cdv A outer s H vs Q E hr h => ?_)
  · obtain ⟨a, m, rfl, _⟩ := h
    rfl
  · obtain ⟨a, m, rfl, hc, qq⟩ := h
    obtain ⟨dx, fs, ha, l1, l2, l3, _⟩ := hc.get
    exact ⟨_, pss_one (ps_ret (pe_fld (pv 0) rfl)), _, rfl, a, _, dx, fs, _, rfl, ha, (O.of m).cl, (O.of m).n1, l1, qq⟩
theorem ok_nmdepth (F : Fun K "depth" "Named.depth" (sNam 5) f fd) (O : CsOk K D c) : FnOk P w K mg base CX0 1 f fd ["self"] (spDepth c) := by
  refine F.ok sc_nm5 (fun vs H Q E h => ?_) (fun cdv A outer s H vs Q E hr h => ?_)
  · obtain ⟨a, m, rfl, _⟩ := h
    rfl
  · obtain ⟨a, m, rfl, hc, qq⟩ := h
    obtain ⟨dx, fs, ha, l1, l2, l3, _⟩ := hc.get
    exact ⟨_, pss_one (ps_ret (pe_fld (pv 0) rfl)), _, rfl, a, _, dx, fs, _, rfl, ha, (O.of m).cl, (O.of m).n2, l2, qq⟩
theorem ok_nmcall {k d : Nat} {fR : Addr} {fdR : FuncData} (F : Fun K "__call__" "Named.__call__" (sNam 2) f fd) (HA : HoldsAll P w K mg base c k d) (h4 : 4 ≤ k) (kR : PySem.W.keepIn K (.ref fR) = true) (bR : Binds K fdR ["key", "value"] []) (gR : mg "need_record" = some (.ref fR))
    (GR : FnOk P w K mg base CX0 4 fR fdR ["key", "value"] spNeedRecord) : FnOk P w K mg base CX0 (k + 1) f fd ["self", "key", "value"] (spCall c d) := by
  refine F.ok sc_nm2 (fun vs H Q E h => ?_) (fun cdv A outer s H vs Q E hr h => ?_)
  · obtain ⟨a, v, y, m, zs, kvs, rfl, _⟩ := h
    rfl
  · obtain ⟨a, v, y, m, zs, kvs, rfl, hc, hd, hy, hv, ok, qq⟩ := h
    refine ⟨_, pss_cons (ps_expr (pe_call GR (hr.mono h4) rfl gR kR bR .nil pass0 (pa_cons (pv 1) (pa_cons (pv 2) pa_nil))))
      (pss_one (ps_ret (pe_methV (k := k) (pv 0) hr pass0 (pa_cons (pv 1) (pa_cons (pv 2) pa_nil))))), ?_⟩
    refine ⟨_, rfl, _, rfl, y, v, zs, kvs, rfl, hy, hv, ok, fun H1 s1 => ?_⟩
    have hc1 := hc.same s1
    obtain ⟨dx, fs, ha, l1, l2, l3, l4, _⟩ := hc1.get
    exact ⟨_, rfl, a, _, dx, fs, spHolds c m.tag d, rfl, ha, HA m, l4, _, rfl, _, rfl, a, v, y, m, zs, kvs, rfl, hc1, rfl, hd, s1 _ _ hv, ok.is, qq H1 s1⟩
theorem ok_nmand_ {fB : Addr} {fdB : FuncData} (F : Fun K "__and__" "Named.__and__" (sNam 6) f fd) (M : Mk K c.bo fB) (GB : FnOk P w K mg base CX0 3 fB fdB ["self", "one", "other"] (spPair c c.bo)) (gB : mg "Both" = some (.ref c.bo)) (bB : Binds K fdB ["self", "one", "other"] []) :
    FnOk P w K mg base CX0 5 f fd ["self", "other"] (spAnd c) := by
  refine F.ok sc_nm6 (fun vs H Q E h => ?_) (fun cdv A outer s H vs Q E hr h => ?_)
  · obtain ⟨a, b, m, n, rfl, _⟩ := h
    rfl
  · obtain ⟨a, b, m, n, rfl, h1, h2, ft, z⟩ := h
    exact ⟨_, pss_one (ps_ret (pe_make M GB hr rfl gB bB .nil pass0 (pa_cons (pv 0) (pa_cons (pv 1) pa_nil)))), _, rfl, _, rfl, bo_made h1 h2 ft z⟩
theorem ok_nmor_ {fB : Addr} {fdB : FuncData} (F : Fun K "__or__" "Named.__or__" (sNam 7) f fd) (M : Mk K c.ei fB) (GB : FnOk P w K mg base CX0 3 fB fdB ["self", "one", "other"] (spPair c c.ei)) (gB : mg "Either" = some (.ref c.ei)) (bB : Binds K fdB ["self", "one", "other"] []) :
    FnOk P w K mg base CX0 5 f fd ["self", "other"] (spOr c) := by
  refine F.ok sc_nm7 (fun vs H Q E h => ?_) (fun cdv A outer s H vs Q E hr h => ?_)
  · obtain ⟨a, b, m, n, rfl, _⟩ := h
    rfl
  · obtain ⟨a, b, m, n, rfl, h1, h2, ft, z⟩ := h
    exact ⟨_, pss_one (ps_ret (pe_make M GB hr rfl gB bB .nil pass0 (pa_cons (pv 0) (pa_cons (pv 1) pa_nil)))), _, rfl, _, rfl, ei_made h1 h2 ft z⟩
theorem ok_nminv {fB : Addr} {fdB : FuncData} (F : Fun K "__invert__" "Named.__invert__" (sNam 8) f fd) (M : Mk K c.nt fB) (GB : FnOk P w K mg base CX0 2 fB fdB ["self", "one"] (spNeg c c.nt)) (gB : mg "Not" = some (.ref c.nt)) (bB : Binds K fdB ["self", "one"] []) :
    FnOk P w K mg base CX0 4 f fd ["self"] (spInv c) := by
  refine F.ok sc_nm8 (fun vs H Q E h => ?_) (fun cdv A outer s H vs Q E hr h => ?_)
  · obtain ⟨a, m, rfl, _⟩ := h
    rfl
  · obtain ⟨a, m, rfl, h1, l6, d5, n8, z⟩ := h
    exact ⟨_, pss_one (ps_ret (pe_make M GB hr rfl gB bB .nil pass0 (pa_cons (pv 0) pa_nil))), _, rfl, nt_made h1 l6 d5 n8 z⟩
theorem sc_bo5 : FnScope ["self"] ["self"] (defScope (sBo 5)) := ⟨rfl, rfl, rfl, by decide +kernel, rfl, by decide +kernel, by decide +kernel⟩
theorem sc_bo6 : FnScope ["self"] ["self"] (defScope (sBo 6)) := ⟨rfl, rfl, rfl, by decide +kernel, rfl, by decide +kernel, by decide +kernel⟩
theorem sc_bo9 : FnScope ["self"] ["self"] (defScope (sBo 9)) := ⟨rfl, rfl, rfl, by decide +kernel, rfl, by decide +kernel, by decide +kernel⟩
theorem sc_bo7 : FnScope ["self", "other"] ["self", "other"] (defScope (sBo 7)) := ⟨rfl, rfl, rfl, by decide +kernel, rfl, by decide +kernel, by decide +kernel⟩
theorem sc_bo8 : FnScope ["self", "other"] ["self", "other"] (defScope (sBo 8)) := ⟨rfl, rfl, rfl, by decide +kernel, rfl, by decide +kernel, by decide +kernel⟩
theorem sc_bo3 : FnScope ["self", "key", "value"] ["self", "key", "value"] (defScope (sBo 3)) := ⟨rfl, rfl, rfl, by decide +kernel, rfl, by decide +kernel, by decide +kernel⟩
theorem sc_bo4 : FnScope ["self", "key", "value"] ["self", "key", "value"] (defScope (sBo 4)) := ⟨rfl, rfl, rfl, by decide +kernel, rfl, by decide +kernel, by decide +kernel⟩
theorem ok_boleaves (F : Fun K "leaves" "Both.leaves" (sBo 5) f fd) (O : CsOk K D c) : FnOk P w K mg base CX0 1 f fd ["self"] (spLeaves c) := by
  refine F.ok sc_bo5 (fun vs H Q E h => ?_) (fun cdv A outer s H vs Q E hr h => ?_)
  · obtain ⟨a, m, rfl, _⟩ := h
    rfl
  · obtain ⟨a, m, rfl, hc, qq⟩ := h
    obtain ⟨dx, fs, ha, l1, l2, l3, _⟩ := hc.get
    exact ⟨_, pss_one (ps_ret (pe_fld (pv 0) rfl)), _, rfl, a, _, dx, fs, _, rfl, ha, (O.of m).cl, (O.of m).n1, l1, qq⟩
theorem ok_bodepth (F : Fun K "depth" "Both.depth" (sBo 6) f fd) (O : CsOk K D c) : FnOk P w K mg base CX0 1 f fd ["self"] (spDepth c) := by
  refine F.ok sc_bo6 (fun vs H Q E h => ?_) (fun cdv A outer s H vs Q E hr h => ?_)
  · obtain ⟨a, m, rfl, _⟩ := h
    rfl
  · obtain ⟨a, m, rfl, hc, qq⟩ := h
    obtain ⟨dx, fs, ha, l1, l2, l3, _⟩ := hc.get
    exact ⟨_, pss_one (ps_ret (pe_fld (pv 0) rfl)), _, rfl, a, _, dx, fs, _, rfl, ha, (O.of m).cl, (O.of m).n2, l2, qq⟩
theorem ok_bocall {k d : Nat} {fR : Addr} {fdR : FuncData} (F : Fun K "__call__" "Both.__call__" (sBo 3) f fd) (HA : HoldsAll P w K mg base c k d) (h4 : 4 ≤ k) (kR : PySem.W.keepIn K (.ref fR) = true) (bR : Binds K fdR ["key", "value"] []) (gR : mg "need_record" = some (.ref fR))
    (GR : FnOk P w K mg base CX0 4 fR fdR ["key", "value"] spNeedRecord) : FnOk P w K mg base CX0 (k + 1) f fd ["self", "key", "value"] (spCall c d) := by
  refine F.ok sc_bo3 (fun vs H Q E h => ?_) (fun cdv A outer s H vs Q E hr h => ?_)
  · obtain ⟨a, v, y, m, zs, kvs, rfl, _⟩ := h
    rfl
  · obtain ⟨a, v, y, m, zs, kvs, rfl, hc, hd, hy, hv, ok, qq⟩ := h
    refine ⟨_, pss_cons (ps_expr (pe_call GR (hr.mono h4) rfl gR kR bR .nil pass0 (pa_cons (pv 1) (pa_cons (pv 2) pa_nil))))
      (pss_one (ps_ret (pe_methV (k := k) (pv 0) hr pass0 (pa_cons (pv 1) (pa_cons (pv 2) pa_nil))))), ?_⟩
    refine ⟨_, rfl, _, rfl, y, v, zs, kvs, rfl, hy, hv, ok, fun H1 s1 => ?_⟩
    have hc1 := hc.same s1
    obtain ⟨dx, fs, ha, l1, l2, l3, l4, _⟩ := hc1.get
    exact ⟨_, rfl, a, _, dx, fs, spHolds c m.tag d, rfl, ha, HA m, l4, _, rfl, _, rfl, a, v, y, m, zs, kvs, rfl, hc1, rfl, hd, s1 _ _ hv, ok.is, qq H1 s1⟩
theorem ok_boand_ {fB : Addr} {fdB : FuncData} (F : Fun K "__and__" "Both.__and__" (sBo 7) f fd) (M : Mk K c.bo fB) (GB : FnOk P w K mg base CX0 3 fB fdB ["self", "one", "other"] (spPair c c.bo)) (gB : mg "Both" = some (.ref c.bo)) (bB : Binds K fdB ["self", "one", "other"] []) :
    FnOk P w K mg base CX0 5 f fd ["self", "other"] (spAnd c) := by
  refine F.ok sc_bo7 (fun vs H Q E h => ?_) (fun cdv A outer s H vs Q E hr h => ?_)
  · obtain ⟨a, b, m, n, rfl, _⟩ := h
    rfl
  · obtain ⟨a, b, m, n, rfl, h1, h2, ft, z⟩ := h
    exact ⟨_, pss_one (ps_ret (pe_make M GB hr rfl gB bB .nil pass0 (pa_cons (pv 0) (pa_cons (pv 1) pa_nil)))), _, rfl, _, rfl, bo_made h1 h2 ft z⟩
theorem ok_boor_ {fB : Addr} {fdB : FuncData} (F : Fun K "__or__" "Both.__or__" (sBo 8) f fd) (M : Mk K c.ei fB) (GB : FnOk P w K mg base CX0 3 fB fdB ["self", "one", "other"] (spPair c c.ei)) (gB : mg "Either" = some (.ref c.ei)) (bB : Binds K fdB ["self", "one", "other"] []) :
    FnOk P w K mg base CX0 5 f fd ["self", "other"] (spOr c) := by
  refine F.ok sc_bo8 (fun vs H Q E h => ?_) (fun cdv A outer s H vs Q E hr h => ?_)
  · obtain ⟨a, b, m, n, rfl, _⟩ := h
    rfl
  · obtain ⟨a, b, m, n, rfl, h1, h2, ft, z⟩ := h
    exact ⟨_, pss_one (ps_ret (pe_make M GB hr rfl gB bB .nil pass0 (pa_cons (pv 0) (pa_cons (pv 1) pa_nil)))), _, rfl, _, rfl, ei_made h1 h2 ft z⟩
theorem ok_boinv {fB : Addr} {fdB : FuncData} (F : Fun K "__invert__" "Both.__invert__" (sBo 9) f fd) (M : Mk K c.nt fB) (GB : FnOk P w K mg base CX0 2 fB fdB ["self", "one"] (spNeg c c.nt)) (gB : mg "Not" = some (.ref c.nt)) (bB : Binds K fdB ["self", "one"] []) :
    FnOk P w K mg base CX0 4 f fd ["self"] (spInv c) := by
  refine F.ok sc_bo9 (fun vs H Q E h => ?_) (fun cdv A outer s H vs Q E hr h => ?_)
  · obtain ⟨a, m, rfl, _⟩ := h
    rfl
  · obtain ⟨a, m, rfl, h1, l6, d5, n8, z⟩ := h
    exact ⟨_, pss_one (ps_ret (pe_make M GB hr rfl gB bB .nil pass0 (pa_cons (pv 0) pa_nil))), _, rfl, nt_made h1 l6 d5 n8 z⟩
theorem sc_ei5 : FnScope ["self"] ["self"] (defScope (sEi 5)) := ⟨rfl, rfl, rfl, by decide +kernel, rfl, by decide +kernel, by decide +kernel⟩
theorem sc_ei6 : FnScope ["self"] ["self"] (defScope (sEi 6)) := ⟨rfl, rfl, rfl, by decide +kernel, rfl, by decide +kernel, by decide +kernel⟩
theorem sc_ei9 : FnScope ["self"] ["self"] (defScope (sEi 9)) := ⟨rfl, rfl, rfl, by decide +kernel, rfl, by decide +kernel, by decide +kernel⟩
theorem sc_ei7 : FnScope ["self", "other"] ["self", "other"] (defScope (sEi 7)) := ⟨rfl, rfl, rfl, by decide +kernel, rfl, by decide +kernel, by decide +kernel⟩
theorem sc_ei8 : FnScope ["self", "other"] ["self", "other"] (defScope (sEi 8)) := ⟨rfl, rfl, rfl, by decide +kernel, rfl, by decide +kernel, by decide +kernel⟩
theorem sc_ei3 : FnScope ["self", "key", "value"] ["self", "key", "value"] (defScope (sEi 3)) := ⟨rfl, rfl, rfl, by decide +kernel, rfl, by decide +kernel, by decide +kernel⟩
theorem sc_ei4 : FnScope ["self", "key", "value"] ["self", "key", "value"] (defScope (sEi 4)) := ⟨rfl, rfl, rfl, by decide +kernel, rfl, by decide +kernel, by decide +kernel⟩
theorem ok_eileaves (F : Fun K "leaves" "Either.leaves" (sEi 5) f fd) (O : CsOk K D c) : FnOk P w K mg base CX0 1 f fd ["self"] (spLeaves c) := by
  refine F.ok sc_ei5 (fun vs H Q E h => ?_) (fun cdv A outer s H vs Q E hr h => ?_)
  · obtain ⟨a, m, rfl, _⟩ := h
    rfl
  · obtain ⟨a, m, rfl, hc, qq⟩ := h
    obtain ⟨dx, fs, ha, l1, l2, l3, _⟩ := hc.get
    exact ⟨_, pss_one (ps_ret (pe_fld (pv 0) rfl)), _, rfl, a, _, dx, fs, _, rfl, ha, (O.of m).cl, (O.of m).n1, l1, qq⟩
theorem ok_eidepth (F : Fun K "depth" "Either.depth" (sEi 6) f fd) (O : CsOk K D c) : FnOk P w K mg base CX0 1 f fd ["self"] (spDepth c) := by
  refine F.ok sc_ei6 (fun vs H Q E h => ?_) (fun cdv A outer s H vs Q E hr h => ?_)
  · obtain ⟨a, m, rfl, _⟩ := h
    rfl
  · obtain ⟨a, m, rfl, hc, qq⟩ := h
    obtain ⟨dx, fs, ha, l1, l2, l3, _⟩ := hc.get
    exact ⟨_, pss_one (ps_ret (pe_fld (pv 0) rfl)), _, rfl, a, _, dx, fs, _, rfl, ha, (O.of m).cl, (O.of m).n2, l2, qq⟩
theorem ok_eicall {k d : Nat} {fR : Addr} {fdR : FuncData} (F : Fun K "__call__" "Either.__call__" (sEi 3) f fd) (HA : HoldsAll P w K mg base c k d) (h4 : 4 ≤ k) (kR : PySem.W.keepIn K (.ref fR) = true) (bR : Binds K fdR ["key", "value"] []) (gR : mg "need_record" = some (.ref fR))
    (GR : FnOk P w K mg base CX0 4 fR fdR ["key", "value"] spNeedRecord) : FnOk P w K mg base CX0 (k + 1) f fd ["self", "key", "value"] (spCall c d) := by
  refine F.ok sc_ei3 (fun vs H Q E h => ?_) (fun cdv A outer s H vs Q E hr h => ?_)
  · obtain ⟨a, v, y, m, zs, kvs, rfl, _⟩ := h
    rfl
  · obtain ⟨a, v, y, m, zs, kvs, rfl, hc, hd, hy, hv, ok, qq⟩ := h
    refine ⟨_, pss_cons (ps_expr (pe_call GR (hr.mono h4) rfl gR kR bR .nil pass0 (pa_cons (pv 1) (pa_cons (pv 2) pa_nil))))
      (pss_one (ps_ret (pe_methV (k := k) (pv 0) hr pass0 (pa_cons (pv 1) (pa_cons (pv 2) pa_nil))))), ?_⟩
    refine ⟨_, rfl, _, rfl, y, v, zs, kvs, rfl, hy, hv, ok, fun H1 s1 => ?_⟩
    have hc1 := hc.same s1
    obtain ⟨dx, fs, ha, l1, l2, l3, l4, _⟩ := hc1.get
    exact ⟨_, rfl, a, _, dx, fs, spHolds c m.tag d, rfl, ha, HA m, l4, _, rfl, _, rfl, a, v, y, m, zs, kvs, rfl, hc1, rfl, hd, s1 _ _ hv, ok.is, qq H1 s1⟩
theorem ok_eiand_ {fB : Addr} {fdB : FuncData} (F : Fun K "__and__" "Either.__and__" (sEi 7) f fd) (M : Mk K c.bo fB) (GB : FnOk P w K mg base CX0 3 fB fdB ["self", "one", "other"] (spPair c c.bo)) (gB : mg "Both" = some (.ref c.bo)) (bB : Binds K fdB ["self", "one", "other"] []) :
    FnOk P w K mg base CX0 5 f fd ["self", "other"] (spAnd c) := by
  refine F.ok sc_ei7 (fun vs H Q E h => ?_) (fun cdv A outer s H vs Q E hr h => ?_)
  · obtain ⟨a, b, m, n, rfl, _⟩ := h
    rfl
  · obtain ⟨a, b, m, n, rfl, h1, h2, ft, z⟩ := h
    exact ⟨_, pss_one (ps_ret (pe_make M GB hr rfl gB bB .nil pass0 (pa_cons (pv 0) (pa_cons (pv 1) pa_nil)))), _, rfl, _, rfl, bo_made h1 h2 ft z⟩
theorem ok_eior_ {fB : Addr} {fdB : FuncData} (F : Fun K "__or__" "Either.__or__" (sEi 8) f fd) (M : Mk K c.ei fB) (GB : FnOk P w K mg base CX0 3 fB fdB ["self", "one", "other"] (spPair c c.ei)) (gB : mg "Either" = some (.ref c.ei)) (bB : Binds K fdB ["self", "one", "other"] []) :
    FnOk P w K mg base CX0 5 f fd ["self", "other"] (spOr c) := by
  refine F.ok sc_ei8 (fun vs H Q E h => ?_) (fun cdv A outer s H vs Q E hr h => ?_)
  · obtain ⟨a, b, m, n, rfl, _⟩ := h
    rfl
  · obtain ⟨a, b, m, n, rfl, h1, h2, ft, z⟩ := h
    exact ⟨_, pss_one (ps_ret (pe_make M GB hr rfl gB bB .nil pass0 (pa_cons (pv 0) (pa_cons (pv 1) pa_nil)))), _, rfl, _, rfl, ei_made h1 h2 ft z⟩
theorem ok_eiinv {fB : Addr} {fdB : FuncData} (F : Fun K "__invert__" "Either.__invert__" (sEi 9) f fd) (M : Mk K c.nt fB) (GB : FnOk P w K mg base CX0 2 fB fdB ["self", "one"] (spNeg c c.nt)) (gB : mg "Not" = some (.ref c.nt)) (bB : Binds K fdB ["self", "one"] []) :
    FnOk P w K mg base CX0 4 f fd ["self"] (spInv c) := by
  refine F.ok sc_ei9 (fun vs H Q E h => ?_) (fun cdv A outer s H vs Q E hr h => ?_)
  · obtain ⟨a, m, rfl, _⟩ := h
    rfl
  · obtain ⟨a, m, rfl, h1, l6, d5, n8, z⟩ := h
    exact ⟨_, pss_one (ps_ret (pe_make M GB hr rfl gB bB .nil pass0 (pa_cons (pv 0) pa_nil))), _, rfl, nt_made h1 l6 d5 n8 z⟩
theorem sc_nt5 : FnScope ["self"] ["self"] (defScope (sNt 5)) := ⟨rfl, rfl, rfl, by decide +kernel, rfl, by decide +kernel, by decide +kernel⟩
theorem sc_nt6 : FnScope ["self"] ["self"] (defScope (sNt 6)) := ⟨rfl, rfl, rfl, by decide +kernel, rfl, by decide +kernel, by decide +kernel⟩
theorem sc_nt9 : FnScope ["self"] ["self"] (defScope (sNt 9)) := ⟨rfl, rfl, rfl, by decide +kernel, rfl, by decide +kernel, by decide +kernel⟩
theorem sc_nt7 : FnScope ["self", "other"] ["self", "other"] (defScope (sNt 7)) := ⟨rfl, rfl, rfl, by decide +kernel, rfl, by decide +kernel, by decide +kernel⟩
theorem sc_nt8 : FnScope ["self", "other"] ["self", "other"] (defScope (sNt 8)) := ⟨rfl, rfl, rfl, by decide +kernel, rfl, by decide +kernel, by decide +kernel⟩
theorem sc_nt2 : FnScope ["self", "key", "value"] ["self", "key", "value"] (defScope (sNt 2)) := ⟨rfl, rfl, rfl, by decide +kernel, rfl, by decide +kernel, by decide +kernel⟩
theorem sc_nt3 : FnScope ["self", "key", "value"] ["self", "key", "value"] (defScope (sNt 3)) := ⟨rfl, rfl, rfl, by decide +kernel, rfl, by decide +kernel, by decide +kernel⟩
theorem ok_ntleaves (F : Fun K "leaves" "Not.leaves" (sNt 5) f fd) (O : CsOk K D c) : FnOk P w K mg base CX0 1 f fd ["self"] (spLeaves c) := by
  refine F.ok sc_nt5 (fun vs H Q E h => ?_) (fun cdv A outer s H vs Q E hr h => ?_)
  · obtain ⟨a, m, rfl, _⟩ := h
    rfl
  · obtain ⟨a, m, rfl, hc, qq⟩ := h
    obtain ⟨dx, fs, ha, l1, l2, l3, _⟩ := hc.get
    exact ⟨_, pss_one (ps_ret (pe_fld (pv 0) rfl)), _, rfl, a, _, dx, fs, _, rfl, ha, (O.of m).cl, (O.of m).n1, l1, qq⟩
theorem ok_ntdepth (F : Fun K "depth" "Not.depth" (sNt 6) f fd) (O : CsOk K D c) : FnOk P w K mg base CX0 1 f fd ["self"] (spDepth c) := by
  refine F.ok sc_nt6 (fun vs H Q E h => ?_) (fun cdv A outer s H vs Q E hr h => ?_)
  · obtain ⟨a, m, rfl, _⟩ := h
    rfl
  · obtain ⟨a, m, rfl, hc, qq⟩ := h
    obtain ⟨dx, fs, ha, l1, l2, l3, _⟩ := hc.get
    exact ⟨_, pss_one (ps_ret (pe_fld (pv 0) rfl)), _, rfl, a, _, dx, fs, _, rfl, ha, (O.of m).cl, (O.of m).n2, l2, qq⟩
theorem ok_ntcall {k d : Nat} {fR : Addr} {fdR : FuncData} (F : Fun K "__call__" "Not.__call__" (sNt 2) f fd) (HA : HoldsAll P w K mg base c k d) (h4 : 4 ≤ k) (kR : PySem.W.keepIn K (.ref fR) = true) (bR : Binds K fdR ["key", "value"] []) (gR : mg "need_record" = some (.ref fR))
    (GR : FnOk P w K mg base CX0 4 fR fdR ["key", "value"] spNeedRecord) : FnOk P w K mg base CX0 (k + 1) f fd ["self", "key", "value"] (spCall c d) := by
  refine F.ok sc_nt2 (fun vs H Q E h => ?_) (fun cdv A outer s H vs Q E hr h => ?_)
  · obtain ⟨a, v, y, m, zs, kvs, rfl, _⟩ := h
    rfl
  · obtain ⟨a, v, y, m, zs, kvs, rfl, hc, hd, hy, hv, ok, qq⟩ := h
    refine ⟨_, pss_cons (ps_expr (pe_call GR (hr.mono h4) rfl gR kR bR .nil pass0 (pa_cons (pv 1) (pa_cons (pv 2) pa_nil))))
      (pss_one (ps_ret (pe_methV (k := k) (pv 0) hr pass0 (pa_cons (pv 1) (pa_cons (pv 2) pa_nil))))), ?_⟩
    refine ⟨_, rfl, _, rfl, y, v, zs, kvs, rfl, hy, hv, ok, fun H1 s1 => ?_⟩
    have hc1 := hc.same s1
    obtain ⟨dx, fs, ha, l1, l2, l3, l4, _⟩ := hc1.get
    exact ⟨_, rfl, a, _, dx, fs, spHolds c m.tag d, rfl, ha, HA m, l4, _, rfl, _, rfl, a, v, y, m, zs, kvs, rfl, hc1, rfl, hd, s1 _ _ hv, ok.is, qq H1 s1⟩
theorem ok_ntand_ {fB : Addr} {fdB : FuncData} (F : Fun K "__and__" "Not.__and__" (sNt 7) f fd) (M : Mk K c.bo fB) (GB : FnOk P w K mg base CX0 3 fB fdB ["self", "one", "other"] (spPair c c.bo)) (gB : mg "Both" = some (.ref c.bo)) (bB : Binds K fdB ["self", "one", "other"] []) :
    FnOk P w K mg base CX0 5 f fd ["self", "other"] (spAnd c) := by
  refine F.ok sc_nt7 (fun vs H Q E h => ?_) (fun cdv A outer s H vs Q E hr h => ?_)
  · obtain ⟨a, b, m, n, rfl, _⟩ := h
    rfl
  · obtain ⟨a, b, m, n, rfl, h1, h2, ft, z⟩ := h
    exact ⟨_, pss_one (ps_ret (pe_make M GB hr rfl gB bB .nil pass0 (pa_cons (pv 0) (pa_cons (pv 1) pa_nil)))), _, rfl, _, rfl, bo_made h1 h2 ft z⟩
theorem ok_ntor_ {fB : Addr} {fdB : FuncData} (F : Fun K "__or__" "Not.__or__" (sNt 8) f fd) (M : Mk K c.ei fB) (GB : FnOk P w K mg base CX0 3 fB fdB ["self", "one", "other"] (spPair c c.ei)) (gB : mg "Either" = some (.ref c.ei)) (bB : Binds K fdB ["self", "one", "other"] []) :
    FnOk P w K mg base CX0 5 f fd ["self", "other"] (spOr c) := by
  refine F.ok sc_nt8 (fun vs H Q E h => ?_) (fun cdv A outer s H vs Q E hr h => ?_)
  · obtain ⟨a, b, m, n, rfl, _⟩ := h
    rfl
  · obtain ⟨a, b, m, n, rfl, h1, h2, ft, z⟩ := h
    exact ⟨_, pss_one (ps_ret (pe_make M GB hr rfl gB bB .nil pass0 (pa_cons (pv 0) (pa_cons (pv 1) pa_nil)))), _, rfl, _, rfl, ei_made h1 h2 ft z⟩
theorem ok_ntinv {fB : Addr} {fdB : FuncData} (F : Fun K "__invert__" "Not.__invert__" (sNt 9) f fd) (M : Mk K c.nt fB) (GB : FnOk P w K mg base CX0 2 fB fdB ["self", "one"] (spNeg c c.nt)) (gB : mg "Not" = some (.ref c.nt)) (bB : Binds K fdB ["self", "one"] []) :
    FnOk P w K mg base CX0 4 f fd ["self"] (spInv c) := by
  refine F.ok sc_nt9 (fun vs H Q E h => ?_) (fun cdv A outer s H vs Q E hr h => ?_)
  · obtain ⟨a, m, rfl, _⟩ := h
    rfl
  · obtain ⟨a, m, rfl, h1, l6, d5, n8, z⟩ := h
    exact ⟨_, pss_one (ps_ret (pe_make M GB hr rfl gB bB .nil pass0 (pa_cons (pv 0) pa_nil))), _, rfl, nt_made h1 l6 d5 n8 z⟩
theorem ok_btholds2 {d : Nat} (F : Fun K "holds" "Between.holds" (sBtw 5) f fd) (cl : Cls K c.bt) (n1 : NoAttr K c.bt "field_name") (n2 : NoAttr K c.bt "lowest") (n3 : NoAttr K c.bt "highest") : FnOk P w K mg base CX0 1 f fd ["self", "key", "value"] (spHolds c 0 d) :=
  (ok_btwholds F cl n1 n2 n3).imp fun vs H Q E h => by
    obtain ⟨a, v, y, m, zs, kvs, rfl, hc, ht, hd, hv, ok, qq⟩ := h
    cases m with
    | btw z lo hi => exact ⟨a, v, y, z, lo, hi, zs, kvs, rfl, hc, hv, ok, qq⟩
    | _ => cases ht
theorem ok_nmholds2 {d : Nat} (F : Fun K "holds" "Named.holds" (sNam 3) f fd) (cl : Cls K c.nm) (n1 : NoAttr K c.nm "accepted_names") : FnOk P w K mg base CX0 1 f fd ["self", "key", "value"] (spHolds c 1 d) :=
  (ok_namholds F cl n1).imp fun vs H Q E h => by
    obtain ⟨a, v, y, m, zs, kvs, rfl, hc, ht, hd, hv, ok, qq⟩ := h
    cases m with
    | nam ns =>
      obtain ⟨t, hc⟩ := hc
      exact ⟨a, v, t, y, ns, rfl, hc, qq⟩
    | _ => cases ht
theorem ok_boholds {k d : Nat} (HA : HoldsAll P w K mg base c k d) (F : Fun K "holds" "Both.holds" (sBo 4) f fd) (cl : Cls K c.bo) (n1 : NoAttr K c.bo "first") (n2 : NoAttr K c.bo "second") : FnOk P w K mg base CX0 (k + 1) f fd ["self", "key", "value"] (spHolds c 3 (d + 1)) := by
  refine F.ok sc_bo4 (fun vs H Q E h => ?_) (fun cdv A outer s H vs Q E hr h => ?_)
  · obtain ⟨a, v, y, m, zs, kvs, rfl, _⟩ := h
    rfl
  · obtain ⟨a, v, y, m, zs, kvs, rfl, hc, ht, hd, hv, ok, qq⟩ := h
    refine ⟨_, pss_one (ps_ret (pe_and (pe_methV (k := k) (pe_fld (pv 0) rfl) hr pass0 (pa_cons (pv 1) (pa_cons (pv 2) pa_nil))) (pe_one (pe_methV (k := k) (pe_fld (pv 0) rfl) hr pass0 (pa_cons (pv 1) (pa_cons (pv 2) pa_nil)))))), ?_⟩
    cases m with
    | both m1 m2 =>
      obtain ⟨p, q, dx, ha, h1, h2⟩ := hc
      obtain ⟨dp, fp, hp, _, _, _, lp, _⟩ := h1.get
      obtain ⟨dq, fq, hq, _, _, _, lq, _⟩ := h2.get
      have d1 : m1.depth ≤ d := by
        have : max m1.depth m2.depth + 1 ≤ d + 1 := hd
        omega
      have d2 : m2.depth ≤ d := by
        have : max m1.depth m2.depth + 1 ≤ d + 1 := hd
        omega
      refine ⟨_, rfl, a, _, dx, _, _, rfl, ha, cl, n1, rfl, p, _, dp, fp, spHolds c m1.tag d, rfl, hp, HA m1, lp, _, rfl, _, rfl, p, v, y, m1, zs, kvs, rfl, h1, rfl, d1, hv, ok, _, rfl, ?_⟩
      have qz : Q (.bl (m1.holds y kvs && m2.holds y kvs)) H := qq
      cases e : m1.holds y kvs with
      | false =>
        rw [e] at qz
        exact iteF qz
      | true =>
        rw [e] at qz
        refine iteT ⟨_, rfl, a, _, dx, _, _, rfl, ha, cl, n2, rfl, q, _, dq, fq, spHolds c m2.tag d, rfl, hq, HA m2, lq, _, rfl, _, rfl, q, v, y, m2, zs, kvs, rfl, h2, rfl, d2, hv, ok, ?_⟩
        exact qz
    | _ => cases ht
theorem ok_eiholds {k d : Nat} (HA : HoldsAll P w K mg base c k d) (F : Fun K "holds" "Either.holds" (sEi 4) f fd) (cl : Cls K c.ei) (n1 : NoAttr K c.ei "first") (n2 : NoAttr K c.ei "second") : FnOk P w K mg base CX0 (k + 1) f fd ["self", "key", "value"] (spHolds c 4 (d + 1)) := by
  refine F.ok sc_ei4 (fun vs H Q E h => ?_) (fun cdv A outer s H vs Q E hr h => ?_)
  · obtain ⟨a, v, y, m, zs, kvs, rfl, _⟩ := h
    rfl
  · obtain ⟨a, v, y, m, zs, kvs, rfl, hc, ht, hd, hv, ok, qq⟩ := h
    refine ⟨_, pss_one (ps_ret (pe_or (pe_methV (k := k) (pe_fld (pv 0) rfl) hr pass0 (pa_cons (pv 1) (pa_cons (pv 2) pa_nil))) (pe_one (pe_methV (k := k) (pe_fld (pv 0) rfl) hr pass0 (pa_cons (pv 1) (pa_cons (pv 2) pa_nil)))))), ?_⟩
    cases m with
    | eith m1 m2 =>
      obtain ⟨p, q, dx, ha, h1, h2⟩ := hc
      obtain ⟨dp, fp, hp, _, _, _, lp, _⟩ := h1.get
      obtain ⟨dq, fq, hq, _, _, _, lq, _⟩ := h2.get
      have d1 : m1.depth ≤ d := by
        have : max m1.depth m2.depth + 1 ≤ d + 1 := hd
        omega
      have d2 : m2.depth ≤ d := by
        have : max m1.depth m2.depth + 1 ≤ d + 1 := hd
        omega
      refine ⟨_, rfl, a, _, dx, _, _, rfl, ha, cl, n1, rfl, p, _, dp, fp, spHolds c m1.tag d, rfl, hp, HA m1, lp, _, rfl, _, rfl, p, v, y, m1, zs, kvs, rfl, h1, rfl, d1, hv, ok, _, rfl, ?_⟩
      have qz : Q (.bl (m1.holds y kvs || m2.holds y kvs)) H := qq
      cases e : m1.holds y kvs with
      | true =>
        rw [e] at qz
        exact iteT qz
      | false =>
        rw [e] at qz
        refine iteF ⟨_, rfl, a, _, dx, _, _, rfl, ha, cl, n2, rfl, q, _, dq, fq, spHolds c m2.tag d, rfl, hq, HA m2, lq, _, rfl, _, rfl, q, v, y, m2, zs, kvs, rfl, h2, rfl, d2, hv, ok, ?_⟩
        exact qz
    | _ => cases ht
theorem ok_ntholds {k d : Nat} (HA : HoldsAll P w K mg base c k d) (F : Fun K "holds" "Not.holds" (sNt 3) f fd) (cl : Cls K c.nt) (n1 : NoAttr K c.nt "inner") : FnOk P w K mg base CX0 (k + 1) f fd ["self", "key", "value"] (spHolds c 2 (d + 1)) := by
  refine F.ok sc_nt3 (fun vs H Q E h => ?_) (fun cdv A outer s H vs Q E hr h => ?_)
  · obtain ⟨a, v, y, m, zs, kvs, rfl, _⟩ := h
    rfl
  · obtain ⟨a, v, y, m, zs, kvs, rfl, hc, ht, hd, hv, ok, qq⟩ := h
    refine ⟨_, pss_one (ps_ret (pe_not (pe_methV (k := k) (pe_fld (pv 0) rfl) hr pass0 (pa_cons (pv 1) (pa_cons (pv 2) pa_nil))))), ?_⟩
    cases m with
    | neg m1 =>
      obtain ⟨p, dx, ha, h1⟩ := hc
      obtain ⟨dp, fp, hp, _, _, _, lp, _⟩ := h1.get
      have d1 : m1.depth ≤ d := by
        have : m1.depth + 1 ≤ d + 1 := hd
        omega
      exact ⟨_, rfl, a, _, dx, _, _, rfl, ha, cl, n1, rfl, p, _, dp, fp, spHolds c m1.tag d, rfl, hp, HA m1, lp, _, rfl, _, rfl, p, v, y, m1, zs, kvs, rfl, h1, rfl, d1, hv, ok, _, rfl, qq⟩
    | _ => cases ht
end
end G
set_option Elab.async false
set_option linter.all false
set_option maxRecDepth 100000
set_option maxHeartbeats 4000000
/-! D1: a leaf of the law's models. -/
namespace G
open PySem PySem.Spec PyProof.Rows L2 NdefX StX
abbrev sLeaf : Stmt := topS 53
abbrev sListed : Stmt := topS 61
theorem scListed : FnScope ["_law_box_here", "_law_names_here", "_law_some"] ["_law_box_here", "_law_names_here"] (defScope sListed) := ⟨rfl, rfl, rfl, by decide +kernel, rfl, by decide +kernel, by decide +kernel⟩
theorem scLeaf : FnScope ["_law_box_here", "_law_fields", "_law_names_here", "_law_one", "_law_small", "_law_great", "_law_way"] ["_law_box_here", "_law_fields", "_law_names_here"] (defScope sLeaf) := ⟨rfl, rfl, rfl, by decide +kernel, rfl, by decide +kernel, by decide +kernel⟩
/-- a list of names -/
structure Nm (H : Hp) (a : Addr) (zs : List Str) : Prop where
  at_ : H a = some (.lst (zs.map V.str))
  pos : 1 ≤ zs.length
  few : zs.length ≤ 100
  nm : ∀ z ∈ zs, NameZ z
theorem Nm.ne {H : Hp} {a b : Addr} {n : Nat} {zs : List Str} (h : Nm H a zs) (B : BoxAt H b n) : a ≠ b := fun e => by
  obtain ⟨x, y, u, hb, _⟩ := B
  obtain ⟨h1, h2, _, _⟩ := h
  rw [e, hb] at h1
  match zs, h2 with
  | z :: r, _ => cases h1
theorem Nm.but {H H' : Hp} {a b : Addr} {n : Nat} {zs : List Str} (h : Nm H a zs) (B : BoxAt H b n) (k : But b H H') : Nm H' a zs := ⟨k _ _ (h.ne B) h.at_, h.pos, h.few, h.nm⟩
theorem Nm.same {H H' : Hp} {a : Addr} {zs : List Str} (h : Nm H a zs) (s : Same H H') : Nm H' a zs := ⟨s _ _ h.at_, h.pos, h.few, h.nm⟩
theorem BoxAt.same {H H' : Hp} {b : Addr} {n : Nat} (h : BoxAt H b n) (s : Same H H') : BoxAt H' b n := h.keep fun o e => s _ _ e
theorem pick {α : Type} {l : List α} {j : Nat} (h : j < l.length) : ∃ x, l[j]? = some x ∧ x ∈ l := ⟨l[j], List.getElem?_eq_getElem h, List.getElem_mem h⟩
theorem pick_map {α : Type} {f : α → V} {l : List α} {j : Nat} {x : α} (h : l[j]? = some x) : (l.map f)[j]? = some (f x) := by rw [List.getElem?_map, h] <;> rfl
def spListed : Sp := fun vs H Q _ => ∃ (b nl : Addr) (n : Nat) (ns : List Str), vs = [.ref b, .ref nl] ∧ BoxAt H b n ∧ n ≤ 90000 ∧ Nm H nl ns ∧
  ∀ (p : Addr) (zs : List Str) (H' : Hp), H' p = some (.tup (zs.map V.str)) → zs.length ≤ 2 → (∀ z ∈ zs, NameZ z) → BoxAt H' b (n + 3) → But b H H' → Q (.ref p) H'
section
variable {P : Program} {w : World} {K : PySem.W.Frag} {mg : Str → Option Value} {base : Heap}
theorem ok_listed {f fT : Addr} {fd fdT : FuncData} (F : Fun K "_law_listed" "_law_listed" sListed f fd) (T : Fun K "_law_take" "_law_take" sTake fT fdT) (bT : Binds K fdT ["_law_box_here", "_law_many"] []) (gT : mg "_law_take" = some (.ref fT))
    (ml : mg "len" = none) (mT : mg "tuple" = none) : FnOk P w K mg base CX0 2 f fd ["_law_box_here", "_law_names_here"] spListed := by
  have GT : FnOk P w K mg base CX0 1 fT fdT ["_law_box_here", "_law_many"] spTake := ok_take T
  refine F.ok scListed (fun vs H Q E h => ?_) (fun cdv A outer s H vs Q E hr h => ?_)
  · obtain ⟨b, nl, n, ns, rfl, _⟩ := h
    rfl
  · obtain ⟨b, nl, n, ns, rfl, B, hn, N, q⟩ := h
    refine ⟨_, pss_cons (ps_set (i := 2) scListed.nd rfl (.inl rfl) (pe_lst (pa_cons (pe_ix ix_list (pv 1) (pe_call GT hr rfl gT T.kp bT .nil pass0 (pa_cons (pv 0) (pa_cons (pe_callB call_len_seq (by rfl) ml PySem.boot_len (pa_cons (pv 1) pa_nil)) pa_nil))) (fun _ _ => rfl))
        (pa_cons (pe_ix ix_list (pv 1) (pe_call GT hr rfl gT T.kp bT .nil pass0 (pa_cons (pv 0) (pa_cons (pe_callB call_len_seq (by rfl) ml PySem.boot_len (pa_cons (pv 1) pa_nil)) pa_nil))) (fun _ _ => rfl)) pa_nil))))
      (pss_one (ps_ret (pe_callTy call_tuple_of (by rfl) mT (by decide +kernel) (pa_cons (pe_slice sl_list (pv 2) po_none (po_some (pe_ix ix_list (pe_lst (pa_cons pe_int (pa_cons pe_int (pa_cons pe_int (pa_cons pe_int pa_nil)))))
        (pe_call GT hr rfl gT T.kp bT .nil pass0 (pa_cons (pv 0) (pa_cons pe_int pa_nil))) (fun _ _ => rfl)))) pa_nil)))), ?_⟩
    have l1 : (0 : Int) < ((ns.map V.str).length : Nat) := by
      rw [List.length_map]
      have := N.pos
      omega
    have l2 : ((ns.map V.str).length : Int) < 2 ^ 200 := by
      rw [List.length_map]
      have := N.few
      omega
    refine ⟨_, rfl, _, rfl, _, rfl, nl, _, rfl, .inl (.of N.at_), b, _, n, rfl, B, by omega, l1, l2, fun r H1 r0 r1 B1 k1 => ?_⟩
    obtain ⟨j, rfl, hj⟩ := draw_at (n := ns.length) r0 r1 (by rw [List.length_map])
    obtain ⟨z, hz, hzm⟩ := pick hj
    have N1 := N.but B k1
    refine ⟨nl, _, _, .str z, rfl, rfl, .of N1.at_, atI_nat (pick_map hz), ?_⟩
    refine ⟨_, rfl, _, rfl, _, rfl, nl, _, rfl, .inl (.of N1.at_), b, _, n + 1, rfl, B1, by omega, l1, l2, fun r H2 r0 r1 B2 k2 => ?_⟩
    obtain ⟨j2, rfl, hj2⟩ := draw_at (n := ns.length) r0 r1 (by rw [List.length_map])
    obtain ⟨y, hy, hym⟩ := pick hj2
    have N2 := N1.but B1 k2
    refine ⟨nl, _, _, .str y, rfl, rfl, .of N2.at_, atI_nat (pick_map hy), (by show 2 ≤ sizeLine; decide), fun p hp => ?_⟩
    have k02 : But b H H2 := k1.trans k2
    refine ⟨_, rfl, (by show 4 ≤ sizeLine; exact small_size (by decide)), fun u hu => ⟨_, rfl, b, 4, n + 2, rfl, box_new (box_new B2 hp) hu, by omega, by decide, by decide, fun r H3 r0 r1 B3 k3 => ?_⟩⟩
    obtain ⟨i, rfl, hi⟩ := draw_at (n := 4) r0 r1 rfl
    have npu : p ≠ u := fun e => by
      rw [← e, upd_same] at hu
      cases hu
    have ep := k3 _ _ (box_ne B2 hp) ((upd_ne npu).trans (upd_same (H := H2) (a := p) (o := .lst [.str z, .str y])))
    have eu := k3 _ _ (box_ne (box_new B2 hp) hu) (upd_same (H := upd H2 p (.lst [.str z, .str y])) (a := u) (o := .lst [.int 0, .int 1, .int 1, .int 2]))
    obtain ⟨m, hm, m2⟩ : ∃ m : Nat, ([.int 0, .int 1, .int 1, .int 2] : List V)[i]? = some (.int (m : Nat)) ∧ m ≤ 2 := by
      match i, hi with
      | 0, _ => exact ⟨0, rfl, by decide⟩
      | 1, _ => exact ⟨1, rfl, by decide⟩
      | 2, _ => exact ⟨1, rfl, by decide⟩
      | 3, _ => exact ⟨2, rfl, by decide⟩
    refine ⟨u, _, _, .int (m : Nat), rfl, rfl, .of eu, atI_nat hm, _, rfl, p, _, rfl, .of ep, fun v hv => ?_⟩
    rw [cutV_first _ m (by show m ≤ 2; exact m2)]
    refine ⟨v, _, rfl, .inl ⟨.of upd_same, fun x hx => ?_⟩⟩
    have kk : But b H (upd (upd H3 v (.lst ([V.str z, V.str y].take m))) x (.tup ([V.str z, V.str y].take m))) := (((k02.trans (But.new hp)).trans (But.new hu)).trans k3).trans ((But.new hv).trans (But.new hx))
    refine q x ([z, y].take m) _ (by rw [upd_same, List.map_take]; rfl) (by rw [List.length_take]; omega) (fun a ha => ?_) (box_new (box_new B3 hv) hx) kk
    rcases List.mem_cons.mp (List.mem_of_mem_take ha) with rfl | ha
    · exact N.nm _ hzm
    · rw [List.mem_singleton.mp ha]
      exact N.nm _ hym
end
/-! ### a leaf -/
def spLeaf : Sp := fun vs H Q _ => ∃ (b fl nl : Addr) (n : Nat) (fs ns : List Str), vs = [.ref b, .ref fl, .ref nl] ∧ BoxAt H b n ∧ n ≤ 89000 ∧ Nm H fl fs ∧ Nm H nl ns ∧
  ∀ (t : Addr) (m : Md) (H' : Hp), MdAt H' t m → m.good → m.leaves = 1 → m.depth = 1 → m.names ≤ 2 → BoxAt H' b (n + 11) → But b H H' → Q (.ref t) H'
section
variable {P : Program} {w : World} {K : PySem.W.Frag} {mg : Str → Option Value} {base : Heap}
theorem ok_leaf {f fT fN fL : Addr} {fd fdT fdN fdL : FuncData} (F : Fun K "_law_leaf" "_law_leaf" sLeaf f fd) (T : Fun K "_law_take" "_law_take" sTake fT fdT) (bT : Binds K fdT ["_law_box_here", "_law_many"] []) (gT : mg "_law_take" = some (.ref fT))
    (Nm_ : Fun K "_law_number" "_law_number" sNumber fN fdN) (bN : Binds K fdN ["_law_box_here"] []) (gN : mg "_law_number" = some (.ref fN))
    (GL : FnOk P w K mg base CX0 2 fL fdL ["_law_box_here", "_law_names_here"] spListed) (gL : mg "_law_listed" = some (.ref fL)) (kL : PySem.W.keepIn K (.ref fL) = true) (bL : Binds K fdL ["_law_box_here", "_law_names_here"] [])
    (ml : mg "len" = none) (mmn : mg "min" = none) (mmx : mg "max" = none) : FnOk P w K mg base CX0 3 f fd ["_law_box_here", "_law_fields", "_law_names_here"] spLeaf := by
  have GT : FnOk P w K mg base CX0 1 fT fdT ["_law_box_here", "_law_many"] spTake := ok_take T
  have GN : FnOk P w K mg base CX0 2 fN fdN ["_law_box_here"] spNumber := ok_number Nm_ T bT gT
  refine F.ok scLeaf (fun vs H Q E h => ?_) (fun cdv A outer s H vs Q E hr h => ?_)
  · obtain ⟨b, fl, nl, n, fs, ns, rfl, _⟩ := h
    rfl
  · obtain ⟨b, fl, nl, n, fs, ns, rfl, B, hn, F1, N1, q⟩ := h
    have hr1 := hr.mono (show 1 ≤ 2 by decide)
    refine ⟨_, pss_cons (ps_par3 (i := 3) (j := 4) (l := 5) (by rfl) scLeaf.nd rfl rfl rfl (by decide) (by decide) (by decide) rfl rfl rfl
        (pa_cons (pe_ix ix_list (pv 1) (pe_call GT hr1 rfl gT T.kp bT .nil pass0 (pa_cons (pv 0) (pa_cons (pe_callB call_len_seq (by rfl) ml PySem.boot_len (pa_cons (pv 1) pa_nil)) pa_nil))) (fun _ _ => rfl))
        (pa_cons (pe_call GN hr rfl gN Nm_.kp bN .nil pass0 (pa_cons (pv 0) pa_nil)) (pa_cons (pe_call GN hr rfl gN Nm_.kp bN .nil pass0 (pa_cons (pv 0) pa_nil)) pa_nil))) (by rfl))
      (pss_cons (ps_set (i := 6) scLeaf.nd rfl (.inl rfl) (pe_call GT hr1 rfl gT T.kp bT .nil pass0 (pa_cons (pv 0) (pa_cons pe_int pa_nil))))
      (pss_cons (ps_if (pt_cmpR op_lt (pv 6) pe_int (nomark _)) (pss_one (ps_ret (pe_op op_catT (pe_tup (pa_cons pe_str pa_nil)) (pe_call GL hr rfl gL kL bL .nil pass0 (pa_cons (pv 0) (pa_cons (pv 2) pa_nil)))))) pss_nil)
      (pss_cons (ps_if (pt_cmpR op_eq (pv 6) pe_int (nomark _)) (pss_one (ps_ret (pe_tup (pa_cons pe_str (pa_cons (pv 3) (pa_cons (pe_un un_neg pe_int) (pa_cons pe_int pa_nil))))))) pss_nil)
      (pss_one (ps_ret (pe_tup (pa_cons pe_str (pa_cons (pv 3) (pa_cons (pe_callB (call_min2 rfl) (by rfl) mmn (by decide +kernel) (pa_cons (pv 4) (pa_cons (pv 5) pa_nil)))
        (pa_cons (pe_callB (call_max2 rfl) (by rfl) mmx (by decide +kernel) (pa_cons (pv 4) (pa_cons (pv 5) pa_nil))) pa_nil)))))))))), ?_⟩
    have l1 : (0 : Int) < ((fs.map V.str).length : Nat) := by
      rw [List.length_map]
      have := F1.pos
      omega
    have l2 : ((fs.map V.str).length : Int) < 2 ^ 200 := by
      rw [List.length_map]
      have := F1.few
      omega
    refine ⟨_, rfl, _, rfl, _, rfl, fl, _, rfl, .inl (.of F1.at_), b, _, n, rfl, B, by omega, l1, l2, fun r H1 r0 r1 B1 k1 => ?_⟩
    obtain ⟨j, rfl, hj⟩ := draw_at (n := fs.length) r0 r1 (by rw [List.length_map])
    obtain ⟨z, hz, hzm⟩ := pick hj
    have F2 := F1.but B k1
    refine ⟨fl, _, _, .str z, rfl, rfl, .of F2.at_, atI_nat (pick_map hz), ?_⟩
    refine ⟨_, rfl, b, n + 1, rfl, B1, by omega, fun s1 H2 s10 s11 B2 k2 => ⟨_, rfl, b, n + 4, rfl, B2, by omega, fun s2 H3 s20 s21 B3 k3 => ⟨_, _, _, rfl, ?_⟩⟩⟩
    refine ⟨_, rfl, b, 8, n + 7, rfl, B3, by omega, by decide, by decide, fun way H4 w0 w1 B4 k4 => ?_⟩
    have N4 := ((((N1.but B k1).but B1 k2).but B2 k3).but B3 k4)
    have k04 : But b H H4 := ((k1.trans k2).trans k3).trans k4
    have hz' := F1.nm _ hzm
    refine ⟨_, rfl, _, _, rfl, rfl, _, rfl, ite2 (fun _ => ?_) (fun _ => ?_)⟩
    · refine ⟨(by show 1 ≤ sizeLine; decide), fun p hp => ?_⟩
      refine ⟨_, rfl, _, rfl, b, nl, n + 8, ns, rfl, box_new B4 hp, by omega, N4.but B4 (But.new hp), fun u zs H5 eu l2' zn B5 k5 => ?_⟩
      have ep : H5 p = some (.tup [.str "named"]) := k5 _ _ (box_ne B4 hp) upd_same
      have k05 : But b H H5 := (k04.trans (But.new hp)).trans k5
      refine ⟨p, u, _, _, rfl, rfl, .of ep, .of eu, List.cons_ne_nil _ _, ?_, fun e => ?_, fun _ x hx => ?_⟩
      · rw [List.length_map]
        exact small_size (by show 1 + zs.length ≤ 7000; omega)
      · have ez : zs = [] := List.map_eq_nil_iff.mp e
        exact q p (.nam []) H5 ep (fun _ h => by cases h) rfl rfl (Nat.zero_le _) B5 k05
      · exact q x (.nam zs) _ upd_same zn rfl rfl l2' (box_new B5 hx) (k05.trans (But.new hx))
    · refine ⟨_, rfl, rfl, _, rfl, ite2 (fun _ => ?_) (fun _ => ?_)⟩
      · refine ⟨_, rfl, _, rfl, (by show 4 ≤ sizeLine; exact small_size (by decide)), fun p hp => ?_⟩
        exact q p (.btw z (-999) 999) _ upd_same ⟨hz', by decide, by decide, by decide⟩ rfl rfl (Nat.zero_le _) ((box_new B4 hp).mono (by omega)) (k04.trans (But.new hp))
      · refine ⟨_, rfl, _, rfl, _, rfl, _, _, rfl, _, rfl, _, rfl, _, _, rfl, (by show 4 ≤ sizeLine; exact small_size (by decide)), fun p hp => ?_⟩
        obtain ⟨lo, hi, el, eh, m1, m2, m3⟩ : ∃ lo hi : Int, (if s2 < s1 then s2 else s1) = lo ∧ (if s2 > s1 then s2 else s1) = hi ∧ -999 ≤ lo ∧ lo ≤ hi ∧ hi ≤ 999 := by
          refine ⟨_, _, rfl, rfl, ?_, ?_, ?_⟩ <;> split <;> (try split) <;> omega
        rw [el, eh]
        exact q p (.btw z lo hi) _ upd_same ⟨hz', m1, m2, m3⟩ rfl rfl (Nat.zero_le _) ((box_new B4 hp).mono (by omega)) (k04.trans (But.new hp))
end
end G
set_option Elab.async false
set_option linter.all false
set_option maxRecDepth 100000
set_option maxHeartbeats 4000000
/-! D2: the law's models, drawn; holds of all classes. -/
namespace G
open PySem PySem.Spec PyProof.Rows L2 NdefX StX
abbrev sModel : Stmt := topS 54
theorem scModel : FnScope ["_law_box_here", "_law_fields", "_law_names_here", "_law_deep", "_law_most", "_law_way", "_law_first", "_law_one"] ["_law_box_here", "_law_fields", "_law_names_here", "_law_deep", "_law_most"] (defScope sModel) := ⟨rfl, rfl, rfl, by decide +kernel, rfl, by decide +kernel, by decide +kernel⟩
/-- how many draws a model of this depth takes at most -/
def cost : Nat → Nat
  | 0 => 11
  | d + 1 => 2 * cost d + 2
theorem cost_mono : ∀ {a b : Nat}, a ≤ b → cost a ≤ cost b
  | a, 0, h => by
    obtain rfl : a = 0 := by omega
    exact Nat.le_refl _
  | a, b + 1, h => by
    rcases Nat.lt_or_ge b a with e | e
    · obtain rfl : a = b + 1 := by omega
      exact Nat.le_refl _
    · have := cost_mono e
      show cost a ≤ 2 * cost b + 2
      omega
theorem cost_pos (d : Nat) : 11 ≤ cost d := cost_mono (Nat.zero_le d)
def spModel (d : Nat) : Sp := fun vs H Q _ => ∃ (b fl nl : Addr) (n deep most : Nat) (fs ns : List Str), vs = [.ref b, .ref fl, .ref nl, .int (deep : Nat), .int (most : Nat)] ∧ BoxAt H b n ∧ n + cost deep + 1 ≤ 89000 ∧ Nm H fl fs ∧ Nm H nl ns ∧ 1 ≤ deep ∧ deep ≤ d ∧ 1 ≤ most ∧ most ≤ 6 ∧
  ∀ (t : Addr) (m : Md) (H' : Hp), MdAt H' t m → m.good → m.leaves ≤ most → m.depth ≤ deep → m.names ≤ 2 * m.leaves → BoxAt H' b (n + cost deep) → But b H H' → Q (.ref t) H'
theorem fn_none {P : Program} {w : World} {K : PySem.W.Frag} {mg : Str → Option Value} {base : Heap} {CX : CXT} {k : Nat} {f : Addr} {fd : FuncData} {ps : List Str} {sp : Sp} (h : ∀ vs H Q E, sp vs H Q E → False) : FnOk P w K mg base CX k f fd ps sp :=
  ⟨fun vs H Q E z => (h vs H Q E z).elim, fun _ _ _ _ _ _ _ _ _ _ _ _ _ z => (h _ _ _ _ z).elim⟩
section
variable {P : Program} {w : World} {K : PySem.W.Frag} {mg : Str → Option Value} {base : Heap}
theorem ok_model {f fT fL : Addr} {fd fdT fdL : FuncData} (F : Fun K "_law_model" "_law_model" sModel f fd) (bF : Binds K fd ["_law_box_here", "_law_fields", "_law_names_here", "_law_deep", "_law_most"] []) (gF : mg "_law_model" = some (.ref f))
    (T : Fun K "_law_take" "_law_take" sTake fT fdT) (bT : Binds K fdT ["_law_box_here", "_law_many"] []) (gT : mg "_law_take" = some (.ref fT))
    (GL : FnOk P w K mg base CX0 3 fL fdL ["_law_box_here", "_law_fields", "_law_names_here"] spLeaf) (gL : mg "_law_leaf" = some (.ref fL)) (kL : PySem.W.keepIn K (.ref fL) = true) (bL : Binds K fdL ["_law_box_here", "_law_fields", "_law_names_here"] []) :
    ∀ d, FnOk P w K mg base CX0 (d + 4) f fd ["_law_box_here", "_law_fields", "_law_names_here", "_law_deep", "_law_most"] (spModel d)
  | 0 => fn_none fun vs H Q E h => by
    obtain ⟨b, fl, nl, n, deep, most, fs, ns, _, _, _, _, _, h1, h2, _⟩ := h
    omega
  | d + 1 => by
    have GM := ok_model F bF gF T bT gT GL gL kL bL d
    have GT : FnOk P w K mg base CX0 1 fT fdT ["_law_box_here", "_law_many"] spTake := ok_take T
    refine F.ok scModel (fun vs H Q E h => ?_) (fun cdv A outer s H vs Q E hr h => ?_)
    · obtain ⟨b, fl, nl, n, deep, most, fs, ns, rfl, _⟩ := h
      rfl
    · obtain ⟨b, fl, nl, n, deep, most, fs, ns, rfl, B, hn, F1, N1, d1, dd, m1, m6, q⟩ := h
      have hr1 := hr.mono (show 1 ≤ d + 4 by omega)
      have hr3 := hr.mono (show 3 ≤ d + 4 by omega)
      refine ⟨_, pss_cons (ps_set (i := 5) scModel.nd rfl (.inl rfl) (pe_call GT hr1 rfl gT T.kp bT .nil pass0 (pa_cons (pv 0) (pa_cons pe_int pa_nil))))
        (pss_cons (ps_if (PW.pt (pw_and (pt_cmpR op_gt (pv 3) pe_int (nomark _)) (pw_and1 (pt_cmpR op_eq (pv 5) pe_int (nomark _)))))
          (pss_one (ps_ret (pe_tup (pa_cons pe_str (pa_cons (pe_call GM hr rfl gF F.kp bF .nil pass0 (pa_cons (pv 0) (pa_cons (pv 1) (pa_cons (pv 2) (pa_cons (pe_op op_sub (pv 3) pe_int) (pa_cons (pv 4) pa_nil)))))) pa_nil))))) pss_nil)
        (pss_cons (ps_if (PW.pt (pw_or (pt_cmpR op_eq (pv 3) pe_int (nomark _)) (pw_or (pt_cmpR op_eq (pv 4) pe_int (nomark _)) (pw_or1 (pt_cmpR op_lt (pv 5) pe_int (nomark _))))))
          (pss_one (ps_ret (pe_call GL hr3 rfl gL kL bL .nil pass0 (pa_cons (pv 0) (pa_cons (pv 1) (pa_cons (pv 2) pa_nil)))))) pss_nil)
        (pss_cons (ps_set (i := 6) scModel.nd rfl (.inl rfl) (pe_op op_add pe_int (pe_call GT hr1 rfl gT T.kp bT .nil pass0 (pa_cons (pv 0) (pa_cons (pe_op op_sub (pv 4) pe_int) pa_nil)))))
        (pss_cons (ps_set (i := 7) scModel.nd rfl (.inl rfl) (pe_call GM hr rfl gF F.kp bF .nil pass0 (pa_cons (pv 0) (pa_cons (pv 1) (pa_cons (pv 2) (pa_cons (pe_op op_sub (pv 3) pe_int) (pa_cons (pv 6) pa_nil)))))))
        (pss_one (ps_ret (pe_tup (pa_cons (pe_ix ix_list (pe_lst (pa_cons pe_str (pa_cons pe_str pa_nil))) (pe_op op_mod (pv 5) pe_int) (fun _ _ => rfl)) (pa_cons (pv 7)
          (pa_cons (pe_call GM hr rfl gF F.kp bF .nil pass0 (pa_cons (pv 0) (pa_cons (pv 1) (pa_cons (pv 2) (pa_cons (pe_op op_sub (pv 3) pe_int) (pa_cons (pe_op op_sub (pv 4) (pv 6)) pa_nil)))))) pa_nil)))))))))), ?_⟩
      refine ⟨_, rfl, b, 7, n, rfl, B, by omega, by decide, by decide, fun way H1 w0 w1 B1 k1 => ?_⟩
      have F2 := F1.but B k1
      have N2 := N1.but B k1
      have cp := cost_pos deep
      have leaf : spLeaf [.ref b, .ref fl, .ref nl] H1 Q E0 := ⟨b, fl, nl, n + 1, fs, ns, rfl, B1, by omega, F2, N2, fun t m H' hm hg hl hd hnm B' k' => q t m H' hm hg (by omega) (by omega) (by omega) (B'.mono (by
        obtain ⟨e, rfl⟩ : ∃ e, deep = e + 1 := ⟨deep - 1, by omega⟩
        have := cost_pos e
        show n + 1 + 11 ≤ n + (2 * cost e + 2)
        omega)) (k1.trans k')⟩
      have rest : ∀ (h1 : deep ≠ 1) (h2 : most ≠ 1), 2 ≤ deep ∧ 2 ≤ most := fun h1 h2 => ⟨by omega, by omega⟩
      refine ⟨_, rfl, _, _, rfl, rfl, _, rfl, ite2 (fun hd => ⟨_, rfl, rfl, _, rfl, ite2 (fun _ => ?neg) (fun _ => ?_)⟩) (fun _ => ?_)⟩
      case neg =>
        have hd2 : (1 : Int) < (deep : Int) := of_decide_eq_true hd
        obtain ⟨e, rfl⟩ : ∃ e, deep = e + 1 := ⟨deep - 1, by omega⟩
        have e1 : ((e + 1 : Nat) : Int) - 1 = ((e : Nat) : Int) := by omega
        have cc : cost (e + 1) = 2 * cost e + 2 := rfl
        refine ⟨_, rfl, _, rfl, _, rfl, _, rfl, _, _, rfl, rfl, _, rfl, b, fl, nl, n + 1, e, most, fs, ns, ?_, B1, by omega, F2, N2, by omega, by omega, m1, m6, fun t m H2 hm hg hl hdp hnm B2 k2 => ?_⟩
        · show [V.ref b, V.ref fl, V.ref nl, V.int (((e + 1 : Nat) : Int) - 1), V.int (most : Int)] = _
          rw [e1]
        · refine ⟨(by show 2 ≤ sizeLine; decide), fun p hp => ?_⟩
          have sn : Same H2 (upd H2 p (.tup [.str "not", .ref t])) := Same.new hp
          exact q p (.neg m) _ ⟨t, upd_same, hm.same sn⟩ hg hl (by show m.depth + 1 ≤ e + 1; omega) hnm ((box_new B2 hp).mono (by omega)) ((k1.trans k2).trans (But.new hp))
      all_goals
        refine ⟨_, rfl, rfl, _, rfl, ite2 (fun _ => ⟨_, rfl, _, rfl, _, rfl, leaf⟩) (fun h1 => ⟨_, rfl, rfl, _, rfl, ite2 (fun _ => ⟨_, rfl, _, rfl, _, rfl, leaf⟩) (fun h2 => ⟨_, rfl, _, _, rfl, rfl, _, rfl, ite2 (fun _ => ⟨_, rfl, _, rfl, _, rfl, leaf⟩) (fun _ => ?_)⟩)⟩)⟩
        obtain ⟨g1, g2⟩ := rest (fun e => h1 (decide_eq_true (by rw [e]; rfl))) (fun e => h2 (decide_eq_true (by rw [e]; rfl)))
        obtain ⟨e, rfl⟩ : ∃ e, deep = e + 1 := ⟨deep - 1, by omega⟩
        have cc : cost (e + 1) = 2 * cost e + 2 := rfl
        have e1 : ((e + 1 : Nat) : Int) - 1 = ((e : Nat) : Int) := by omega
        refine ⟨_, rfl, _, rfl, _, _, rfl, rfl, b, _, n + 1, rfl, B1, by omega, by omega, by omega, fun r H2 r0 r1 B2 k2 => ⟨_, _, rfl, rfl, ?_⟩⟩
        obtain ⟨j, rfl, hj⟩ := draw_at (n := most - 1) r0 r1 (by omega)
        have F3 := F2.but B1 k2
        have N3 := N2.but B1 k2
        refine ⟨_, rfl, _, rfl, _, rfl, _, rfl, _, _, rfl, rfl, _, rfl, b, fl, nl, n + 2, e, j + 1, fs, ns, ?_, B2, by omega, F3, N3, by omega, by omega, by omega, by omega, fun t1 ma H3 hma ga la da na B3 k3 => ?_⟩
        · show [V.ref b, V.ref fl, V.ref nl, V.int (((e + 1 : Nat) : Int) - 1), V.int (1 + (j : Int))] = _
          rw [e1, show (1 : Int) + (j : Int) = ((j + 1 : Nat) : Int) by omega]
        obtain ⟨i, ei, hi⟩ := draw_at (n := 2) (Int.emod_nonneg way (by decide : (2 : Int) ≠ 0)) (Int.emod_lt_of_pos way (by decide : (0 : Int) < 2)) rfl
        refine ⟨(by show 2 ≤ sizeLine; decide), fun p hp => ⟨_, rfl, _, _, rfl, rfl, (by show (0 : Int) < 2; decide), p, _, _, .str (if i = 0 then "both" else "either"), rfl, rfl, .of upd_same, ?_, ?_⟩⟩
        · rw [ei]
          match i, hi with
          | 0, _ => exact atI_nat rfl
          | 1, _ => exact atI_nat rfl
        have B3' := box_new (o := .lst [.str "both", .str "either"]) B3 hp
        have k13 := (k1.trans k2).trans k3
        refine ⟨_, rfl, _, rfl, _, rfl, _, rfl, _, rfl, _, _, rfl, rfl, _, rfl, _, rfl, _, _, rfl, rfl, b, fl, nl, n + 2 + cost e, e, most - (j + 1), fs, ns, ?_, B3', by omega, (F3.but B2 k3).same (Same.new hp), (N3.but B2 k3).same (Same.new hp), by omega, by omega, by omega, by omega, fun t2 mb H4 hmb gb lb db nb B4 k4 => ?_⟩
        · show [V.ref b, V.ref fl, V.ref nl, V.int (((e + 1 : Nat) : Int) - 1), V.int ((most : Int) - (1 + (j : Int)))] = _
          rw [e1, show (most : Int) - (1 + (j : Int)) = ((most - (j + 1) : Nat) : Int) by omega]
        refine ⟨(by show 3 ≤ sizeLine; decide), fun x hx => ?_⟩
        have hma4 := ((hma.same (Same.new hp)).sk (SK.of_but B3' k4)).same (Same.new (o := .tup [.str (if i = 0 then "both" else "either"), .ref t1, .ref t2]) hx)
        have hmb4 := hmb.same (Same.new (o := .tup [.str (if i = 0 then "both" else "either"), .ref t1, .ref t2]) hx)
        have kk := ((k13.trans (But.new (o := .lst [.str "both", .str "either"]) hp)).trans k4).trans (But.new (o := .tup [.str (if i = 0 then "both" else "either"), .ref t1, .ref t2]) hx)
        have BB := (box_new (o := .tup [.str (if i = 0 then "both" else "either"), .ref t1, .ref t2]) B4 hx).mono (show n + 2 + cost e + cost e ≤ n + cost (e + 1) by omega)
        rcases (show i = 0 ∨ i = 1 by omega) with h0 | h0
        · rw [h0]
          exact q x (.both ma mb) _ ⟨t1, t2, upd_same, (by rw [h0] at hma4; exact hma4), (by rw [h0] at hmb4; exact hmb4)⟩ ⟨ga, gb⟩ (by show ma.leaves + mb.leaves ≤ most; omega) (by show max ma.depth mb.depth + 1 ≤ e + 1; omega) (by show ma.names + mb.names ≤ 2 * (ma.leaves + mb.leaves); omega) (by rw [h0] at BB; exact BB) (by rw [h0] at kk; exact kk)
        · rw [h0]
          exact q x (.eith ma mb) _ ⟨t1, t2, upd_same, (by rw [h0] at hma4; exact hma4), (by rw [h0] at hmb4; exact hmb4)⟩ ⟨ga, gb⟩ (by show ma.leaves + mb.leaves ≤ most; omega) (by show max ma.depth mb.depth + 1 ≤ e + 1; omega) (by show ma.names + mb.names ≤ 2 * (ma.leaves + mb.leaves); omega) (by rw [h0] at BB; exact BB) (by rw [h0] at kk; exact kk)
end
end G
set_option Elab.async false
set_option linter.all false
set_option maxRecDepth 100000
set_option maxHeartbeats 4000000
/-! D3: the law's models built into conditions. -/
namespace G
open PySem PySem.Spec PyProof.Rows L2 NdefX StX
abbrev sBuilt : Stmt := topS 55
theorem scBuilt : FnScope ["_law_box_here", "_law_model_here", "_law_way", "_law_one", "_law_other"] ["_law_box_here", "_law_model_here"] (defScope sBuilt) := ⟨rfl, rfl, rfl, by decide +kernel, rfl, by decide +kernel, by decide +kernel⟩
theorem ifN {c : Bool} {A B : Prop} (e : c = false) (h : B) : if c = true then A else B := by
  rw [e]
  exact iteF h
theorem ifY {c : Bool} {A B : Prop} (e : c = true) (h : A) : if c = true then A else B := by
  rw [e]
  exact iteT h
theorem nm_bt : decide (V.str ("named" : Str) = V.str ("between" : Str)) = false := by decide +kernel
theorem nt_bt : decide (V.str ("not" : Str) = V.str ("between" : Str)) = false := by decide +kernel
theorem nt_nm : decide (V.str ("not" : Str) = V.str ("named" : Str)) = false := by decide +kernel
theorem bo_bt : decide (V.str ("both" : Str) = V.str ("between" : Str)) = false := by decide +kernel
theorem bo_nm : decide (V.str ("both" : Str) = V.str ("named" : Str)) = false := by decide +kernel
theorem bo_nt : decide (V.str ("both" : Str) = V.str ("not" : Str)) = false := by decide +kernel
theorem ei_bt : decide (V.str ("either" : Str) = V.str ("between" : Str)) = false := by decide +kernel
theorem ei_nm : decide (V.str ("either" : Str) = V.str ("named" : Str)) = false := by decide +kernel
theorem ei_nt : decide (V.str ("either" : Str) = V.str ("not" : Str)) = false := by decide +kernel
theorem ei_bo : decide (V.str ("either" : Str) = V.str ("both" : Str)) = false := by decide +kernel
theorem self_eq (z : Str) : decide (V.str z = V.str z) = true := decide_eq_true rfl
theorem cut_tail (x : V) (r : List V) : cutV (x :: r) (some 1) none = r := by
  unfold cutV
  rw [HT.sIx_none, show ((1 : Int)) = ((1 : Nat) : Int) from rfl, HT.sIx_nat]
  have h : min 1 (x :: r).length = 1 := by
    rw [List.length_cons]
    omega
  rw [h]
  show (r.take ((r.length + 1) - 1)) = r
  rw [Nat.add_sub_cancel, List.take_length]
theorem not_whole (x : V) (r : List V) : ¬ (HT.sIx (x :: r).length 0 (some 1) = 0 ∧ HT.sIx (x :: r).length (x :: r).length none = (x :: r).length) := fun h => by
  have h1 := h.1
  rw [show ((1 : Int)) = ((1 : Nat) : Int) from rfl, HT.sIx_nat, List.length_cons] at h1
  omega
/-- the five classes and what they do -/
structure Conds (P : Program) (w : World) (K : PySem.W.Frag) (mg : Str → Option Value) (base : Heap) (D : Addr) (c : Cs) : Prop where
  ok : CsOk K D c
  mbt : ∃ (fB cda cc Dk : Addr) (fdB : FuncData), Mk K c.bt fB ∧ FunX K "__init__" "Between.__init__" sBtwInit fB cda cc (.ref Dk) fdB ∧ BtwDef K Dk ∧ FnOk P w K mg base CX0 3 fB fdB psBtw (spBtw c.bt)
  gbt : mg "Between" = some (.ref c.bt)
  mbo : ∃ (fB : Addr) (fdB : FuncData), Mk K c.bo fB ∧ Binds K fdB ["self", "one", "other"] [] ∧ FnOk P w K mg base CX0 3 fB fdB ["self", "one", "other"] (spPair c c.bo)
  gbo : mg "Both" = some (.ref c.bo)
  mei : ∃ (fB : Addr) (fdB : FuncData), Mk K c.ei fB ∧ Binds K fdB ["self", "one", "other"] [] ∧ FnOk P w K mg base CX0 3 fB fdB ["self", "one", "other"] (spPair c c.ei)
  gei : mg "Either" = some (.ref c.ei)
  mnt : ∃ (fB : Addr) (fdB : FuncData), Mk K c.nt fB ∧ Binds K fdB ["self", "one"] [] ∧ FnOk P w K mg base CX0 2 fB fdB ["self", "one"] (spNeg c c.nt)
  gnt : mg "Not" = some (.ref c.nt)
  and_ : ∀ m n : Md, PolyO P w K mg base 5 (m.cls c) (n.cls c) .BitAnd (spAnd c)
  or_ : ∀ m n : Md, PolyO P w K mg base 5 (m.cls c) (n.cls c) .BitOr (spOr c)
  inv : ∀ m : Md, PolyU P w K mg base 4 (m.cls c) (spInv c)
theorem btw_made {c : Cs} {H1 : Hp} {Q : VK} {E : XK} {z : Str} {lo hi : Int} (hz : NameZ z) (m1 : -999 ≤ lo) (m2 : lo ≤ hi) (m3 : hi ≤ 999) (q : ∀ r H', CoAt c H' r (.btw z lo hi) → Same H1 H' → Q (.ref r) H') :
    ∀ x dx, H1 x = Option.none → H1 dx = Option.none → dx ≠ x → spBtw c.bt [.ref x, .str z, .int lo, .int hi] (upd (upd H1 dx (.own x)) x (.ins c.bt dx [])) (fun v H2 => v = .non ∧ Q (.ref x) H2) E := by
  intro x dx hx hdx _
  exact ⟨x, dx, z, lo, hi, rfl, upd_same, hz, m1, m2, m3, fun H' s' => ⟨rfl, q x _ ⟨dx, upd_same⟩ (put_same hx hdx s')⟩⟩
def spBuilt (c : Cs) (d : Nat) : Sp := fun vs H Q _ => ∃ (b t : Addr) (n : Nat) (m : Md), vs = [.ref b, .ref t] ∧ BoxAt H b n ∧ n + m.size ≤ 90000 ∧ MdAt H t m ∧ m.good ∧ m.leaves ≤ 6 ∧ m.depth ≤ 5 ∧ m.depth ≤ d ∧ m.names ≤ 8 ∧
  ∀ r H', CoAt c H' r m → BoxAt H' b (n + m.size) → But b H H' → Q (.ref r) H'
section
variable {P : Program} {w : World} {K : PySem.W.Frag} {mg : Str → Option Value} {base : Heap}
theorem ok_built {f fT fL D : Addr} {fd fdT fdL : FuncData} {c : Cs} (F : Fun K "_law_built" "_law_built" sBuilt f fd) (bF : Binds K fd ["_law_box_here", "_law_model_here"] []) (gF : mg "_law_built" = some (.ref f))
    (T : Fun K "_law_take" "_law_take" sTake fT fdT) (bT : Binds K fdT ["_law_box_here", "_law_many"] []) (gT : mg "_law_take" = some (.ref fT))
    (GL : FnOk P w K mg base CX0 5 fL fdL ["_law_some"] (spMkNam K c.nm)) (gL : mg "_law_named" = some (.ref fL)) (kL : PySem.W.keepIn K (.ref fL) = true) (bL : Binds K fdL ["_law_some"] []) (O : Conds P w K mg base D c) :
    ∀ d, FnOk P w K mg base CX0 (d + 6) f fd ["_law_box_here", "_law_model_here"] (spBuilt c d)
  | 0 => fn_none fun vs H Q E h => by
    obtain ⟨b, t, n, m, _, _, _, _, _, _, _, h0, _⟩ := h
    have := m.depth_pos
    omega
  | d + 1 => by
    have GR := ok_built F bF gF T bT gT GL gL kL bL O d
    have GT : FnOk P w K mg base CX0 1 fT fdT ["_law_box_here", "_law_many"] spTake := ok_take T
    obtain ⟨fB, cda, cc, Dk, fdB, MB, FB, dB, GB⟩ := O.mbt
    obtain ⟨t2, b2⟩ := btw_b2 FB dB
    have b4 := btw_b4 FB
    obtain ⟨fO, fdO, MO, bO, GO⟩ := O.mbo
    obtain ⟨fE, fdE, ME, bE, GE⟩ := O.mei
    obtain ⟨fN, fdN, MN, bN, GN⟩ := O.mnt
    refine F.ok scBuilt (fun vs H Q E h => ?_) (fun cdv A outer s H vs Q E hr h => ?_)
    · obtain ⟨b, t, n, m, rfl, _⟩ := h
      rfl
    · obtain ⟨b, t, n, m, rfl, B, hn, hm, hg, h6, h5, hd, h8, q⟩ := h
      have hr1 := hr.mono (show 1 ≤ d + 6 by omega)
      have hr5 := hr.mono (show 5 ≤ d + 6 by omega)
      have hr4 := hr.mono (show 4 ≤ d + 6 by omega)
      have hr4' := hr.mono (show 3 + 1 ≤ d + 6 by omega)
      have hr3' := hr.mono (show 2 + 1 ≤ d + 6 by omega)
      refine ⟨_, pss_cons (ps_set (i := 2) scBuilt.nd rfl (.inl rfl) (pe_call GT hr1 rfl gT T.kp bT .nil pass0 (pa_cons (pv 0) (pa_cons pe_int pa_nil))))
        (pss_cons (ps_if (pt_cmpR op_eq (pe_ix ix_tup (pv 1) pe_int (fun _ _ => rfl)) pe_str (nomark _))
          (pss_cons (ps_if (PW.pt (pw_and (pt_cmpR op_eq (pv 2) pe_int (nomark _)) (pw_and1 (pt_cmpR op_eq (pe_ix ix_tup (pv 1) pe_int (fun _ _ => rfl)) pe_int (nomark _)))))
            (pss_one (ps_ret (pe_makeK (n := 1) MB GB hr4' rfl O.gbt b2 pass0 (pa_cons (pe_ix ix_tup (pv 1) pe_int (fun _ _ => rfl)) pa_nil) (pk_cons (pe_ix ix_tup (pv 1) pe_int (fun _ _ => rfl)) pk_nil)))) pss_nil)
          (pss_one (ps_ret (pe_makeK (n := 1) MB GB hr4' rfl O.gbt b4 pass0 (pa_cons (pe_ix ix_tup (pv 1) pe_int (fun _ _ => rfl)) pa_nil) (pk_cons (pe_ix ix_tup (pv 1) pe_int (fun _ _ => rfl)) (pk_cons (pe_ix ix_tup (pv 1) pe_int (fun _ _ => rfl)) pk_nil)))))) pss_nil)
        (pss_cons (ps_if (pt_cmpR op_eq (pe_ix ix_tup (pv 1) pe_int (fun _ _ => rfl)) pe_str (nomark _)) (pss_one (ps_ret (pe_call GL hr5 rfl gL kL bL .nil pass0 (pa_cons (pe_slice sl_tup (pv 1) (po_some pe_int) po_none) pa_nil)))) pss_nil)
        (pss_cons (ps_set (i := 3) scBuilt.nd rfl (.inl rfl) (pe_call GR hr rfl gF F.kp bF .nil pass0 (pa_cons (pv 0) (pa_cons (pe_ix ix_tup (pv 1) pe_int (fun _ _ => rfl)) pa_nil))))
        (pss_cons (ps_if (pt_cmpR op_eq (pe_ix ix_tup (pv 1) pe_int (fun _ _ => rfl)) pe_str (nomark _))
          (pss_one (ps_ret (pe_ifExp (pt_cmpR op_eq (pv 2) pe_int (nomark _)) (pe_un (un_own (sp := spInv c) hr4 pass0) (pv 3)) (pe_make MN GN hr3' rfl O.gnt bN .nil pass0 (pa_cons (pv 3) pa_nil))))) pss_nil)
        (pss_cons (ps_set (i := 4) scBuilt.nd rfl (.inl rfl) (pe_call GR hr rfl gF F.kp bF .nil pass0 (pa_cons (pv 0) (pa_cons (pe_ix ix_tup (pv 1) pe_int (fun _ _ => rfl)) pa_nil))))
        (pss_cons (ps_if (pt_cmpR op_eq (pe_ix ix_tup (pv 1) pe_int (fun _ _ => rfl)) pe_str (nomark _))
          (pss_one (ps_ret (pe_ifExp (pt_cmpR op_eq (pv 2) pe_int (nomark _)) (pe_op (op_own (sp := spAnd c) .BitAnd hr5 pass0) (pv 3) (pv 4)) (pe_make MO GO hr4' rfl O.gbo bO .nil pass0 (pa_cons (pv 3) (pa_cons (pv 4) pa_nil)))))) pss_nil)
        (pss_one (ps_ret (pe_ifExp (pt_cmpR op_eq (pv 2) pe_int (nomark _)) (pe_op (op_own (sp := spOr c) .BitOr hr5 pass0) (pv 3) (pv 4)) (pe_make ME GE hr4' rfl O.gei bE .nil pass0 (pa_cons (pv 3) (pa_cons (pv 4) pa_nil)))))))))))), ?_⟩
      refine ⟨_, rfl, b, 2, n, rfl, B, by omega, by decide, by decide, fun way H1 w0 w1 B1 k1 => ?_⟩
      have hm1 := hm.sk (SK.of_but B k1)
      cases m with
      | btw z lo hi =>
        have e : H1 t = some (.tup [.str "between", .str z, .int lo, .int hi]) := hm1
        obtain ⟨hz, m1, m2, m3⟩ := hg
        have fin : ∀ r H', CoAt c H' r (.btw z lo hi) → Same H1 H' → Q (.ref r) H' := fun r H' h s => q r H' h (B1.same s) (k1.trans (But.same s))
        refine ⟨_, rfl, t, _, 0, _, rfl, rfl, .of e, rfl, rfl, _, rfl, ifY (self_eq _) ?_⟩
        refine ⟨_, rfl, rfl, _, rfl, ite2 (fun _ => ⟨_, rfl, t, _, 3, _, rfl, rfl, .of e, rfl, rfl, _, rfl, ite2 (fun e9 => ?_) (fun _ => ?_)⟩) (fun _ => ?_)⟩
        · have h9 : hi = 999 := by
            have := of_decide_eq_true e9
            injection this
          subst h9
          exact ⟨_, rfl, t, _, 1, _, rfl, rfl, .of e, rfl, _, rfl, t, _, 2, _, rfl, rfl, .of e, rfl, rfl, rfl, btw_made hz m1 m2 m3 fin⟩
        all_goals exact ⟨_, rfl, t, _, 1, _, rfl, rfl, .of e, rfl, _, rfl, t, _, 3, _, rfl, rfl, .of e, rfl, _, rfl, t, _, 2, _, rfl, rfl, .of e, rfl, rfl, rfl, btw_made hz m1 m2 m3 fin⟩
      | nam zs =>
        have e : H1 t = some (.tup (.str "named" :: zs.map V.str)) := hm1
        refine ⟨_, rfl, t, _, ((0 : Nat) : Int), .str "named", rfl, rfl, .of e, atI_nat (j := 0) rfl, rfl, _, rfl, ifN nm_bt ?_⟩
        refine ⟨_, rfl, t, _, ((0 : Nat) : Int), .str "named", rfl, rfl, .of e, atI_nat (j := 0) rfl, rfl, _, rfl, ifY (self_eq _) ?_⟩
        refine ⟨_, rfl, _, rfl, t, _, rfl, .of e, not_whole _ _, fun p hp => ?_⟩
        rw [cut_tail]
        refine ⟨p, zs, rfl, .inr (.of upd_same), h8, hg, fun a u H' na s' => ?_⟩
        have s2 := (Same.new (o := .tup (zs.map V.str)) hp).trans s'
        exact q a H' ⟨u, na⟩ (B1.same s2) (k1.trans (But.same s2))
      | neg m1 =>
        obtain ⟨u, e, hu⟩ : ∃ u, H1 t = some (.tup [.str "not", .ref u]) ∧ MdAt H1 u m1 := hm1
        refine ⟨_, rfl, t, _, 0, _, rfl, rfl, .of e, rfl, rfl, _, rfl, ifN nt_bt ?_⟩
        refine ⟨_, rfl, t, _, 0, _, rfl, rfl, .of e, rfl, rfl, _, rfl, ifN nt_nm ?_⟩
        have hs : n + (m1.size + 1) ≤ 90000 := hn
        have hd5 : m1.depth + 1 ≤ 5 := h5
        have hdd : m1.depth + 1 ≤ d + 1 := hd
        refine ⟨_, rfl, _, rfl, t, _, 1, _, rfl, rfl, .of e, rfl, b, u, n + 1, m1, rfl, B1, by omega, hu, hg, h6, by omega, by omega, h8, fun r1 H2 c1 B2 k2 => ?_⟩
        have e2 : H2 t = some (.tup [.str "not", .ref u]) := SK.of_but B1 k2 _ _ e rfl
        have fin : ∀ r H', CoAt c H' r (.neg m1) → Same H2 H' → Q (.ref r) H' := fun r H' h s => q r H' h ((B2.same s).mono (by show n + 1 + m1.size ≤ n + (m1.size + 1); omega)) ((k1.trans k2).trans (But.same s))
        refine ⟨_, rfl, t, _, 0, _, rfl, rfl, .of e2, rfl, rfl, _, rfl, ifY (self_eq _) ?_⟩
        obtain ⟨dx, fs, ha, _⟩ := c1.get
        refine ⟨_, rfl, rfl, _, rfl, ite2 (fun _ => ⟨_, rfl, r1, _, dx, fs, rfl, ha, O.inv m1, r1, m1, rfl, c1, h6, hd5, h8, fin⟩) (fun _ => ⟨_, rfl, nt_made c1 h6 hd5 h8 fin⟩)⟩
      | both m1 m2 =>
        obtain ⟨u, v, e, hu, hv⟩ : ∃ u v, H1 t = some (.tup [.str "both", .ref u, .ref v]) ∧ MdAt H1 u m1 ∧ MdAt H1 v m2 := hm1
        refine ⟨_, rfl, t, _, 0, _, rfl, rfl, .of e, rfl, rfl, _, rfl, ifN bo_bt ?_⟩
        refine ⟨_, rfl, t, _, 0, _, rfl, rfl, .of e, rfl, rfl, _, rfl, ifN bo_nm ?_⟩
        have hs : n + (m1.size + m2.size + 1) ≤ 90000 := hn
        have hd5 : max m1.depth m2.depth + 1 ≤ 5 := h5
        have hdd : max m1.depth m2.depth + 1 ≤ d + 1 := hd
        have hl : m1.leaves + m2.leaves ≤ 6 := h6
        have hk : m1.names + m2.names ≤ 8 := h8
        refine ⟨_, rfl, _, rfl, t, _, 1, _, rfl, rfl, .of e, rfl, b, u, n + 1, m1, rfl, B1, by omega, hu, hg.1, by omega, by omega, by omega, by omega, fun r1 H2 c1 B2 k2 => ?_⟩
        have e2 : H2 t = some (.tup [.str "both", .ref u, .ref v]) := SK.of_but B1 k2 _ _ e rfl
        have hv2 := hv.sk (SK.of_but B1 k2)
        refine ⟨_, rfl, t, _, 0, _, rfl, rfl, .of e2, rfl, rfl, _, rfl, ifN bo_nt ?_⟩
        refine ⟨_, rfl, _, rfl, t, _, 2, _, rfl, rfl, .of e2, rfl, b, v, n + 1 + m1.size, m2, rfl, B2, by omega, hv2, hg.2, by omega, by omega, by omega, by omega, fun r2 H3 c2 B3 k3 => ?_⟩
        have e3 : H3 t = some (.tup [.str "both", .ref u, .ref v]) := SK.of_but B2 k3 _ _ e2 rfl
        have c1' := c1.sk (SK.of_but B2 k3)
        have fin : ∀ r H', CoAt c H' r (.both m1 m2) → Same H3 H' → Q (.ref r) H' := fun r H' h s => q r H' h ((B3.same s).mono (by show n + 1 + m1.size + m2.size ≤ n + (m1.size + m2.size + 1); omega)) (((k1.trans k2).trans k3).trans (But.same s))
        obtain ⟨dx, fs, ha, _⟩ := c1'.get
        obtain ⟨dy, gs, hb, _⟩ := c2.get
        refine ⟨_, rfl, t, _, 0, _, rfl, rfl, .of e3, rfl, rfl, _, rfl, ifY (self_eq _) ?_⟩
        refine ⟨_, rfl, rfl, _, rfl, ite2 (fun _ => ⟨_, rfl, _, rfl, r1, r2, _, _, dx, dy, fs, gs, rfl, rfl, ha, hb, O.and_ m1 m2, r1, r2, m1, m2, rfl, c1', c2, ⟨hl, hd5, hk⟩, fun r H' h s => ⟨⟨r, rfl⟩, fin r H' h s⟩⟩)
          (fun _ => ⟨_, rfl, _, rfl, bo_made c1' c2 ⟨hl, hd5, hk⟩ fin⟩)⟩
      | eith m1 m2 =>
        obtain ⟨u, v, e, hu, hv⟩ : ∃ u v, H1 t = some (.tup [.str "either", .ref u, .ref v]) ∧ MdAt H1 u m1 ∧ MdAt H1 v m2 := hm1
        refine ⟨_, rfl, t, _, 0, _, rfl, rfl, .of e, rfl, rfl, _, rfl, ifN ei_bt ?_⟩
        refine ⟨_, rfl, t, _, 0, _, rfl, rfl, .of e, rfl, rfl, _, rfl, ifN ei_nm ?_⟩
        have hs : n + (m1.size + m2.size + 1) ≤ 90000 := hn
        have hd5 : max m1.depth m2.depth + 1 ≤ 5 := h5
        have hdd : max m1.depth m2.depth + 1 ≤ d + 1 := hd
        have hl : m1.leaves + m2.leaves ≤ 6 := h6
        have hk : m1.names + m2.names ≤ 8 := h8
        refine ⟨_, rfl, _, rfl, t, _, 1, _, rfl, rfl, .of e, rfl, b, u, n + 1, m1, rfl, B1, by omega, hu, hg.1, by omega, by omega, by omega, by omega, fun r1 H2 c1 B2 k2 => ?_⟩
        have e2 : H2 t = some (.tup [.str "either", .ref u, .ref v]) := SK.of_but B1 k2 _ _ e rfl
        have hv2 := hv.sk (SK.of_but B1 k2)
        refine ⟨_, rfl, t, _, 0, _, rfl, rfl, .of e2, rfl, rfl, _, rfl, ifN ei_nt ?_⟩
        refine ⟨_, rfl, _, rfl, t, _, 2, _, rfl, rfl, .of e2, rfl, b, v, n + 1 + m1.size, m2, rfl, B2, by omega, hv2, hg.2, by omega, by omega, by omega, by omega, fun r2 H3 c2 B3 k3 => ?_⟩
        have e3 : H3 t = some (.tup [.str "either", .ref u, .ref v]) := SK.of_but B2 k3 _ _ e2 rfl
        have c1' := c1.sk (SK.of_but B2 k3)
        have fin : ∀ r H', CoAt c H' r (.eith m1 m2) → Same H3 H' → Q (.ref r) H' := fun r H' h s => q r H' h ((B3.same s).mono (by show n + 1 + m1.size + m2.size ≤ n + (m1.size + m2.size + 1); omega)) (((k1.trans k2).trans k3).trans (But.same s))
        obtain ⟨dx, fs, ha, _⟩ := c1'.get
        obtain ⟨dy, gs, hb, _⟩ := c2.get
        refine ⟨_, rfl, t, _, 0, _, rfl, rfl, .of e3, rfl, rfl, _, rfl, ifN ei_bo ?_⟩
        refine ⟨_, rfl, rfl, _, rfl, ite2 (fun _ => ⟨_, rfl, _, rfl, r1, r2, _, _, dx, dy, fs, gs, rfl, rfl, ha, hb, O.or_ m1 m2, r1, r2, m1, m2, rfl, c1', c2, ⟨hl, hd5, hk⟩, fun r H' h s => ⟨⟨r, rfl⟩, fin r H' h s⟩⟩)
          (fun _ => ⟨_, rfl, _, rfl, ei_made c1' c2 ⟨hl, hd5, hk⟩ fin⟩)⟩
end
end G
set_option Elab.async false
set_option linter.all false
set_option maxRecDepth 100000
set_option maxHeartbeats 4000000
/-! D4: the law's own looks at a model: leaves, depth, holds. -/
namespace G
open PySem PySem.Spec PyProof.Rows L2 NdefX StX
abbrev sLHolds : Stmt := topS 56
abbrev sLLeaves : Stmt := topS 57
abbrev sLDepth : Stmt := topS 58
theorem scLHolds : FnScope ["_law_model_here", "_law_key", "_law_value_here", "_law_both", "_law_part"] ["_law_model_here", "_law_key", "_law_value_here"] (defScope sLHolds) := ⟨rfl, rfl, rfl, by decide +kernel, rfl, by decide +kernel, by decide +kernel⟩
theorem scLLeaves : FnScope ["_law_model_here", "_law_found", "_law_part"] ["_law_model_here"] (defScope sLLeaves) := ⟨rfl, rfl, rfl, by decide +kernel, rfl, by decide +kernel, by decide +kernel⟩
theorem scLDepth : FnScope ["_law_model_here", "_law_part"] ["_law_model_here"] (defScope sLDepth) := ⟨rfl, rfl, rfl, by decide +kernel, rfl, by decide +kernel, by decide +kernel⟩
namespace Md
def parts : Md → List Md
  | .neg m => [m]
  | .both a b => [a, b]
  | .eith a b => [a, b]
  | _ => []
def isLeaf : Md → Bool
  | .btw _ _ _ => true
  | .nam _ => true
  | _ => false
def leafs : Md → List Md
  | .btw z lo hi => [.btw z lo hi]
  | .nam zs => [.nam zs]
  | .neg m => m.leafs
  | .both a b => a.leafs ++ b.leafs
  | .eith a b => a.leafs ++ b.leafs
theorem leafs_len : ∀ m : Md, m.leafs.length = m.leaves
  | .btw _ _ _ => rfl
  | .nam _ => rfl
  | .neg m => leafs_len m
  | .both a b => by
    show (a.leafs ++ b.leafs).length = a.leaves + b.leaves
    rw [List.length_append, leafs_len a, leafs_len b]
  | .eith a b => by
    show (a.leafs ++ b.leafs).length = a.leaves + b.leaves
    rw [List.length_append, leafs_len a, leafs_len b]
theorem leafs_parts : ∀ {m : Md}, m.isLeaf = false → m.leafs = m.parts.flatMap leafs
  | .neg m, _ => by simp [leafs, parts]
  | .both a b, _ => by simp [leafs, parts]
  | .eith a b, _ => by simp [leafs, parts]
theorem part_less : ∀ {m p : Md}, p ∈ m.parts → p.depth < m.depth ∧ p.leaves ≤ m.leaves
  | .neg m, p, h => by
    obtain rfl := List.mem_singleton.mp h
    exact ⟨Nat.lt_succ_self _, Nat.le_refl _⟩
  | .both a b, p, h => by
    rcases List.mem_cons.mp h with rfl | h
    · exact ⟨Nat.lt_succ_of_le (Nat.le_max_left _ _), Nat.le_add_right _ _⟩
    · obtain rfl := List.mem_singleton.mp h
      exact ⟨Nat.lt_succ_of_le (Nat.le_max_right _ _), Nat.le_add_left _ _⟩
  | .eith a b, p, h => by
    rcases List.mem_cons.mp h with rfl | h
    · exact ⟨Nat.lt_succ_of_le (Nat.le_max_left _ _), Nat.le_add_right _ _⟩
    · obtain rfl := List.mem_singleton.mp h
      exact ⟨Nat.lt_succ_of_le (Nat.le_max_right _ _), Nat.le_add_left _ _⟩
theorem parts_two (m : Md) : m.parts.length ≤ 2 := by cases m <;> simp [parts]
end Md
def AllAt (H : Hp) : List Addr → List Md → Prop
  | [], [] => True
  | a :: as, m :: ms => MdAt H a m ∧ AllAt H as ms
  | _, _ => False
theorem AllAt.sk {H H' : Hp} (s : SK H H') : ∀ {as : List Addr} {ms : List Md}, AllAt H as ms → AllAt H' as ms
  | [], [], _ => trivial
  | _ :: _, _ :: _, h => ⟨h.1.sk s, AllAt.sk s h.2⟩
  | [], _ :: _, h => h.elim
  | _ :: _, [], h => h.elim
theorem AllAt.same {H H' : Hp} {as : List Addr} {ms : List Md} (h : AllAt H as ms) (s : Same H H') : AllAt H' as ms := h.sk (.of_same s)
theorem AllAt.len {H : Hp} : ∀ {as : List Addr} {ms : List Md}, AllAt H as ms → as.length = ms.length
  | [], [], _ => rfl
  | _ :: as, _ :: ms, h => by
    rw [List.length_cons, List.length_cons, AllAt.len h.2]
  | [], _ :: _, h => h.elim
  | _ :: _, [], h => h.elim
theorem AllAt.app {H : Hp} : ∀ {as bs : List Addr} {ms ns : List Md}, AllAt H as ms → AllAt H bs ns → AllAt H (as ++ bs) (ms ++ ns)
  | [], _, [], _, _, h => h
  | _ :: _, _, _ :: _, _, h, h2 => ⟨h.1, AllAt.app h.2 h2⟩
  | [], _, _ :: _, _, h, _ => h.elim
  | _ :: _, _, [], _, h, _ => h.elim
theorem AllAt.get {H : Hp} : ∀ {as : List Addr} {ms : List Md} {i : Nat} {a : Addr}, AllAt H as ms → as[i]? = some a → ∃ m, ms[i]? = some m ∧ MdAt H a m
  | a :: as, m :: ms, 0, _, h, e => by
    cases e
    exact ⟨m, rfl, h.1⟩
  | a :: as, m :: ms, i + 1, _, h, e => AllAt.get (as := as) (ms := ms) (i := i) h.2 e
  | [], [], _, _, _, e => by cases e
  | [], _ :: _, _, _, h, _ => h.elim
  | _ :: _, [], _, _, h, _ => h.elim
/-- a model that is no leaf, as its word and its parts -/
theorem MdAt.split {H : Hp} : ∀ {m : Md} {t : Addr}, MdAt H t m → m.isLeaf = false → ∃ (w : Str) (us : List Addr), H t = some (.tup (.str w :: us.map V.ref)) ∧ AllAt H us m.parts ∧
    decide (V.str w = V.str ("between" : Str)) = false ∧ decide (V.str w = V.str ("named" : Str)) = false ∧ inV (.str w) [.str "between", .str "named"] = false
  | .neg m, t, ⟨u, e, h⟩, _ => ⟨"not", [u], e, ⟨h, trivial⟩, nt_bt, nt_nm, by decide +kernel⟩
  | .both a b, t, ⟨u, v, e, h1, h2⟩, _ => ⟨"both", [u, v], e, ⟨h1, h2, trivial⟩, bo_bt, bo_nm, by decide +kernel⟩
  | .eith a b, t, ⟨u, v, e, h1, h2⟩, _ => ⟨"either", [u, v], e, ⟨h1, h2, trivial⟩, ei_bt, ei_nm, by decide +kernel⟩
  | .btw _ _ _, _, _, h => by cases h
  | .nam _, _, _, h => by cases h
theorem MdAt.leaf {H : Hp} : ∀ {m : Md} {t : Addr}, MdAt H t m → m.isLeaf = true → ∃ (w : Str) (r : List V), H t = some (.tup (.str w :: r)) ∧ inV (.str w) [.str "between", .str "named"] = true
  | .btw _ _ _, t, e, _ => ⟨"between", _, e, by decide +kernel⟩
  | .nam _, t, e, _ => ⟨"named", _, e, by decide +kernel⟩
  | .neg _, _, _, h => by cases h
  | .both _ _, _, _, h => by cases h
  | .eith _ _, _, _, h => by cases h
def spLLeaves (d : Nat) : Sp := fun vs H Q _ => ∃ (t : Addr) (m : Md), vs = [.ref t] ∧ MdAt H t m ∧ m.depth ≤ d ∧ m.leaves ≤ 6 ∧ ∀ (p : Addr) (as : List Addr) (H' : Hp), H p = none → H' p = some (.lst (as.map V.ref)) → AllAt H' as m.leafs → Same H H' → Q (.ref p) H'
def spLDepth (d : Nat) : Sp := fun vs H Q _ => ∃ (t : Addr) (m : Md), vs = [.ref t] ∧ MdAt H t m ∧ m.depth ≤ d ∧ ∀ H', Same H H' → Q (.int (m.depth : Nat)) H'
def spLHolds (d : Nat) : Sp := fun vs H Q _ => ∃ (t v : Addr) (y : Str) (m : Md) (zs : List Str) (kvs : List (Key × V)), vs = [.ref t, .str y, .ref v] ∧ MdAt H t m ∧ m.depth ≤ d ∧ H v = some (.dK kvs) ∧ ValN zs kvs ∧ ∀ H', Same H H' → Q (.bl (m.holds y kvs)) H'
section
variable {P : Program} {w : World} {K : PySem.W.Frag} {mg : Str → Option Value} {base : Heap}
theorem ok_lleaves {f : Addr} {fd : FuncData} (F : Fun K "_law_leaves" "_law_leaves" sLLeaves f fd) (bF : Binds K fd ["_law_model_here"] []) (gF : mg "_law_leaves" = some (.ref f)) : ∀ d, FnOk P w K mg base CX0 (d + 1) f fd ["_law_model_here"] (spLLeaves d)
  | 0 => fn_none fun vs H Q E h => by
    obtain ⟨t, m, _, _, h0, _⟩ := h
    have := m.depth_pos
    omega
  | d + 1 => by
    have GR := ok_lleaves F bF gF d
    refine F.ok scLLeaves (fun vs H Q E h => ?_) (fun cdv A outer s H vs Q E hr h => ?_)
    · obtain ⟨t, m, rfl, _⟩ := h
      rfl
    · obtain ⟨t, m, rfl, hm, hd, h6, q⟩ := h
      refine ⟨_, pss_cons (ps_if (pt_cmpR op_in_seq (pe_ix ix_tup (pv 0) pe_int (fun _ _ => rfl)) (pe_tup (pa_cons pe_str (pa_cons pe_str pa_nil))) (by rfl)) (pss_one (ps_ret (pe_lst (pa_cons (pv 0) pa_nil)))) pss_nil)
        (pss_cons (ps_set (i := 1) scLLeaves.nd rfl (.inl rfl) (pe_lst pa_nil))
        (pss_cons (ps_for PassesOwn.never rfl (pi_tup (pe_slice sl_tup (pv 0) (po_some pe_int) po_none)) (pg_name (i := 2) scLLeaves.nd rfl (.inl rfl))
          (pss_one (ps_expr (pe_bm PySem.F.plainAttrs_list PySem.F.slot_list_extend PySem.F.type_list_extend mt_extend (pv 1) (pa_cons (pe_call GR hr rfl gF F.kp bF .nil pass0 (pa_cons (pv 2) pa_nil)) pa_nil)))))
        (pss_one (ps_ret (pv 1))))), ?_⟩
      cases hl : m.isLeaf with
      | true =>
        obtain ⟨x, r, e, hin⟩ := hm.leaf hl
        refine ⟨_, rfl, t, _, ((0 : Nat) : Int), .str x, rfl, rfl, .of e, atI_nat (j := 0) rfl, (by show 2 ≤ sizeLine; decide), fun p hp => ⟨p, _, rfl, .inr (.of upd_same), rfl, rfl, _, rfl, ifY hin ?_⟩⟩
        refine ⟨_, rfl, (by show 1 ≤ sizeLine; decide), fun u hu => ?_⟩
        have s1 := Same.new (o := .tup [.str "between", .str "named"]) hp
        have s2 := s1.trans (Same.new (o := .lst [.ref t]) hu)
        have el : m.leafs = [m] := by
          cases m with
          | btw z lo hi => rfl
          | nam zs => rfl
          | _ => cases hl
        exact q u [t] _ (s1.free hu) upd_same (by rw [el]; exact ⟨hm.same s2, trivial⟩) s2
      | false =>
        obtain ⟨x, us, e, ha, _, _, hin⟩ := hm.split hl
        refine ⟨_, rfl, t, _, ((0 : Nat) : Int), .str x, rfl, rfl, .of e, atI_nat (j := 0) rfl, (by show 2 ≤ sizeLine; decide), fun p hp => ⟨p, _, rfl, .inr (.of upd_same), rfl, rfl, _, rfl, ifN hin ?_⟩⟩
        have s1 := Same.new (o := .tup [.str "between", .str "named"]) hp
        refine ⟨(by show 0 ≤ sizeLine; decide), fun l hl0 => ?_⟩
        have s2 := s1.trans (Same.new (o := .lst []) hl0)
        have fl : H l = none := s1.free hl0
        refine ⟨_, rfl, _, rfl, t, _, rfl, .of (s2 _ _ e), not_whole _ _, fun u hu => ?_⟩
        rw [cut_tail]
        have s3 := s2.trans (Same.new (o := .tup (us.map V.ref)) hu)
        have nul : u ≠ l := fun z => by
          rw [z, upd_same] at hu
          cases hu
        have lu : (upd (upd (upd H p (.tup [.str "between", .str "named"])) l (.lst [])) u (.tup (us.map V.ref))) l = some (.lst []) := (upd_ne nul.symm).trans upd_same
        have hlen : us.length = m.parts.length := ha.len
        refine ⟨u, rfl, ⟨_, .of upd_same⟩, ?_⟩
        have tot : (m.parts.flatMap Md.leafs).length ≤ 6 := by
          rw [← Md.leafs_parts hl, Md.leafs_len]
          exact h6
        refine for_tup (xs := us.map V.ref) (fun i σ H2 => Same H H2 ∧ H2 u = some (.tup (us.map V.ref)) ∧ (∃ as : List Addr, H2 l = some (.lst (as.map V.ref)) ∧ AllAt H2 as ((m.parts.take i).flatMap Md.leafs)) ∧ ∃ x2 : Option V, σ = [some (.ref t), some (.ref l), x2]) ?_ ?_ ?_ ?_
        · exact ⟨s3, upd_same, ⟨[], lu, trivial⟩, none, rfl⟩
        · rintro i σ H2 _ ⟨_, eu, _⟩
          exact .of eu
        · rintro i x σ H2 hx ⟨s4, eu, ⟨as, el, al⟩, x2, rfl⟩
          rw [List.getElem?_map] at hx
          obtain ⟨a, hai, rfl⟩ := Option.map_eq_some_iff.mp hx
          obtain ⟨m1, hmi, hm1⟩ := (ha.same s4).get hai
          obtain ⟨ld, ll⟩ := Md.part_less (List.mem_of_getElem? hmi)
          refine ⟨_, rfl, .inl ⟨rfl, _, .of el⟩, _, rfl, a, m1, rfl, hm1, by omega, by omega, fun p2 as2 H3 fp2 ep2 al2 s5 => ?_⟩
          have el3 := s5 _ _ el
          have step : (m.parts.take (i + 1)).flatMap Md.leafs = (m.parts.take i).flatMap Md.leafs ++ m1.leafs := by
            rw [List.take_add_one, hmi, List.flatMap_append]
            simp
          have few : (as ++ as2).length ≤ 6 := by
            have h1 := (al.same s5).app al2
            rw [← step] at h1
            rw [h1.len]
            have h2 : ((m.parts.take (i + 1)).flatMap Md.leafs).length ≤ (m.parts.flatMap Md.leafs).length := by
              have e2 : m.parts.flatMap Md.leafs = (m.parts.take (i + 1)).flatMap Md.leafs ++ (m.parts.drop (i + 1)).flatMap Md.leafs := by
                rw [← List.flatMap_append, List.take_append_drop]
              rw [e2, List.length_append]
              omega
            omega
          refine ⟨l, p2, _, _, rfl, rfl, el3, ep2, ?_, ?_⟩
          · rw [List.length_append] at few
            rw [List.length_map, List.length_map]
            exact small_size (by omega)
          · have sf : ∀ o, SK H3 (upd H3 l o) := fun o c v ec hv => by
              refine (upd_ne fun z => ?_).trans ec
              rw [z, el3] at ec
              rw [← Option.some.inj ec] at hv
              cases hv
            refine ⟨fun c o ec => ?_, ?_, ⟨as ++ as2, ?_, ?_⟩, _, rfl⟩
            · exact (upd_ne (ne_of_none ec fl)).trans (s5 _ _ (s4 _ _ ec))
            · exact (upd_ne nul).trans (s5 _ _ eu)
            · rw [upd_same, List.map_append]
            · rw [step]
              exact ((al.same s5).app al2).sk (sf _)
        · rintro σ H2 ⟨s4, eu, ⟨as, el, al⟩, x2, rfl⟩
          rw [List.length_map, hlen, List.take_length, ← Md.leafs_parts hl] at al
          exact ⟨_, rfl, q l as H2 fl el al s4⟩
end
end G
set_option Elab.async false
set_option linter.all false
set_option maxRecDepth 100000
set_option maxHeartbeats 4000000
/-! D5: the law's depth and holds. -/
namespace G
open PySem PySem.Spec PyProof.Rows L2 NdefX StX
theorem depth_parts {m : Md} {k : Int} (hl : m.isLeaf = false) (h1 : k ∈ m.parts.map fun p => ((p.depth : Nat) : Int)) (h2 : ∀ y, y ∈ (m.parts.map fun p => ((p.depth : Nat) : Int)) → y ≤ k) : 1 + k = ((m.depth : Nat) : Int) := by
  have two : ∀ a b : Md, k ∈ [((a.depth : Nat) : Int), ((b.depth : Nat) : Int)] → (∀ y, y ∈ [((a.depth : Nat) : Int), ((b.depth : Nat) : Int)] → y ≤ k) → 1 + k = ((max a.depth b.depth + 1 : Nat) : Int) := fun a b h1 h2 => by
    have ha := h2 _ List.mem_cons_self
    have hb := h2 _ (List.mem_cons_of_mem _ List.mem_cons_self)
    rcases List.mem_cons.mp h1 with rfl | h1
    · omega
    · have := List.mem_singleton.mp h1
      omega
  cases m with
  | neg a =>
    have e : k = ((a.depth : Nat) : Int) := List.mem_singleton.mp h1
    show 1 + k = ((a.depth + 1 : Nat) : Int)
    omega
  | both a b => exact two a b h1 h2
  | eith a b => exact two a b h1 h2
  | _ => cases hl
section
variable {P : Program} {w : World} {K : PySem.W.Frag} {mg : Str → Option Value} {base : Heap}
theorem ok_ldepth {f : Addr} {fd : FuncData} (F : Fun K "_law_depth" "_law_depth" sLDepth f fd) (bF : Binds K fd ["_law_model_here"] []) (gF : mg "_law_depth" = some (.ref f)) (mm : mg "max" = none) : ∀ d, FnOk P w K mg base CX0 (d + 1) f fd ["_law_model_here"] (spLDepth d)
  | 0 => fn_none fun vs H Q E h => by
    obtain ⟨t, m, _, _, h0, _⟩ := h
    have := m.depth_pos
    omega
  | d + 1 => by
    have GR := ok_ldepth F bF gF mm d
    refine F.ok scLDepth (fun vs H Q E h => ?_) (fun cdv A outer s H vs Q E hr h => ?_)
    · obtain ⟨t, m, rfl, _⟩ := h
      rfl
    · obtain ⟨t, m, rfl, hm, hd, q⟩ := h
      refine ⟨_, pss_cons (ps_if (pt_cmpR op_in_seq (pe_ix ix_tup (pv 0) pe_int (fun _ _ => rfl)) (pe_tup (pa_cons pe_str (pa_cons pe_str pa_nil))) (by rfl)) (pss_one (ps_ret pe_int)) pss_nil)
        (pss_one (ps_ret (pe_op op_add pe_int (pe_callB (cr_max rfl) (by rfl) mm (by decide +kernel) (pa_cons (pe_lc (own := [("_law_part", 1)]) (g := gName 1) (tt := tYes) (by rfl) scLDepth.nd (pi_tup (pe_slice sl_tup (pv 0) (po_some pe_int) po_none))
          (blkOk_by (own := [("_law_part", 1)]) (N := ["_law_model_here", "_law_part"]) (sc := defScope sLDepth) (by decide +kernel)) (fun _ _ _ _ _ => pg_name (i := 1) scLDepth.nd rfl (.inl rfl)) (fun _ _ _ _ _ => pts_nil)
          (fun _ _ _ _ _ => pe_call GR hr rfl gF F.kp bF .nil pass0 (pa_cons (pv 1) pa_nil))) pa_nil))))), ?_⟩
      cases hl : m.isLeaf with
      | true =>
        obtain ⟨x, r, e, hin⟩ := hm.leaf hl
        refine ⟨_, rfl, t, _, ((0 : Nat) : Int), .str x, rfl, rfl, .of e, atI_nat (j := 0) rfl, (by show 2 ≤ sizeLine; decide), fun p hp => ⟨p, _, rfl, .inr (.of upd_same), rfl, rfl, _, rfl, ifY hin ?_⟩⟩
        have el : m.depth = 1 := by
          cases m with
          | btw z lo hi => rfl
          | nam zs => rfl
          | _ => cases hl
        rw [el] at q
        exact q _ (Same.new hp)
      | false =>
        obtain ⟨x, us, e, ha, _, _, hin⟩ := hm.split hl
        refine ⟨_, rfl, t, _, ((0 : Nat) : Int), .str x, rfl, rfl, .of e, atI_nat (j := 0) rfl, (by show 2 ≤ sizeLine; decide), fun p hp => ⟨p, _, rfl, .inr (.of upd_same), rfl, rfl, _, rfl, ifN hin ?_⟩⟩
        have s1 := Same.new (o := .tup [.str "between", .str "named"]) hp
        refine ⟨_, rfl, _, rfl, t, _, rfl, .of (s1 _ _ e), not_whole _ _, fun u hu => ?_⟩
        rw [cut_tail]
        have s2 := s1.trans (Same.new (o := .tup (us.map V.ref)) hu)
        have eu0 : (upd (upd H p (.tup [.str "between", .str "named"])) u (.tup (us.map V.ref))) u = some (.tup (us.map V.ref)) := upd_same
        generalize upd (upd H p (.tup [.str "between", .str "named"])) u (.tup (us.map V.ref)) = H1 at s2 eu0 ⊢
        refine ⟨u, rfl, ⟨_, .of eu0⟩, fun D hD => ?_⟩
        have fD : H D = none := s2.free hD
        have nuD : u ≠ D := ne_of_none eu0 hD
        have hlen : us.length = m.parts.length := ha.len
        have two := m.parts_two
        refine lc_tup (xs := us.map V.ref) (fun i H2 => Same H H2 ∧ H2 u = some (.tup (us.map V.ref)) ∧ H2 D = some (.lst (((m.parts.take i).map fun p => ((p.depth : Nat) : Int)).map V.int))) ?_ ?_ ?_ ?_
        · exact ⟨s2.trans (Same.new hD), (upd_ne nuD).trans eu0, upd_same⟩
        · rintro i H2 _ ⟨_, eu, _⟩
          exact .of eu
        · rintro i x H2 hx ⟨s4, eu, eD⟩
          rw [List.getElem?_map] at hx
          obtain ⟨a, hai, rfl⟩ := Option.map_eq_some_iff.mp hx
          obtain ⟨m1, hmi, hm1⟩ := (ha.same s4).get hai
          obtain ⟨ld, _⟩ := Md.part_less (List.mem_of_getElem? hmi)
          refine ⟨rfl, ?_⟩
          unfold tYes
          dsimp only
          rw [if_pos rfl]
          refine ⟨_, rfl, a, m1, rfl, hm1, by omega, fun H3 s5 => ⟨_, s5 _ _ eD, ?_, ?_⟩⟩
          · rw [List.length_map, List.length_map, List.length_take]
            exact small1000 (by omega)
          · refine ⟨fun c o ec => (upd_ne (ne_of_none ec fD)).trans (s5 _ _ (s4 _ _ ec)), (upd_ne nuD).trans (s5 _ _ eu), ?_⟩
            rw [upd_same, List.take_add_one, hmi]
            simp
        · rintro H2 ⟨s4, eu, eD⟩
          rw [List.length_map, hlen, List.take_length] at eD
          refine ⟨D, _, rfl, .inl (.inl eD), ?_, fun k hk hle => ⟨_, _, rfl, rfl, ?_⟩⟩
          · cases m with
            | neg a => exact (by simp [Md.parts])
            | both a b => exact (by simp [Md.parts])
            | eith a b => exact (by simp [Md.parts])
            | _ => cases hl
          · have z := q H2 s4
            rw [← depth_parts hl hk hle] at z
            exact z
theorem ok_lholds {f : Addr} {fd : FuncData} (F : Fun K "_law_holds" "_law_holds" sLHolds f fd) (bF : Binds K fd ["_law_model_here", "_law_key", "_law_value_here"] []) (gF : mg "_law_holds" = some (.ref f)) :
    ∀ d, FnOk P w K mg base CX0 (d + 1) f fd ["_law_model_here", "_law_key", "_law_value_here"] (spLHolds d)
  | 0 => fn_none fun vs H Q E h => by
    obtain ⟨t, v, y, m, zs, kvs, _, _, h0, _⟩ := h
    have := m.depth_pos
    omega
  | d + 1 => by
    have GR := ok_lholds F bF gF d
    refine F.ok scLHolds (fun vs H Q E h => ?_) (fun cdv A outer s H vs Q E hr h => ?_)
    · obtain ⟨t, v, y, m, zs, kvs, rfl, _⟩ := h
      rfl
    · obtain ⟨t, v, y, m, zs, kvs, rfl, hm, hd, hv, ok, q⟩ := h
      have hu := hu_of hr
      refine ⟨_, pss_cons (ps_if (pt_cmpR op_eq (pe_ix ix_tup (pv 0) pe_int (fun _ _ => rfl)) pe_str (nomark _))
          (pss_one (ps_ret (pe_and (pe_cmp (pc_din hu (pe_ix ix_tup (pv 0) pe_int (fun _ _ => rfl)) (pv 2)) rfl) (pe_one (pe_chain op_le op_le (pe_ix ix_tup (pv 0) pe_int (fun _ _ => rfl)) (pe_dget hu (pv 2) (pe_ix ix_tup (pv 0) pe_int (fun _ _ => rfl)) (fun _ _ => rfl)) (pe_ix ix_tup (pv 0) pe_int (fun _ _ => rfl))))))) pss_nil)
        (pss_cons (ps_if (pt_cmpR op_eq (pe_ix ix_tup (pv 0) pe_int (fun _ _ => rfl)) pe_str (nomark _)) (pss_one (ps_ret (pe_cmpR op_in_seq (pv 1) (pe_slice sl_tup (pv 0) (po_some pe_int) po_none) (by rfl)))) pss_nil)
        (pss_cons (ps_if (pt_cmpR op_eq (pe_ix ix_tup (pv 0) pe_int (fun _ _ => rfl)) pe_str (nomark _))
          (pss_one (ps_ret (pe_not (pe_call GR hr rfl gF F.kp bF .nil pass0 (pa_cons (pe_ix ix_tup (pv 0) pe_int (fun _ _ => rfl)) (pa_cons (pv 1) (pa_cons (pv 2) pa_nil))))))) pss_nil)
        (pss_cons (ps_setLc (i := 3) (own := [("_law_part", 4)]) (g := gName 4) (tt := tYes) (by rfl) scLHolds.nd rfl rfl (sw_true rfl rfl rfl (by decide +kernel)) (pi_tup (pe_slice sl_tup (pv 0) (po_some pe_int) po_none))
          (blkOk_by (own := [("_law_part", 4)]) (N := ["_law_model_here", "_law_key", "_law_value_here", "_law_both", "_law_part"]) (sc := defScope sLHolds) (by decide +kernel)) (fun _ _ _ _ _ => pg_name (i := 4) scLHolds.nd rfl (.inl rfl)) (fun _ _ _ _ _ => pts_nil)
          (fun _ _ _ _ _ => pe_call GR hr rfl gF F.kp bF .nil pass0 (pa_cons (pv 4) (pa_cons (pv 1) (pa_cons (pv 2) pa_nil)))))
        (pss_one (ps_ret (pe_ifExp (pt_cmpR op_eq (pe_ix ix_tup (pv 0) pe_int (fun _ _ => rfl)) pe_str (nomark _)) (pe_cmpR (op_eqD hr.units) (pv 3) (pe_lst (pa_cons pe_bl (pa_cons pe_bl pa_nil))) (nomark _)) (pe_cmpR op_in_seq pe_bl (pv 3) (by rfl)))))))), ?_⟩
      cases m with
      | btw z lo hi =>
        have e : H t = some (.tup [.str "between", .str z, .int lo, .int hi]) := hm
        refine ⟨_, rfl, t, _, 0, _, rfl, rfl, .of e, rfl, rfl, _, rfl, ifY (self_eq _) ?_⟩
        refine ⟨_, rfl, t, _, 1, _, rfl, rfl, .of e, rfl, _, rfl, v, _, rfl, DGet.k (k := Sum.inr z) hv, _, rfl, ?_⟩
        have qq : Q (.bl (btwHolds z lo hi kvs)) H := q H (Same.refl H)
        clear q
        unfold btwHolds at qq
        rcases valV_int ok (Sum.inr z) with ev | ⟨n, ev⟩
        · rw [ev] at qq ⊢
          exact iteF qq
        · rw [ev] at qq ⊢
          replace qq : Q (.bl (decide (lo ≤ n) && decide (n ≤ hi))) H := qq
          refine iteT ?_
          refine ⟨_, rfl, t, _, 2, _, rfl, rfl, .of e, rfl, _, rfl, _, rfl, t, _, 1, _, rfl, rfl, .of e, rfl, v, _, rfl, by rw [← ev]; exact DGet.k (k := Sum.inr z) hv, _, _, rfl, rfl, _, rfl, ?_⟩
          cases e2 : decide (lo ≤ n) with
          | false =>
            rw [e2] at qq
            exact iteF qq
          | true =>
            rw [e2] at qq
            exact iteT ⟨_, rfl, t, _, 3, _, rfl, rfl, .of e, rfl, _, _, rfl, rfl, qq⟩
      | nam ns =>
        have e : H t = some (.tup (.str "named" :: ns.map V.str)) := hm
        refine ⟨_, rfl, t, _, ((0 : Nat) : Int), .str "named", rfl, rfl, .of e, atI_nat (j := 0) rfl, rfl, _, rfl, ifN nm_bt ?_⟩
        refine ⟨_, rfl, t, _, ((0 : Nat) : Int), .str "named", rfl, rfl, .of e, atI_nat (j := 0) rfl, rfl, _, rfl, ifY (self_eq _) ?_⟩
        refine ⟨_, rfl, _, rfl, _, rfl, t, _, rfl, .of e, not_whole _ _, fun u hu' => ?_⟩
        rw [cut_tail]
        refine ⟨u, _, rfl, .inr (.of upd_same), rfl, ?_, q _ (Same.new hu')⟩
        rw [List.all_eq_true]
        intro x hx
        obtain ⟨z, _, rfl⟩ := List.mem_map.mp hx
        rfl
      | neg m1 =>
        obtain ⟨u, e, h1⟩ : ∃ u, H t = some (.tup [.str "not", .ref u]) ∧ MdAt H u m1 := hm
        have hdd : m1.depth + 1 ≤ d + 1 := hd
        refine ⟨_, rfl, t, _, 0, _, rfl, rfl, .of e, rfl, rfl, _, rfl, ifN nt_bt ?_⟩
        refine ⟨_, rfl, t, _, 0, _, rfl, rfl, .of e, rfl, rfl, _, rfl, ifN nt_nm ?_⟩
        refine ⟨_, rfl, t, _, 0, _, rfl, rfl, .of e, rfl, rfl, _, rfl, ifY (self_eq _) ?_⟩
        exact ⟨_, rfl, t, _, 1, _, rfl, rfl, .of e, rfl, _, rfl, _, rfl, u, v, y, m1, zs, kvs, rfl, h1, by omega, hv, ok, fun H' s' => ⟨_, rfl, q H' s'⟩⟩
      | both m1 m2 =>
        obtain ⟨u1, u2, e, h1, h2⟩ : ∃ u v, H t = some (.tup [.str "both", .ref u, .ref v]) ∧ MdAt H u m1 ∧ MdAt H v m2 := hm
        have hdd : max m1.depth m2.depth + 1 ≤ d + 1 := hd
        refine ⟨_, rfl, t, _, 0, _, rfl, rfl, .of e, rfl, rfl, _, rfl, ifN bo_bt ?_⟩
        refine ⟨_, rfl, t, _, 0, _, rfl, rfl, .of e, rfl, rfl, _, rfl, ifN bo_nm ?_⟩
        refine ⟨_, rfl, t, _, 0, _, rfl, rfl, .of e, rfl, rfl, _, rfl, ifN bo_nt ?_⟩
        refine ⟨_, rfl, _, rfl, t, _, rfl, .of e, not_whole _ _, fun u hu' => ?_⟩
        rw [cut_tail]
        have s1 : Same H (upd H u (.tup [.ref u1, .ref u2])) := Same.new hu'
        have eu0 : (upd H u (.tup [.ref u1, .ref u2])) u = some (.tup [.ref u1, .ref u2]) := upd_same
        generalize upd H u (.tup [.ref u1, .ref u2]) = H1 at s1 eu0 ⊢
        refine ⟨u, rfl, ⟨_, .of eu0⟩, fun D hD => ?_⟩
        have fD : H D = none := s1.free hD
        have nuD : u ≠ D := ne_of_none eu0 hD
        refine lc_tup (xs := [.ref u1, .ref u2]) (fun i H2 => Same H H2 ∧ H2 u = some (.tup [.ref u1, .ref u2]) ∧ H2 D = some (.lst (([m1.holds y kvs, m2.holds y kvs].take i).map V.bl))) ?_ ?_ ?_ ?_
        · exact ⟨s1.trans (Same.new hD), (upd_ne nuD).trans eu0, upd_same⟩
        · rintro i H2 _ ⟨_, eu, _⟩
          exact .of eu
        · rintro i x H2 hx ⟨s4, eu, eD⟩
          obtain ⟨a, mi, hmi, rfl, dmi, ebi⟩ : ∃ (a : Addr) (mi : Md), MdAt H2 a mi ∧ x = .ref a ∧ mi.depth ≤ d ∧ ([m1.holds y kvs, m2.holds y kvs].take (i + 1)).map V.bl = ([m1.holds y kvs, m2.holds y kvs].take i).map V.bl ++ [.bl (mi.holds y kvs)] := by
            match i, hx with
            | 0, hx => exact ⟨u1, m1, h1.same s4, (Option.some.inj hx).symm, by omega, rfl⟩
            | 1, hx => exact ⟨u2, m2, h2.same s4, (Option.some.inj hx).symm, by omega, rfl⟩
          refine ⟨rfl, ?_⟩
          unfold tYes
          dsimp only
          rw [if_pos rfl]
          refine ⟨_, rfl, _, rfl, _, rfl, a, v, y, mi, zs, kvs, rfl, hmi, dmi, s4 _ _ hv, ok, fun H3 s5 => ⟨_, s5 _ _ eD, ?_, ?_⟩⟩
          · rw [List.length_map, List.length_take]
            exact small1000 (by show min i 2 ≤ 1000; omega)
          · exact ⟨fun c o ec => (upd_ne (ne_of_none ec fD)).trans (s5 _ _ (s4 _ _ ec)), (upd_ne nuD).trans (s5 _ _ eu), by rw [upd_same, ebi]⟩
        · rintro H2 ⟨s4, eu, eD⟩
          have eD2 : H2 D = some (.lst [.bl (m1.holds y kvs), .bl (m2.holds y kvs)]) := eD
          refine ⟨_, rfl, t, _, 0, _, rfl, rfl, .of (s4 _ _ e), rfl, rfl, _, rfl, ifY (self_eq _) ?_⟩
          refine ⟨_, rfl, (by show 2 ≤ sizeLine; decide), fun p2 hp2 => ?_⟩
          have eD3 := (upd_ne (o := .lst [.bl true, .bl true]) (ne_of_none eD2 hp2)).trans eD2
          refine ⟨.list [.bool (m1.holds y kvs), .bool (m2.holds y kvs)], .list [.bool true, .bool true], .lst (.of eD3) (.cons (.bl _) (.cons (.bl _) .nil)), .lst (.of upd_same) (.cons (.bl _) (.cons (.bl _) .nil)), ?_, rfl, ?_⟩
          · cases m1.holds y kvs <;> cases m2.holds y kvs <;> rfl
          · have z : Q (.bl (m1.holds y kvs && m2.holds y kvs)) (upd H2 p2 (.lst [.bl true, .bl true])) := q _ (s4.trans (Same.new hp2))
            have eq2 : PyData.eqv (.list [.bool (m1.holds y kvs), .bool (m2.holds y kvs)]) (.list [.bool true, .bool true]) = (m1.holds y kvs && m2.holds y kvs) := by
              cases m1.holds y kvs <;> cases m2.holds y kvs <;> rfl
            rw [eq2]
            exact z
      | eith m1 m2 =>
        obtain ⟨u1, u2, e, h1, h2⟩ : ∃ u v, H t = some (.tup [.str "either", .ref u, .ref v]) ∧ MdAt H u m1 ∧ MdAt H v m2 := hm
        have hdd : max m1.depth m2.depth + 1 ≤ d + 1 := hd
        refine ⟨_, rfl, t, _, 0, _, rfl, rfl, .of e, rfl, rfl, _, rfl, ifN ei_bt ?_⟩
        refine ⟨_, rfl, t, _, 0, _, rfl, rfl, .of e, rfl, rfl, _, rfl, ifN ei_nm ?_⟩
        refine ⟨_, rfl, t, _, 0, _, rfl, rfl, .of e, rfl, rfl, _, rfl, ifN ei_nt ?_⟩
        refine ⟨_, rfl, _, rfl, t, _, rfl, .of e, not_whole _ _, fun u hu' => ?_⟩
        rw [cut_tail]
        have s1 : Same H (upd H u (.tup [.ref u1, .ref u2])) := Same.new hu'
        have eu0 : (upd H u (.tup [.ref u1, .ref u2])) u = some (.tup [.ref u1, .ref u2]) := upd_same
        generalize upd H u (.tup [.ref u1, .ref u2]) = H1 at s1 eu0 ⊢
        refine ⟨u, rfl, ⟨_, .of eu0⟩, fun D hD => ?_⟩
        have fD : H D = none := s1.free hD
        have nuD : u ≠ D := ne_of_none eu0 hD
        refine lc_tup (xs := [.ref u1, .ref u2]) (fun i H2 => Same H H2 ∧ H2 u = some (.tup [.ref u1, .ref u2]) ∧ H2 D = some (.lst (([m1.holds y kvs, m2.holds y kvs].take i).map V.bl))) ?_ ?_ ?_ ?_
        · exact ⟨s1.trans (Same.new hD), (upd_ne nuD).trans eu0, upd_same⟩
        · rintro i H2 _ ⟨_, eu, _⟩
          exact .of eu
        · rintro i x H2 hx ⟨s4, eu, eD⟩
          obtain ⟨a, mi, hmi, rfl, dmi, ebi⟩ : ∃ (a : Addr) (mi : Md), MdAt H2 a mi ∧ x = .ref a ∧ mi.depth ≤ d ∧ ([m1.holds y kvs, m2.holds y kvs].take (i + 1)).map V.bl = ([m1.holds y kvs, m2.holds y kvs].take i).map V.bl ++ [.bl (mi.holds y kvs)] := by
            match i, hx with
            | 0, hx => exact ⟨u1, m1, h1.same s4, (Option.some.inj hx).symm, by omega, rfl⟩
            | 1, hx => exact ⟨u2, m2, h2.same s4, (Option.some.inj hx).symm, by omega, rfl⟩
          refine ⟨rfl, ?_⟩
          unfold tYes
          dsimp only
          rw [if_pos rfl]
          refine ⟨_, rfl, _, rfl, _, rfl, a, v, y, mi, zs, kvs, rfl, hmi, dmi, s4 _ _ hv, ok, fun H3 s5 => ⟨_, s5 _ _ eD, ?_, ?_⟩⟩
          · rw [List.length_map, List.length_take]
            exact small1000 (by show min i 2 ≤ 1000; omega)
          · exact ⟨fun c o ec => (upd_ne (ne_of_none ec fD)).trans (s5 _ _ (s4 _ _ ec)), (upd_ne nuD).trans (s5 _ _ eu), by rw [upd_same, ebi]⟩
        · rintro H2 ⟨s4, eu, eD⟩
          have eD2 : H2 D = some (.lst [.bl (m1.holds y kvs), .bl (m2.holds y kvs)]) := eD
          refine ⟨_, rfl, t, _, 0, _, rfl, rfl, .of (s4 _ _ e), rfl, rfl, _, rfl, ifN ei_bo ?_⟩
          refine ⟨_, rfl, D, _, rfl, .inl (.inl (.inl eD2)), rfl, rfl, ?_⟩
          have z : Q (.bl (m1.holds y kvs || m2.holds y kvs)) H2 := q _ s4
          have eq2 : inV (.bl true) [.bl (m1.holds y kvs), .bl (m2.holds y kvs)] = (m1.holds y kvs || m2.holds y kvs) := by
            cases m1.holds y kvs <;> cases m2.holds y kvs <;> decide
          show Q (.bl (inV (.bl true) [.bl (m1.holds y kvs), .bl (m2.holds y kvs)])) H2
          rw [eq2]
          exact z
end
end G
set_option Elab.async false
set_option linter.all false
set_option maxRecDepth 100000
set_option maxHeartbeats 4000000
/-! D6: one name for each leaf; a model within its names. -/
namespace G
open PySem PySem.Spec PyProof.Rows L2 NdefX StX
abbrev sCapped : Stmt := topS 62
abbrev sOneName : Stmt := topS 63
theorem scCapped : FnScope ["_law_model_here", "_law_leaf_here"] ["_law_model_here"] (defScope sCapped) := ⟨rfl, rfl, rfl, by decide +kernel, rfl, by decide +kernel, by decide +kernel⟩
theorem scOneName : FnScope ["_law_model_here", "_law_part"] ["_law_model_here"] (defScope sOneName) := ⟨rfl, rfl, rfl, by decide +kernel, rfl, by decide +kernel, by decide +kernel⟩
namespace Md
def one : Md → Md
  | .btw z lo hi => .btw z lo hi
  | .nam zs => .nam (zs.take 1)
  | .neg m => .neg m.one
  | .both a b => .both a.one b.one
  | .eith a b => .eith a.one b.one
theorem one_depth : ∀ m : Md, m.one.depth = m.depth
  | .btw _ _ _ => rfl
  | .nam _ => rfl
  | .neg m => by
    show m.one.depth + 1 = m.depth + 1
    rw [one_depth m]
  | .both a b => by
    show max a.one.depth b.one.depth + 1 = max a.depth b.depth + 1
    rw [one_depth a, one_depth b]
  | .eith a b => by
    show max a.one.depth b.one.depth + 1 = max a.depth b.depth + 1
    rw [one_depth a, one_depth b]
theorem one_leaves : ∀ m : Md, m.one.leaves = m.leaves
  | .btw _ _ _ => rfl
  | .nam _ => rfl
  | .neg m => one_leaves m
  | .both a b => by
    show a.one.leaves + b.one.leaves = a.leaves + b.leaves
    rw [one_leaves a, one_leaves b]
  | .eith a b => by
    show a.one.leaves + b.one.leaves = a.leaves + b.leaves
    rw [one_leaves a, one_leaves b]
theorem one_names : ∀ m : Md, m.one.names ≤ m.leaves
  | .btw _ _ _ => Nat.zero_le _
  | .nam zs => by
    show (zs.take 1).length ≤ 1
    rw [List.length_take]
    omega
  | .neg m => one_names m
  | .both a b => Nat.add_le_add (one_names a) (one_names b)
  | .eith a b => Nat.add_le_add (one_names a) (one_names b)
theorem one_good : ∀ {m : Md}, m.good → m.one.good
  | .btw _ _ _, h => h
  | .nam zs, h => fun z hz => h z (List.mem_of_mem_take hz)
  | .neg m, h => one_good (m := m) h
  | .both a b, h => ⟨one_good h.1, one_good h.2⟩
  | .eith a b, h => ⟨one_good h.1, one_good h.2⟩
def word : Md → Str
  | .btw _ _ _ => "between"
  | .nam _ => "named"
  | .neg _ => "not"
  | .both _ _ => "both"
  | .eith _ _ => "either"
def cnt : Md → Option Int
  | .nam zs => some (zs.length : Int)
  | _ => none
theorem cnt_sum : ∀ m : Md, (m.leafs.filterMap cnt).sum = (m.names : Int)
  | .btw _ _ _ => rfl
  | .nam zs => by
    show ((zs.length : Int) + 0) = (zs.length : Int)
    omega
  | .neg m => cnt_sum m
  | .both a b => by
    show ((a.leafs ++ b.leafs).filterMap cnt).sum = ((a.names + b.names : Nat) : Int)
    rw [List.filterMap_append, List.sum_append, cnt_sum a, cnt_sum b]
    omega
  | .eith a b => by
    show ((a.leafs ++ b.leafs).filterMap cnt).sum = ((a.names + b.names : Nat) : Int)
    rw [List.filterMap_append, List.sum_append, cnt_sum a, cnt_sum b]
    omega
theorem leafs_leaf : ∀ {m l : Md}, l ∈ m.leafs → l.isLeaf = true
  | .btw _ _ _, l, h => by
    rw [List.mem_singleton.mp h]
    rfl
  | .nam _, l, h => by
    rw [List.mem_singleton.mp h]
    rfl
  | .neg m, l, h => leafs_leaf (m := m) h
  | .both a b, l, h => (List.mem_append.mp h).elim (leafs_leaf (m := a)) (leafs_leaf (m := b))
  | .eith a b, l, h => (List.mem_append.mp h).elim (leafs_leaf (m := a)) (leafs_leaf (m := b))
theorem leafs_few : ∀ {m : Md}, m.good → ∀ l ∈ m.leafs, l.good
  | .btw _ _ _, h, l, hl => by
    rw [List.mem_singleton.mp hl]
    exact h
  | .nam _, h, l, hl => by
    rw [List.mem_singleton.mp hl]
    exact h
  | .neg m, h, l, hl => leafs_few (m := m) h l hl
  | .both a b, h, l, hl => (List.mem_append.mp hl).elim (leafs_few (m := a) h.1 l) (leafs_few (m := b) h.2 l)
  | .eith a b, h, l, hl => (List.mem_append.mp hl).elim (leafs_few (m := a) h.1 l) (leafs_few (m := b) h.2 l)
end Md
theorem nt_in : inV (.str ("not" : Str)) [.str "between", .str "named"] = false := by decide +kernel
theorem bo_in : inV (.str ("both" : Str)) [.str "between", .str "named"] = false := by decide +kernel
theorem ei_in : inV (.str ("either" : Str)) [.str "between", .str "named"] = false := by decide +kernel
theorem MdAt.splitW {H : Hp} : ∀ {m : Md} {t : Addr}, MdAt H t m → m.isLeaf = false → ∃ us : List Addr, H t = some (.tup (.str m.word :: us.map V.ref)) ∧ AllAt H us m.parts ∧ inV (.str m.word) [.str "between", .str "named"] = false
  | .neg m, t, ⟨u, e, h⟩, _ => ⟨[u], e, ⟨h, trivial⟩, nt_in⟩
  | .both a b, t, ⟨u, v, e, h1, h2⟩, _ => ⟨[u, v], e, ⟨h1, h2, trivial⟩, bo_in⟩
  | .eith a b, t, ⟨u, v, e, h1, h2⟩, _ => ⟨[u, v], e, ⟨h1, h2, trivial⟩, ei_in⟩
  | .btw _ _ _, _, _, h => by cases h
  | .nam _, _, _, h => by cases h
theorem one_at {H : Hp} : ∀ {m : Md} {z : Addr} {as : List Addr}, m.isLeaf = false → H z = some (.tup (.str m.word :: as.map V.ref)) → AllAt H as (m.parts.map Md.one) → MdAt H z m.one
  | .neg m, z, [a], _, e, h => ⟨a, e, h.1⟩
  | .both m n, z, [a, b], _, e, h => ⟨a, b, e, h.1, h.2.1⟩
  | .eith m n, z, [a, b], _, e, h => ⟨a, b, e, h.1, h.2.1⟩
  | .neg m, z, [], _, e, h => h.elim
  | .neg m, z, _ :: _ :: _, _, e, h => h.2.elim
  | .both m n, z, [], _, e, h => h.elim
  | .both m n, z, [_], _, e, h => h.2.elim
  | .both m n, z, _ :: _ :: _ :: _, _, e, h => h.2.2.elim
  | .eith m n, z, [], _, e, h => h.elim
  | .eith m n, z, [_], _, e, h => h.2.elim
  | .eith m n, z, _ :: _ :: _ :: _, _, e, h => h.2.2.elim
  | .btw _ _ _, _, _, h, _, _ => by cases h
  | .nam _, _, _, h, _, _ => by cases h
def spOne (d : Nat) : Sp := fun vs H Q _ => ∃ (t : Addr) (m : Md), vs = [.ref t] ∧ MdAt H t m ∧ m.depth ≤ d ∧ ∀ t' H', MdAt H' t' m.one → Same H H' → Q (.ref t') H'
def spCapped : Sp := fun vs H Q _ => ∃ (t : Addr) (m : Md), vs = [.ref t] ∧ MdAt H t m ∧ m.good ∧ m.leaves ≤ 6 ∧ m.depth ≤ 5 ∧ m.names ≤ 100 ∧ ∀ t' m' H', MdAt H' t' m' → m'.good → m'.leaves = m.leaves → m'.depth = m.depth → m'.names ≤ 8 → Same H H' → Q (.ref t') H'
section
variable {P : Program} {w : World} {K : PySem.W.Frag} {mg : Str → Option Value} {base : Heap}
theorem ok_onename {f : Addr} {fd : FuncData} (F : Fun K "_law_one_name" "_law_one_name" sOneName f fd) (bF : Binds K fd ["_law_model_here"] []) (gF : mg "_law_one_name" = some (.ref f)) (mT : mg "tuple" = none) : ∀ d, FnOk P w K mg base CX0 (d + 1) f fd ["_law_model_here"] (spOne d)
  | 0 => fn_none fun vs H Q E h => by
    obtain ⟨t, m, _, _, h0, _⟩ := h
    have := m.depth_pos
    omega
  | d + 1 => by
    have GR := ok_onename F bF gF mT d
    refine F.ok scOneName (fun vs H Q E h => ?_) (fun cdv A outer s H vs Q E hr h => ?_)
    · obtain ⟨t, m, rfl, _⟩ := h
      rfl
    · obtain ⟨t, m, rfl, hm, hd, q⟩ := h
      refine ⟨_, pss_cons (ps_if (pt_cmpR op_in_seq (pe_ix ix_tup (pv 0) pe_int (fun _ _ => rfl)) (pe_tup (pa_cons pe_str (pa_cons pe_str pa_nil))) (by rfl))
          (pss_one (ps_ret (pe_ifExp (pt_cmpR op_eq (pe_ix ix_tup (pv 0) pe_int (fun _ _ => rfl)) pe_str (nomark _)) (pv 0) (pe_slice sl_tupA (pv 0) po_none (po_some pe_int))))) pss_nil)
        (pss_one (ps_ret (pe_op op_catT (pe_tup (pa_cons (pe_ix ix_tup (pv 0) pe_int (fun _ _ => rfl)) pa_nil)) (pe_callTy call_tuple_of (by rfl) mT (by decide +kernel) (pa_cons (pe_lc (own := [("_law_part", 1)]) (g := gName 1) (tt := tYes) (by rfl) scOneName.nd (pi_tup (pe_slice sl_tup (pv 0) (po_some pe_int) po_none))
          (blkOk_by (own := [("_law_part", 1)]) (N := ["_law_model_here", "_law_part"]) (sc := defScope sOneName) (by decide +kernel)) (fun _ _ _ _ _ => pg_name (i := 1) scOneName.nd rfl (.inl rfl)) (fun _ _ _ _ _ => pts_nil)
          (fun _ _ _ _ _ => pe_call GR hr rfl gF F.kp bF .nil pass0 (pa_cons (pv 1) pa_nil))) pa_nil))))), ?_⟩
      cases hl : m.isLeaf with
      | true =>
        cases m with
        | btw z lo hi =>
          have e : H t = some (.tup [.str "between", .str z, .int lo, .int hi]) := hm
          refine ⟨_, rfl, t, _, 0, _, rfl, rfl, .of e, rfl, (by show 2 ≤ sizeLine; decide), fun p hp => ⟨p, _, rfl, .inr (.of upd_same), rfl, rfl, _, rfl, ifY (by decide +kernel) ?_⟩⟩
          have s1 := Same.new (o := .tup [.str "between", .str "named"]) hp
          exact ⟨_, rfl, t, _, 0, _, rfl, rfl, .of (s1 _ _ e), rfl, rfl, _, rfl, ifY (self_eq _) ⟨_, rfl, q t _ (s1 _ _ e) s1⟩⟩
        | nam zs =>
          have e : H t = some (.tup (.str "named" :: zs.map V.str)) := hm
          refine ⟨_, rfl, t, _, ((0 : Nat) : Int), .str "named", rfl, rfl, .of e, atI_nat (j := 0) rfl, (by show 2 ≤ sizeLine; decide), fun p hp => ⟨p, _, rfl, .inr (.of upd_same), rfl, rfl, _, rfl, ifY (by decide +kernel) ?_⟩⟩
          have s1 := Same.new (o := .tup [.str "between", .str "named"]) hp
          refine ⟨_, rfl, t, _, ((0 : Nat) : Int), .str "named", rfl, rfl, .of (s1 _ _ e), atI_nat (j := 0) rfl, rfl, _, rfl, ifN nm_bt ?_⟩
          have l1 : (V.str "named" :: zs.map V.str).length = zs.length + 1 := by rw [List.length_cons, List.length_map]
          refine ⟨_, rfl, _, rfl, t, _, rfl, .of (s1 _ _ e), fun hw => ?_, fun hw x hx => ?_⟩
          · have h2 := hw.2
            rw [show ((2 : Int)) = ((2 : Nat) : Int) from rfl, HT.sIx_nat, l1] at h2
            have ez : zs.take 1 = zs := List.take_of_length_le (by omega)
            refine q t _ ?_ s1
            show (upd H p (.tup [.str "between", .str "named"])) t = some (.tup (.str "named" :: (zs.take 1).map V.str))
            rw [ez]
            exact s1 _ _ e
          · have h2 : 2 ≤ (V.str "named" :: zs.map V.str).length := by
              rw [l1]
              rcases Nat.lt_or_ge zs.length 1 with h | h
              · refine absurd ⟨?_, ?_⟩ hw
                · rw [HT.sIx_none]
                · rw [show ((2 : Int)) = ((2 : Nat) : Int) from rfl, HT.sIx_nat, l1]
                  omega
              · omega
            rw [show ((2 : Int)) = ((2 : Nat) : Int) from rfl, cutV_first _ 2 h2]
            refine q x _ ?_ (s1.trans (Same.new hx))
            show (upd _ x _) x = some (.tup (.str "named" :: (zs.take 1).map V.str))
            rw [upd_same, List.map_take]
            rfl
        | _ => cases hl
      | false =>
        obtain ⟨us, e, ha, hin⟩ := hm.splitW hl
        refine ⟨_, rfl, t, _, ((0 : Nat) : Int), .str m.word, rfl, rfl, .of e, atI_nat (j := 0) rfl, (by show 2 ≤ sizeLine; decide), fun p hp => ⟨p, _, rfl, .inr (.of upd_same), rfl, rfl, _, rfl, ifN hin ?_⟩⟩
        have s1 := Same.new (o := .tup [.str "between", .str "named"]) hp
        refine ⟨_, rfl, t, _, ((0 : Nat) : Int), .str m.word, rfl, rfl, .of (s1 _ _ e), atI_nat (j := 0) rfl, (by show 1 ≤ sizeLine; decide), fun h0 hh0 => ?_⟩
        have s2 := s1.trans (Same.new (o := .tup [.str m.word]) hh0)
        refine ⟨_, rfl, _, rfl, t, _, rfl, .of (s2 _ _ e), not_whole _ _, fun u hu => ?_⟩
        rw [cut_tail]
        have s3 := s2.trans (Same.new (o := .tup (us.map V.ref)) hu)
        have eh0 : (upd (upd (upd H p (.tup [.str "between", .str "named"])) h0 (.tup [.str m.word])) u (.tup (us.map V.ref))) h0 = some (.tup [.str m.word]) := Same.new hu _ _ upd_same
        have eu0 : (upd (upd (upd H p (.tup [.str "between", .str "named"])) h0 (.tup [.str m.word])) u (.tup (us.map V.ref))) u = some (.tup (us.map V.ref)) := upd_same
        generalize upd (upd (upd H p (.tup [.str "between", .str "named"])) h0 (.tup [.str m.word])) u (.tup (us.map V.ref)) = H1 at s3 eu0 eh0 ⊢
        refine ⟨u, rfl, ⟨_, .of eu0⟩, fun D hD => ?_⟩
        have fD : H D = none := s3.free hD
        have nuD : u ≠ D := ne_of_none eu0 hD
        have nhD : h0 ≠ D := ne_of_none eh0 hD
        have hlen : us.length = m.parts.length := ha.len
        have two := m.parts_two
        refine lc_tup (xs := us.map V.ref) (fun i H2 => Same H H2 ∧ H2 u = some (.tup (us.map V.ref)) ∧ H2 h0 = some (.tup [.str m.word]) ∧ ∃ as : List Addr, H2 D = some (.lst (as.map V.ref)) ∧ AllAt H2 as ((m.parts.take i).map Md.one)) ?_ ?_ ?_ ?_
        · exact ⟨s3.trans (Same.new hD), (upd_ne nuD).trans eu0, (upd_ne nhD).trans eh0, [], upd_same, trivial⟩
        · rintro i H2 _ ⟨_, eu, _⟩
          exact .of eu
        · rintro i x H2 hx ⟨s4, eu, eh, as, eD, al⟩
          rw [List.getElem?_map] at hx
          obtain ⟨a, hai, rfl⟩ := Option.map_eq_some_iff.mp hx
          obtain ⟨m1, hmi, hm1⟩ := (ha.same s4).get hai
          obtain ⟨ld, _⟩ := Md.part_less (List.mem_of_getElem? hmi)
          refine ⟨rfl, ?_⟩
          unfold tYes
          dsimp only
          rw [if_pos rfl]
          refine ⟨_, rfl, a, m1, rfl, hm1, by omega, fun t2 H3 ht2 s5 => ⟨_, s5 _ _ eD, ?_, ?_⟩⟩
          · rw [List.length_map, al.len, List.length_map, List.length_take]
            exact small1000 (by omega)
          · have sk : SK H3 (upd H3 D (.lst (as.map V.ref ++ [.ref t2]))) := fun c o ec hv => by
              refine (upd_ne fun z => ?_).trans ec
              rw [z, s5 _ _ eD] at ec
              rw [← Option.some.inj ec] at hv
              cases hv
            refine ⟨fun c o ec => (upd_ne (ne_of_none ec fD)).trans (s5 _ _ (s4 _ _ ec)), (upd_ne nuD).trans (s5 _ _ eu), (upd_ne nhD).trans (s5 _ _ eh), as ++ [t2], ?_, ?_⟩
            · rw [upd_same, List.map_append]
              rfl
            · rw [List.take_add_one, hmi, List.map_append]
              exact ((al.same s5).app (show AllAt H3 [t2] [m1.one] from ⟨ht2, trivial⟩)).sk sk
        · rintro H2 ⟨s4, eu, eh, as, eD, al⟩
          rw [List.length_map, hlen, List.take_length] at al
          have ne : as ≠ [] := fun z => by
            rw [z] at al
            have := al.len
            rw [List.length_map] at this
            cases m with
            | neg _ => cases this
            | both _ _ => cases this
            | eith _ _ => cases this
            | _ => cases hl
          refine ⟨D, _, rfl, .inl ⟨.of eD, fun x hx => ?_⟩⟩
          have s5 := Same.new (o := .tup (as.map V.ref)) hx
          refine ⟨h0, x, _, _, rfl, rfl, .of (s5 _ _ eh), .of upd_same, List.cons_ne_nil _ _, ?_, fun z => absurd (List.map_eq_nil_iff.mp z) ne, fun _ z hz => ?_⟩
          · rw [List.length_map, al.len, List.length_map]
            exact small_size (by show 1 + m.parts.length ≤ 7000; omega)
          · have s6 := s5.trans (Same.new (o := .tup ([.str m.word] ++ as.map V.ref)) hz)
            exact q z _ (one_at hl upd_same (al.same s6)) (s4.trans s6)
def rLenK (K : PySem.W.Frag) : List V → Hp → VK → Prop := fun xs H Q => ∃ p ys, xs = [V.ref p] ∧ (SqL K H p ys ∨ SqT K H p ys) ∧ Q (V.int (ys.length : Nat)) H
theorem ok_capped {f fL fO : Addr} {fd fdL fdO : FuncData} (F : Fun K "_law_capped" "_law_capped" sCapped f fd) (GL : FnOk P w K mg base CX0 6 fL fdL ["_law_model_here"] (spLLeaves 5)) (gL : mg "_law_leaves" = some (.ref fL)) (kL : PySem.W.keepIn K (.ref fL) = true) (bL : Binds K fdL ["_law_model_here"] [])
    (GO : FnOk P w K mg base CX0 6 fO fdO ["_law_model_here"] (spOne 5)) (gO : mg "_law_one_name" = some (.ref fO)) (kO : PySem.W.keepIn K (.ref fO) = true) (bO : Binds K fdO ["_law_model_here"] []) (ms : mg "sum" = none) (ml : mg "len" = none) :
    FnOk P w K mg base CX0 7 f fd ["_law_model_here"] spCapped := by
  refine F.ok scCapped (fun vs H Q E h => ?_) (fun cdv A outer s H vs Q E hr h => ?_)
  · obtain ⟨t, m, rfl, _⟩ := h
    rfl
  · obtain ⟨t, m, rfl, hm, hg, h6, h5, h100, q⟩ := h
    refine ⟨_, pss_cons (ps_if (pt_cmpR op_lt (pe_callB (cr_sum rfl) (by rfl) ms (by decide +kernel) (pa_cons (pe_lc (own := [("_law_leaf_here", 1)]) (g := gName 1) (by rfl) scCapped.nd (pi_list (pe_call GL hr rfl gL kL bL .nil pass0 (pa_cons (pv 0) pa_nil)))
          (blkOk_by (own := [("_law_leaf_here", 1)]) (N := ["_law_model_here", "_law_leaf_here"]) (sc := defScope sCapped) (by decide +kernel)) (fun _ _ _ _ _ => pg_name (i := 1) scCapped.nd rfl (.inl rfl))
          (fun _ _ _ _ _ => pts_one (pt_cmpR op_eq (pe_ix (r := rIxT K) ix_tup (pv 1) pe_int (fun _ _ => rfl)) pe_str (nomark _)))
          (fun _ _ _ _ _ => pe_op op_sub (pe_callB (r := rLenK K) call_len_seq (by rfl) ml PySem.boot_len (pa_cons (pv 1) pa_nil)) pe_int)) pa_nil)) pe_int (nomark _)) (pss_one (ps_ret (pv 0))) pss_nil)
      (pss_one (ps_ret (pe_call GO hr rfl gO kO bO .nil pass0 (pa_cons (pv 0) pa_nil)))), ?_⟩
    refine ⟨_, rfl, t, m, rfl, hm, h5, h6, fun p as H1 fp ep al s1 => ?_⟩
    refine ⟨p, rfl, ⟨_, .of ep⟩, fun D hD => ?_⟩
    have fD : H D = none := s1.free hD
    have npD : p ≠ D := ne_of_none ep hD
    have hlen : as.length = m.leafs.length := al.len
    refine lc_list (xs := as.map V.ref) (fun i H2 => Same H H2 ∧ H2 p = some (.lst (as.map V.ref)) ∧ AllAt H2 as m.leafs ∧ H2 D = some (.lst (((m.leafs.take i).filterMap Md.cnt).map V.int))) ?_ ?_ ?_ ?_
    · exact ⟨s1.trans (Same.new hD), (upd_ne npD).trans ep, al.same (Same.new hD), upd_same⟩
    · rintro i H2 _ ⟨_, ep2, _⟩
      exact .of ep2
    · rintro i x H2 hx ⟨s4, ep2, al2, eD⟩
      rw [List.getElem?_map] at hx
      obtain ⟨a, hai, rfl⟩ := Option.map_eq_some_iff.mp hx
      obtain ⟨m1, hmi, hm1⟩ := al2.get hai
      have lf := Md.leafs_leaf (List.mem_of_getElem? hmi)
      have gd := Md.leafs_few hg _ (List.mem_of_getElem? hmi)
      have fewD : (((m.leafs.take i).filterMap Md.cnt).map V.int).length ≤ 6 := by
        rw [List.length_map]
        refine Nat.le_trans (List.length_filterMap_le _ _) ?_
        rw [List.length_take, Md.leafs_len]
        omega
      refine ⟨rfl, ?_⟩
      cases m1 with
      | btw z lo hi =>
        have e : H2 a = some (.tup [.str "between", .str z, .int lo, .int hi]) := hm1
        refine ⟨_, rfl, a, _, 0, _, rfl, rfl, .of e, rfl, rfl, _, rfl, ?_⟩
        refine ifN (by decide +kernel) ⟨s4, ep2, al2, ?_⟩
        rw [eD, List.take_add_one, hmi]
        simp [Md.cnt]
      | nam zs =>
        have e : H2 a = some (.tup (.str "named" :: zs.map V.str)) := hm1
        refine ⟨_, rfl, a, _, ((0 : Nat) : Int), .str "named", rfl, rfl, .of e, atI_nat (j := 0) rfl, rfl, _, rfl, ?_⟩
        refine ifY (self_eq _) ⟨_, rfl, a, _, rfl, .inr (.of e), _, _, rfl, rfl, _, eD, small1000 (by omega), ?_⟩
        have sk : ∀ o, SK H2 (upd H2 D o) := fun o c v ec hv => by
          refine (upd_ne fun z => ?_).trans ec
          rw [z, eD] at ec
          rw [← Option.some.inj ec] at hv
          cases hv
        refine ⟨fun c o ec => (upd_ne (ne_of_none ec fD)).trans (s4 _ _ ec), (upd_ne npD).trans ep2, al2.sk (sk _), ?_⟩
        rw [upd_same, List.take_add_one, hmi]
        have e9 : (((V.str "named" :: zs.map V.str).length : Nat) : Int) - 1 = (zs.length : Int) := by
          rw [List.length_cons, List.length_map]
          omega
        show some (HO.lst (_ ++ [V.int ((((V.str "named" :: zs.map V.str).length : Nat) : Int) - 1)])) = _
        rw [e9]
        simp [Md.cnt]
      | _ => cases lf
    · rintro H2 ⟨s4, ep2, al2, eD⟩
      rw [List.length_map, hlen, List.take_length] at eD
      refine ⟨D, _, rfl, .inl (.inl eD), _, _, rfl, rfl, _, rfl, ?_⟩
      rw [Md.cnt_sum]
      have hm2 := hm.same s4
      refine ite2 (fun hlt => ?_) (fun _ => ?_)
      · have h9 : (m.names : Int) < 9 := of_decide_eq_true hlt
        exact ⟨_, rfl, q t m H2 hm2 hg rfl rfl (by omega) s4⟩
      · exact ⟨_, rfl, t, m, rfl, hm2, h5, fun t' H' ht' s5 => q t' m.one H' ht' (Md.one_good hg) (Md.one_leaves m) (Md.one_depth m) (Nat.le_trans (Md.one_names m) (by omega)) (s4.trans s5)⟩
end
end G
set_option Elab.async false
set_option linter.all false
set_option maxRecDepth 100000
set_option maxHeartbeats 4000000
/-! D7: the law's records. -/
namespace G
open PySem PySem.Spec PyProof.Rows L2 NdefX StX
abbrev sRecords : Stmt := topS 59
abbrev nRecords : List Str := ["_law_box_here", "_law_fields", "_law_names_here", "_law_model_here", "_law_many", "_law_found", "_law_k", "_law_value_here", "_law_leaf_here", "_law_number_here"]
theorem scRecords : FnScope nRecords ["_law_box_here", "_law_fields", "_law_names_here", "_law_model_here", "_law_many"] (defScope sRecords) := ⟨rfl, rfl, rfl, by decide +kernel, rfl, by decide +kernel, by decide +kernel⟩
theorem ValN.more {z : Str} {zs : List Str} {kvs : List (Key × V)} (h : ValN zs kvs) : ValN (z :: zs) kvs := fun p hp => let ⟨y, i, e, hy, r⟩ := h p hp; ⟨y, i, e, List.mem_cons_of_mem _ hy, r⟩
theorem putK_old {kvs : List (Key × V)} {k : Key} {v : V} (h : (valV kvs k).isSome = true) : (putK kvs k v).length = kvs.length := by
  unfold putK
  rw [valV_any, h, if_pos rfl, List.length_map]
/-- a value of a record gets another number -/
theorem ValOk.put {zs : List Str} {kvs : List (Key × V)} {z : Str} {i : Int} (h : ValOk zs kvs) (hz : NameZ z) (h1 : -999 ≤ i) (h2 : i ≤ 999) (hs : kvs.length < 6 ∨ (valV kvs (Sum.inr z : Key)).isSome = true) : ValOk (z :: zs) (putK kvs (Sum.inr z) (.int i)) := by
  refine ⟨fun y hy => ?_, h.is.more.put List.mem_cons_self h1 h2, putK_pos _ _ _, ?_⟩
  · rcases List.mem_cons.mp hy with rfl | hy
    · exact hz
    · exact h.nm y hy
  · have := h.six
    rcases hs with hs | hs
    · have := length_putK kvs (Sum.inr z : Key) (.int i)
      omega
    · rw [putK_old hs]
      exact h.six
def stillD : HO → Bool
  | .ins _ _ _ => true
  | .tup _ => true
  | .dK _ => true
  | _ => false
def SD (H H' : Hp) : Prop := ∀ p o, H p = some o → stillD o = true → H' p = some o
theorem SD.of_same {H H' : Hp} (s : Same H H') : SD H H' := fun p o e _ => s p o e
theorem SD.sk {H H' : Hp} (s : SD H H') : SK H H' := fun p o e z => s p o e (by cases o <;> first | rfl | cases z)
/-- a record at t -/
def RecAt (H : Hp) (t : Addr) : Prop := ∃ (y : Str) (v : Addr) (zs : List Str) (kvs : List (Key × V)), H t = some (.tup [.str y, .ref v]) ∧ H v = some (.dK kvs) ∧ ValOk zs kvs ∧ NameZ y
theorem RecAt.sd {H H' : Hp} {t : Addr} (h : RecAt H t) (s : SD H H') : RecAt H' t := let ⟨y, v, zs, kvs, e1, e2, r⟩ := h; ⟨y, v, zs, kvs, s _ _ e1 rfl, s _ _ e2 rfl, r⟩
def But2 (b d : Addr) (H H' : Hp) : Prop := ∀ p o, p ≠ b → p ≠ d → H p = some o → H' p = some o
theorem box_not {H : Hp} {b p : Addr} {n : Nat} {o : HO} (B : BoxAt H b n) (e : H p = some o) (h : ∀ xs, o ≠ .lst xs) : p ≠ b := fun z => by
  obtain ⟨_, _, _, eb, _⟩ := B
  rw [z, eb] at e
  exact h _ (Option.some.inj e).symm
def spRecords : Sp := fun vs H Q _ => ∃ (b fl nl t : Addr) (n k : Nat) (fs ns : List Str) (m : Md), vs = [.ref b, .ref fl, .ref nl, .ref t, .int (k : Nat)] ∧ k ≤ 10 ∧ BoxAt H b n ∧ n + 400 * k ≤ 70000 ∧ Nm H fl fs ∧ Nm H nl ns ∧ MdAt H t m ∧ m.good ∧ m.leaves ≤ 6 ∧ m.depth ≤ 5 ∧
  ∀ (p : Addr) (ts : List Addr) (H' : Hp), H p = none → H' p = some (.lst (ts.map V.ref)) → (∀ r ∈ ts, RecAt H' r) → ts.length = k → BoxAt H' b (n + 400 * k) → But b H H' → Q (.ref p) H'
section
variable {P : Program} {w : World} {K : PySem.W.Frag} {mg : Str → Option Value} {base : Heap}
theorem ok_records {f fT fV fL : Addr} {fd fdT fdV fdL : FuncData} (F : Fun K "_law_records" "_law_records" sRecords f fd) (T : Fun K "_law_take" "_law_take" sTake fT fdT) (bT : Binds K fdT ["_law_box_here", "_law_many"] []) (gT : mg "_law_take" = some (.ref fT))
    (GV : FnOk P w K mg base CX0 3 fV fdV ["_law_box_here", "_law_fields"] (spValue K)) (gV : mg "_law_value" = some (.ref fV)) (kV : PySem.W.keepIn K (.ref fV) = true) (bV : Binds K fdV ["_law_box_here", "_law_fields"] [])
    (GL : FnOk P w K mg base CX0 6 fL fdL ["_law_model_here"] (spLLeaves 5)) (gL : mg "_law_leaves" = some (.ref fL)) (kL : PySem.W.keepIn K (.ref fL) = true) (bL : Binds K fdL ["_law_model_here"] [])
    (ml : mg "len" = none) (mr : mg "range" = none) (mmx : mg "max" = none) (mmn : mg "min" = none) : FnOk P w K mg base CX0 7 f fd ["_law_box_here", "_law_fields", "_law_names_here", "_law_model_here", "_law_many"] spRecords := by
  have GT : FnOk P w K mg base CX0 1 fT fdT ["_law_box_here", "_law_many"] spTake := ok_take T
  refine F.ok scRecords (fun vs H Q E h => ?_) (fun cdv A outer s H vs Q E hr h => ?_)
  · obtain ⟨b, fl, nl, t, n, k, fs, ns, m, rfl, _⟩ := h
    rfl
  · obtain ⟨b, fl, nl, t, n, k, fs, ns, m, rfl, hk, B, hn, F0, N0, hm, hg, h6, h5, q⟩ := h
    have hr1 := hr.mono (show 1 ≤ 6 by decide)
    have hr3 := hr.mono (show 3 ≤ 6 by decide)
    have hu := hu_of hr
    refine ⟨_, pss_cons (ps_set (i := 5) scRecords.nd rfl (.inl rfl) (pe_lst pa_nil))
      (pss_cons (ps_for PassesOwn.never rfl (pi_range1 rfl mr (pa_cons (pv 4) pa_nil)) (pg_name (i := 6) scRecords.nd rfl (.inl rfl))
        (pss_cons (ps_set (i := 7) scRecords.nd rfl (.inl rfl) (pe_call GV hr3 rfl gV kV bV .nil pass0 (pa_cons (pv 0) (pa_cons (pv 1) pa_nil))))
        (pss_cons (ps_for PassesOwn.never rfl (pi_list (pe_call GL hr rfl gL kL bL .nil pass0 (pa_cons (pv 3) pa_nil))) (pg_name (i := 8) scRecords.nd rfl (.inl rfl))
          (pss_one (ps_if (PW.pt (pw_and (pt_cmpR op_eq (pe_ix ix_tup (pv 8) pe_int (fun _ _ => rfl)) pe_str (nomark _)) (pw_and (pt_cmpR op_eq (pe_call GT hr1 rfl gT T.kp bT .nil pass0 (pa_cons (pv 0) (pa_cons pe_int pa_nil))) pe_int (nomark _))
              (pw_and1 (PW.pt (pw_or (pt_cmpR op_lt (pe_callB call_lenD (by rfl) ml PySem.boot_len (pa_cons (pv 7) pa_nil)) pe_int (nomark _)) (pw_or1 (pt_cmp (pc_din hu (pe_ix ix_tup (pv 8) pe_int (fun _ _ => rfl)) (pv 7))))))))))
            (pss_cons (ps_set (i := 9) scRecords.nd rfl (.inl rfl) (pe_ix ix_list (pe_lst (pa_cons (pe_ix ix_tup (pv 8) pe_int (fun _ _ => rfl)) (pa_cons (pe_ix ix_tup (pv 8) pe_int (fun _ _ => rfl)) (pa_cons (pe_op op_sub (pe_ix ix_tup (pv 8) pe_int (fun _ _ => rfl)) pe_int)
                (pa_cons (pe_op op_add (pe_ix ix_tup (pv 8) pe_int (fun _ _ => rfl)) pe_int) pa_nil))))) (pe_call GT hr1 rfl gT T.kp bT .nil pass0 (pa_cons (pv 0) (pa_cons pe_int pa_nil))) (fun _ _ => rfl)))
              (pss_one (ps_dput hu (pv 7) (pe_ix ix_tup (pv 8) pe_int (fun _ _ => rfl)) (pe_callB (call_max2 rfl) (by rfl) mmx (by decide +kernel) (pa_cons (pe_un un_neg pe_int) (pa_cons (pe_callB (call_min2 rfl) (by rfl) mmn (by decide +kernel) (pa_cons pe_int (pa_cons (pv 9) pa_nil))) pa_nil))) rfl))) pss_nil)))
        (pss_one (ps_expr (pe_bm PySem.F.plainAttrs_list PySem.F.slot_list_append PySem.F.type_list_append mt_append (pv 5) (pa_cons (pe_tup (pa_cons (pe_ix ix_list (pv 2) (pe_call GT hr1 rfl gT T.kp bT .nil pass0 (pa_cons (pv 0) (pa_cons (pe_callB call_len_seq (by rfl) ml PySem.boot_len (pa_cons (pv 2) pa_nil)) pa_nil))) (fun _ _ => rfl))
            (pa_cons (pv 7) pa_nil))) pa_nil)))))))
      (pss_one (ps_ret (pv 5)))), ?_⟩
    refine ⟨(by show 0 ≤ sizeLine; decide), fun l hl => ?_⟩
    have nlb := box_ne B hl
    have sl := Same.new (o := .lst []) hl
    refine ⟨_, rfl, (k : Int), rfl, by omega, by omega, ?_⟩
    refine for_range (lo := 0) (n := ((k : Nat) : Int).toNat) (fun i σ H2 => i ≤ k ∧ But b H H2 ∧ BoxAt H2 b (n + 400 * i) ∧ (∃ ts : List Addr, H2 l = some (.lst (ts.map V.ref)) ∧ (∀ r ∈ ts, RecAt H2 r) ∧ ts.length = i) ∧
      ∃ x6 x7 x8 x9 : Option V, σ = [some (.ref b), some (.ref fl), some (.ref nl), some (.ref t), some (.int (k : Nat)), some (.ref l), x6, x7, x8, x9]) ?_ ?_ ?_
    · exact ⟨Nat.zero_le _, But.same sl, B.same sl, ⟨[], upd_same, (fun _ h => absurd h List.not_mem_nil), rfl⟩, none, none, none, none, rfl⟩
    · rintro i σ H2 hi ⟨_, k2, B2, ⟨ts, el, rs, lt⟩, x6, x7, x8, x9, rfl⟩
      have hik : i < k := by omega
      have F2 := F0.but B k2
      have N2 := N0.but B k2
      have hm2 := hm.sk (SK.of_but B k2)
      refine ⟨_, rfl, _, rfl, b, fl, n + 400 * i, fs, rfl, B2, by omega, F2.at_, F2.nm, F2.pos, F2.few, F2.ne B2, fun d H3 kvs0 nd ed v1 v2 v3 _ B3 k3 => ?_⟩
      have ndb : d ≠ b := box_ne B2 nd
      have hm3 := hm2.sk (SK.of_but B2 k3)
      refine ⟨_, rfl, t, m, rfl, hm3, h5, h6, fun p2 as H4 fp2 ep2 al s4 => ⟨p2, rfl, ⟨_, .of ep2⟩, ?_⟩⟩
      have hlen : as.length = m.leafs.length := al.len
      have l6 : m.leafs.length ≤ 6 := by
        rw [Md.leafs_len]
        exact h6
      have p2b : p2 ≠ b := box_ne B3 fp2
      have p2d : p2 ≠ d := fun z => by
        rw [z, ed] at fp2
        cases fp2
      refine for_list (xs := as.map V.ref) (fun j σ H5 => j ≤ 6 ∧ But2 b d H4 H5 ∧ BoxAt H5 b (n + 400 * i + 219 + 2 * j) ∧ (∃ zs kvs, H5 d = some (.dK kvs) ∧ ValOk zs kvs) ∧
        ∃ x8 x9 : Option V, σ = [some (.ref b), some (.ref fl), some (.ref nl), some (.ref t), some (.int (k : Nat)), some (.ref l), some (.int (0 + i)), some (.ref d), x8, x9]) ?_ ?_ ?_ ?_
      · exact ⟨by decide, fun _ _ _ _ e => e, (B3.same s4).mono (by omega), ⟨fs, kvs0, s4 _ _ ed, F0.nm, v1, v2, v3⟩, _, _, rfl⟩
      · rintro j σ H5 _ ⟨_, b2, _⟩
        exact .of (b2 _ _ p2b p2d ep2)
      · rintro j x σ H5 hx ⟨_, b2, B5, ⟨zs, kvs, e5, ok5⟩, y8, y9, rfl⟩
        have hj : j < 6 := by
          have := (List.getElem?_eq_some_iff.mp hx).1
          rw [List.length_map] at this
          omega
        rw [List.getElem?_map] at hx
        obtain ⟨a, hai, rfl⟩ := Option.map_eq_some_iff.mp hx
        obtain ⟨m1, hmi, hm1⟩ := al.get hai
        have lf := Md.leafs_leaf (List.mem_of_getElem? hmi)
        have gd := Md.leafs_few hg _ (List.mem_of_getElem? hmi)
        have fin : ∀ (H' : Hp) (z' : Option V), But2 b d H5 H' → BoxAt H' b (n + 400 * i + 219 + 2 * j + 2) → (∃ zs kvs, H' d = some (.dK kvs) ∧ ValOk zs kvs) → (j + 1 ≤ 6 ∧ But2 b d H4 H' ∧ BoxAt H' b (n + 400 * i + 219 + 2 * (j + 1)) ∧ (∃ zs kvs, H' d = some (.dK kvs) ∧ ValOk zs kvs) ∧
            ∃ x8 x9 : Option V, [some (.ref b), some (.ref fl), some (.ref nl), some (.ref t), some (V.int (k : Nat)), some (.ref l), some (.int (0 + i)), some (.ref d), some (.ref a), z'] = [some (.ref b), some (.ref fl), some (.ref nl), some (.ref t), some (.int (k : Nat)), some (.ref l), some (.int (0 + i)), some (.ref d), x8, x9]) := fun H' z' h1 h2 h3 =>
          ⟨hj, fun c o n1 n2 e => h1 c o n1 n2 (b2 c o n1 n2 e), h2.mono (by omega), h3, _, _, rfl⟩
        cases m1 with
        | btw z lo hi =>
          have ea : H4 a = some (.tup [.str "between", .str z, .int lo, .int hi]) := hm1
          have nab : a ≠ b := box_not (B3.same s4) ea fun xs h => by cases h
          have nad : a ≠ d := fun h => by
            rw [h, s4 _ _ ed] at ea
            cases ea
          have e := b2 _ _ nab nad ea
          refine ⟨_, rfl, a, _, 0, _, rfl, rfl, .of e, rfl, rfl, _, rfl, ifY (self_eq _) ?_⟩
          refine ⟨_, rfl, b, 2, _, rfl, B5, by omega, by decide, by decide, fun r H6 r0 r1 B6 k6 => ⟨rfl, _, rfl, ite2 (fun _ => ?_) (fun _ => fin H6 _ (fun c o n1 _ e => k6 c o n1 e) (B6.mono (by omega)) ⟨zs, kvs, k6 _ _ ndb e5, ok5⟩)⟩⟩
          have e6 := k6 _ _ nab e
          have d6 := k6 _ _ ndb e5
          have stop := fin H6 y9 (fun c o n1 _ e => k6 c o n1 e) (B6.mono (by omega)) ⟨zs, kvs, d6, ok5⟩
          obtain ⟨gz, g1, g2, g3⟩ : NameZ z ∧ -999 ≤ lo ∧ lo ≤ hi ∧ hi ≤ 999 := gd
          refine ⟨_, rfl, d, kvs, rfl, d6, _, _, rfl, rfl, _, rfl, ite2 (fun h => ?_) (fun _ => ⟨_, rfl, a, _, 1, _, rfl, rfl, .of e6, rfl, _, rfl, d, _, rfl, DGet.k (k := Sum.inr z) d6, _, rfl, ite2 (fun h => ?_) (fun _ => stop)⟩)⟩
          have hs : kvs.length < 6 ∨ (valV kvs (Sum.inr z : Key)).isSome = true := .inl (by
            have h2 : (kvs.length : Int) < 6 := of_decide_eq_true h
            omega)
          rotate_left
          have hs : kvs.length < 6 ∨ (valV kvs (Sum.inr z : Key)).isSome = true := .inr h
          all_goals
            refine ⟨_, rfl, a, _, 2, _, rfl, rfl, .of e6, rfl, _, rfl, a, _, 3, _, rfl, rfl, .of e6, rfl, _, rfl, a, _, 2, _, rfl, rfl, .of e6, rfl, _, _, rfl, rfl, _, rfl, a, _, 3, _, rfl, rfl, .of e6, rfl, _, _, rfl, rfl, (by show 4 ≤ sizeLine; exact small_size (by decide)), fun p hp => ?_⟩
            have npb : p ≠ b := box_ne B6 hp
            have B6' := box_new (o := .lst [.int lo, .int hi, .int (lo - 1), .int (hi + 1)]) B6 hp
            refine ⟨_, rfl, b, 4, _, rfl, B6', by omega, by decide, by decide, fun r2 H7 c0 c1 B7 k7 => ?_⟩
            obtain ⟨i2, rfl, hi2⟩ := draw_at (n := 4) c0 c1 rfl
            have ep7 := k7 _ _ npb (upd_same (H := H6) (a := p) (o := .lst [.int lo, .int hi, .int (lo - 1), .int (hi + 1)]))
            obtain ⟨num, en⟩ : ∃ num : Int, ([.int lo, .int hi, .int (lo - 1), .int (hi + 1)] : List V)[i2]? = some (.int num) := by
              match i2, hi2 with
              | 0, _ => exact ⟨_, rfl⟩
              | 1, _ => exact ⟨_, rfl⟩
              | 2, _ => exact ⟨_, rfl⟩
              | 3, _ => exact ⟨_, rfl⟩
            have e7 := k7 _ _ nab (Same.new hp _ _ e6)
            have d7 := k7 _ _ ndb (Same.new hp _ _ d6)
            refine ⟨p, _, _, .int num, rfl, rfl, .of ep7, atI_nat en, ?_⟩
            obtain ⟨w2, ew, w3, w4⟩ : ∃ w2 : Int, (if (if num < 999 then num else 999) > -999 then (if num < 999 then num else 999) else -999) = w2 ∧ -999 ≤ w2 ∧ w2 ≤ 999 := by
              refine ⟨_, rfl, ?_, ?_⟩ <;> split <;> (try split) <;> omega
            have okp := ok5.put gz w3 w4 hs
            refine ⟨_, rfl, _, rfl, _, _, rfl, _, _, rfl, _, rfl, _, rfl, a, _, 1, _, rfl, rfl, .of e7, rfl, d, _, rfl, DPut.k (k := Sum.inr z) d7 (small1000 (by have := ok5.six; have := length_putK kvs (Sum.inr z : Key) (.int w2); omega)), ?_⟩
            rw [ew]
            refine fin _ _ (fun c o n1 n2 ec => (upd_ne n2).trans (k7 _ _ n1 (Same.new hp _ _ (k6 _ _ n1 ec)))) ((box_upd B7 ndb).mono (by omega)) ⟨_, _, upd_same, okp⟩
        | nam ns1 =>
          have ea : H4 a = some (.tup (.str "named" :: ns1.map V.str)) := hm1
          have nab : a ≠ b := box_not (B3.same s4) ea fun xs h => by cases h
          have nad : a ≠ d := fun h => by
            rw [h, s4 _ _ ed] at ea
            cases ea
          have e := b2 _ _ nab nad ea
          exact ⟨_, rfl, a, _, ((0 : Nat) : Int), .str "named", rfl, rfl, .of e, atI_nat (j := 0) rfl, rfl, _, rfl, ifN nm_bt (fin H5 _ (fun _ _ _ _ e => e) (B5.mono (by omega)) ⟨zs, kvs, e5, ok5⟩)⟩
        | _ => cases lf
      · rintro σ H5 ⟨_, b2, B5, ⟨zs, kvs, e5, ok5⟩, y8, y9, rfl⟩
        rw [List.length_map, hlen] at B5
        have nld : l ≠ d := ne_of_none el nd
        have el5 := b2 _ _ nlb nld (s4 _ _ (k3 _ _ nlb el))
        have N5 : Nm H5 nl ns := ⟨b2 _ _ (N2.ne B2) (ne_of_none N2.at_ nd) (s4 _ _ (k3 _ _ (N2.ne B2) N2.at_)), N2.pos, N2.few, N2.nm⟩
        have l1 : (0 : Int) < ((ns.map V.str).length : Nat) := by
          rw [List.length_map]
          have := N5.pos
          omega
        have l2 : ((ns.map V.str).length : Int) < 2 ^ 200 := by
          rw [List.length_map]
          have := N5.few
          omega
        refine ⟨_, rfl, .inl ⟨rfl, _, .of el5⟩, _, rfl, _, rfl, _, rfl, nl, _, rfl, .inl (.of N5.at_), b, _, _, rfl, B5, by omega, l1, l2, fun r H6 r0 r1 B6 k6 => ?_⟩
        obtain ⟨j, rfl, hj⟩ := draw_at (n := ns.length) r0 r1 (by rw [List.length_map])
        obtain ⟨y, hy, hym⟩ := pick hj
        have N6 := N5.but B5 k6
        refine ⟨nl, _, _, .str y, rfl, rfl, .of N6.at_, atI_nat (pick_map hy), _, rfl, (by show 2 ≤ sizeLine; decide), fun u hu' => ?_⟩
        have el6 := k6 _ _ nlb el5
        have nul : u ≠ l := (ne_of_none el6 hu').symm
        have e6 := k6 _ _ ndb e5
        refine ⟨l, _, _, rfl, rfl, (upd_ne nul.symm).trans el6, (small1000 (by rw [List.length_map]; omega)), ?_⟩
        -- from the turn's start to here: all but b, d, l
        have all : ∀ c o, c ≠ b → c ≠ d → c ≠ l → H2 c = some o → (upd (upd H6 u (.tup [.str y, .ref d])) l (.lst (ts.map V.ref ++ [.ref u]))) c = some o := fun c o n1 n2 n3 ec => by
          have e66 := k6 _ _ n1 (b2 _ _ n1 n2 (s4 _ _ (k3 _ _ n1 ec)))
          rw [upd_ne n3, upd_ne (ne_of_none e66 hu')]
          exact e66
        have sd : SD H2 (upd (upd H6 u (.tup [.str y, .ref d])) l (.lst (ts.map V.ref ++ [.ref u]))) := fun c o ec hs => by
          refine all c o (fun z => ?_) (ne_of_none ec nd) (fun z => ?_) ec
          · obtain ⟨_, _, _, eb, _⟩ := B2
            rw [z, eb] at ec
            rw [← Option.some.inj ec] at hs
            cases hs
          · rw [z, el] at ec
            rw [← Option.some.inj ec] at hs
            cases hs
        refine ⟨by omega, fun c o n1 ec => all c o n1 (ne_of_none (k2 c o n1 ec) nd) (ne_of_none ec hl) (k2 c o n1 ec), ?_, ⟨ts ++ [u], ?_, fun r hr' => ?_, ?_⟩, _, _, _, _, rfl⟩
        · exact (box_upd (box_new B6 hu') nlb).mono (by omega)
        · rw [upd_same, List.map_append]
          rfl
        · rcases List.mem_append.mp hr' with hr' | hr'
          · exact (rs r hr').sd sd
          · rw [List.mem_singleton.mp hr']
            refine ⟨y, d, zs, kvs, (upd_ne nul).trans upd_same, ?_, ok5, N5.nm _ hym⟩
            rw [upd_ne nld.symm, upd_ne (ne_of_none e6 hu')]
            exact e6
        · rw [List.length_append, lt]
          rfl
    · rintro σ H2 ⟨_, k2, B2, ⟨ts, el, rs, lt⟩, x6, x7, x8, x9, rfl⟩
      have ek : ((k : Nat) : Int).toNat = k := by omega
      rw [ek] at B2 lt
      exact ⟨_, rfl, q l ts H2 hl el rs lt B2 k2⟩
end
end G
set_option Elab.async false
set_option linter.all false
set_option maxRecDepth 100000
set_option maxHeartbeats 4000000
/-! D8: the law's turn. -/
namespace G
open PySem PySem.Spec PyProof.Rows L2 NdefX StX
abbrev sRight : Stmt := topS 64
abbrev nRight : List Str := ["_law_box_here", "_law_fields", "_law_names_here", "_law_model_here", "_law_condition", "_law_records_here", "_law_lap", "_law_key", "_law_value_here"]
theorem scRight : FnScope nRight ["_law_box_here", "_law_fields", "_law_names_here"] (defScope sRight) := ⟨rfl, rfl, rfl, by decide +kernel, rfl, by decide +kernel, by decide +kernel⟩
theorem small_log {i : Int} (h1 : -999 ≤ i) (h2 : i ≤ 999) : decide (i.natAbs.log2 < 1920) = true := by
  refine decide_eq_true ?_
  have h : i.natAbs < 2 ^ 10 := by omega
  by_cases z : i.natAbs = 0
  · rw [z]
    decide
  · exact Nat.lt_trans ((Nat.log2_lt z).mpr h) (by decide)
theorem two_show {a b : Nat} (h1 : a ≤ 900) (h2 : b ≤ 900) : PyData.showableAll [.int (a : Nat), .int (b : Nat)] = true ∧ 3 + massAll [.int (a : Nat), .int (b : Nat)] ≤ sizeLine := by
  refine ⟨?_, ?_⟩
  · simp only [PyData.showableAll, PyData.showable, Bool.and_true, Bool.true_and]
    rw [small_log (by omega) (by omega), small_log (by omega) (by omega)]
    decide
  · simp only [massAll, mass]
    rw [sizeLine_eq]
    omega
/-- what conditions do, whatever their class -/
structure Conds2 (P : Program) (w : World) (K : PySem.W.Frag) (mg : Str → Option Value) (base : Heap) (c : Cs) : Prop where
  leaves : ∀ m : Md, PolyM P w K mg base 1 (m.cls c) "leaves" (spLeaves c)
  depth : ∀ m : Md, PolyM P w K mg base 1 (m.cls c) "depth" (spDepth c)
  call : ∀ m : Md, PolyC P w K mg base 7 (m.cls c) (spCall c 5)
def spRight : Sp := fun vs H Q _ => ∃ (b fl nl : Addr) (n : Nat) (fs ns : List Str), vs = [.ref b, .ref fl, .ref nl] ∧ BoxAt H b n ∧ n ≤ 50000 ∧ Nm H fl fs ∧ Nm H nl ns ∧ ∀ H', BoxAt H' b (n + 3000) → But b H H' → Q (.bl true) H'
theorem cost_5 : cost 5 = 414 := by decide
section
variable {P : Program} {w : World} {K : PySem.W.Frag} {mg : Str → Option Value} {base : Heap}
theorem ok_right {f fT fM fC fB fR fL fD fH : Addr} {fd fdT fdM fdC fdB fdR fdL fdD fdH : FuncData} {c : Cs} (F : Fun K "_law_right" "_law_right" sRight f fd) (T : Fun K "_law_take" "_law_take" sTake fT fdT) (bT : Binds K fdT ["_law_box_here", "_law_many"] []) (gT : mg "_law_take" = some (.ref fT))
    (GM : FnOk P w K mg base CX0 9 fM fdM ["_law_box_here", "_law_fields", "_law_names_here", "_law_deep", "_law_most"] (spModel 5)) (gM : mg "_law_model" = some (.ref fM)) (kM : PySem.W.keepIn K (.ref fM) = true) (bM : Binds K fdM ["_law_box_here", "_law_fields", "_law_names_here", "_law_deep", "_law_most"] [])
    (GC : FnOk P w K mg base CX0 7 fC fdC ["_law_model_here"] spCapped) (gC : mg "_law_capped" = some (.ref fC)) (kC : PySem.W.keepIn K (.ref fC) = true) (bC : Binds K fdC ["_law_model_here"] [])
    (GB : FnOk P w K mg base CX0 11 fB fdB ["_law_box_here", "_law_model_here"] (spBuilt c 5)) (gB : mg "_law_built" = some (.ref fB)) (kB : PySem.W.keepIn K (.ref fB) = true) (bB : Binds K fdB ["_law_box_here", "_law_model_here"] [])
    (GR : FnOk P w K mg base CX0 7 fR fdR ["_law_box_here", "_law_fields", "_law_names_here", "_law_model_here", "_law_many"] spRecords) (gR : mg "_law_records" = some (.ref fR)) (kR : PySem.W.keepIn K (.ref fR) = true) (bR : Binds K fdR ["_law_box_here", "_law_fields", "_law_names_here", "_law_model_here", "_law_many"] [])
    (GL : FnOk P w K mg base CX0 6 fL fdL ["_law_model_here"] (spLLeaves 5)) (gL : mg "_law_leaves" = some (.ref fL)) (kL : PySem.W.keepIn K (.ref fL) = true) (bL : Binds K fdL ["_law_model_here"] [])
    (GD : FnOk P w K mg base CX0 6 fD fdD ["_law_model_here"] (spLDepth 5)) (gD : mg "_law_depth" = some (.ref fD)) (kD : PySem.W.keepIn K (.ref fD) = true) (bD : Binds K fdD ["_law_model_here"] [])
    (GH : FnOk P w K mg base CX0 6 fH fdH ["_law_model_here", "_law_key", "_law_value_here"] (spLHolds 5)) (gH : mg "_law_holds" = some (.ref fH)) (kH : PySem.W.keepIn K (.ref fH) = true) (bH : Binds K fdH ["_law_model_here", "_law_key", "_law_value_here"] [])
    (O2 : Conds2 P w K mg base c) (ml : mg "len" = none) (mr : mg "repr" = none) (mra : mg "range" = none) (md : mg "dict" = none) : FnG P w K mg base CX0 12 f fd ["_law_box_here", "_law_fields", "_law_names_here"] spRight := by
  have GT : FnOk P w K mg base CX0 1 fT fdT ["_law_box_here", "_law_many"] spTake := ok_take T
  refine FnG.of_body F scRight (fun vs H Q E h => ?_) (fun cdv A outer s H vs Q E hg hr h => ?_)
  · obtain ⟨b, fl, nl, n, fs, ns, rfl, _⟩ := h
    rfl
  · obtain ⟨b, fl, nl, n, fs, ns, rfl, B, hn, F0, N0, q⟩ := h
    have r1 := hr.mono (show 1 ≤ 11 by decide)
    have r6 := hr.mono (show 6 ≤ 11 by decide)
    have r7 := hr.mono (show 7 ≤ 11 by decide)
    have r9 := hr.mono (show 9 ≤ 11 by decide)
    refine ⟨_, pss_cons (ps_set (i := 3) scRight.nd rfl (.inl rfl) (pe_call GC r7 rfl gC kC bC .nil pass0 (pa_cons (pe_call GM r9 rfl gM kM bM .nil pass0 (pa_cons (pv 0) (pa_cons (pv 1) (pa_cons (pv 2)
          (pa_cons (pe_op op_add pe_int (pe_call GT r1 rfl gT T.kp bT .nil pass0 (pa_cons (pv 0) (pa_cons pe_int pa_nil)))) (pa_cons (pe_op op_add pe_int (pe_call GT r1 rfl gT T.kp bT .nil pass0 (pa_cons (pv 0) (pa_cons pe_int pa_nil)))) pa_nil)))))) pa_nil)))
      (pss_cons (ps_set (i := 4) scRight.nd rfl (.inl rfl) (pe_call GB hr rfl gB kB bB .nil pass0 (pa_cons (pv 0) (pa_cons (pv 3) pa_nil))))
      (pss_cons (ps_if (pt_cmpR op_ne (pe_callB (call_repr hg hr.units) (by rfl) mr (by decide +kernel) (pa_cons (pe_lst (pa_cons (pe_methV0 (k := 1) (pv 4) r1 pass0) (pa_cons (pe_methV0 (k := 1) (pv 4) r1 pass0) pa_nil))) pa_nil))
          (pe_callB (call_repr hg hr.units) (by rfl) mr (by decide +kernel) (pa_cons (pe_lst (pa_cons (pe_callB call_len_seq (by rfl) ml PySem.boot_len (pa_cons (pe_call GL r6 rfl gL kL bL .nil pass0 (pa_cons (pv 3) pa_nil)) pa_nil)) (pa_cons (pe_call GD r6 rfl gD kD bD .nil pass0 (pa_cons (pv 3) pa_nil)) pa_nil))) pa_nil)) (nomark _))
        (pss_one (ps_ret pe_bl)) pss_nil)
      (pss_cons (ps_set (i := 5) scRight.nd rfl (.inl rfl) (pe_call GR r7 rfl gR kR bR .nil pass0 (pa_cons (pv 0) (pa_cons (pv 1) (pa_cons (pv 2) (pa_cons (pv 3) (pa_cons pe_int pa_nil)))))))
      (pss_cons (ps_for PassesOwn.never rfl (pi_range1 rfl mra (pa_cons pe_int pa_nil)) (pg_name (i := 6) scRight.nd rfl (.inl rfl))
        (pss_one (ps_for PassesOwn.never rfl (pi_list (pv 5)) (pg_tup rfl (pgs_cons (pg_name (i := 7) scRight.nd rfl (.inl rfl)) (pgs_cons (pg_name (i := 8) scRight.nd rfl (.inl rfl)) pgs_nil)))
          (pss_one (ps_if (pt_cmpR op_ne (pe_callB call_reprB (by rfl) mr (by decide +kernel) (pa_cons (pe_callV (k := 7) (pv 4) r7 pass0 (pa_cons (pv 7) (pa_cons (pe_callTy call_dictD (by rfl) md (by decide +kernel) (pa_cons (pv 8) pa_nil)) pa_nil))) pa_nil))
              (pe_callB call_reprB (by rfl) mr (by decide +kernel) (pa_cons (pe_call GH r6 rfl gH kH bH .nil pass0 (pa_cons (pv 3) (pa_cons (pv 7) (pa_cons (pv 8) pa_nil)))) pa_nil)) (nomark _)) (pss_one (ps_ret pe_bl)) pss_nil)))))
      (pss_one (ps_ret pe_bl)))))), ?_⟩
    have hc5 := cost_5
    refine ⟨_, rfl, _, rfl, _, rfl, _, rfl, b, 5, n, rfl, B, by omega, by decide, by decide, fun x H1 x0 x1 B1 k1 => ⟨_, _, rfl, rfl, _, rfl, b, 6, n + 1, rfl, B1, by omega, by decide, by decide, fun y H2 y0 y1 B2 k2 => ⟨_, _, rfl, rfl, ?_⟩⟩⟩
    obtain ⟨dj, rfl, hdj⟩ := draw_at (n := 5) x0 x1 rfl
    obtain ⟨mj, rfl, hmj⟩ := draw_at (n := 6) y0 y1 rfl
    have hcd : cost (dj + 1) ≤ cost 5 := cost_mono (by omega)
    have k02 := k1.trans k2
    have F2 := (F0.but B k1).but B1 k2
    have N2 := (N0.but B k1).but B1 k2
    refine ⟨b, fl, nl, n + 2, dj + 1, mj + 1, fs, ns, ?_, B2, by omega, F2, N2, by omega, by omega, by omega, by omega, fun t0 m0 H3 hm0 g0 l0 dp0 nm0 B3 k3 => ?_⟩
    · show [V.ref b, V.ref fl, V.ref nl, V.int (1 + (dj : Int)), V.int (1 + (mj : Int))] = _
      rw [show (1 : Int) + (dj : Int) = ((dj + 1 : Nat) : Int) by omega, show (1 : Int) + (mj : Int) = ((mj + 1 : Nat) : Int) by omega]
    refine ⟨t0, m0, rfl, hm0, g0, by omega, by omega, by omega, fun t m H4 hm g l1 d1 n8 s4 => ?_⟩
    have B4 := B3.same s4
    have sz := Md.size_31 (m := m) (by omega)
    refine ⟨_, rfl, _, rfl, b, t, n + 2 + cost (dj + 1), m, rfl, B4, by omega, hm, g, by omega, by omega, by omega, n8, fun a H5 hc B5 k5 => ?_⟩
    have F5 := ((F2.but B2 k3).same s4).but B4 k5
    have N5 := ((N2.but B2 k3).same s4).but B4 k5
    have hm5 := hm.sk (SK.of_but B4 k5)
    have k05 : But b H H5 := ((k02.trans k3).trans (But.same s4)).trans k5
    have dm5 : m.depth ≤ 5 := by omega
    have lm6 : m.leaves ≤ 6 := by omega
    obtain ⟨q1, q2⟩ := two_show (a := m.leaves) (b := m.depth) (by omega) (by omega)
    obtain ⟨dx, fs', ha, _, _, _, _, lk1, lk2⟩ := hc.get
    have rp : ∀ Hx : Hp, RpAll K Hx [.int (m.leaves : Nat), .int (m.depth : Nat)] [.int (m.leaves : Nat), .int (m.depth : Nat)] := fun Hx => .cons (.int _) (.cons (.int _) .nil)
    refine ⟨_, rfl, a, _, dx, fs', spLeaves c, rfl, ha, O2.leaves m, lk1, a, m, rfl, hc, _, rfl, a, _, dx, fs', spDepth c, rfl, ha, O2.depth m, lk2, a, m, rfl, hc, (by show 2 ≤ sizeLine; decide), fun p hp => ?_⟩
    have s5 := Same.new (o := .lst [.int (m.leaves : Nat), .int (m.depth : Nat)]) hp
    refine ⟨p, _, _, rfl, upd_same, rp _, q1, (fun hh => by simp [PyData.hasDictAll, PyData.hasDict] at hh), (by show (1 : Nat) ≤ 20; decide), q2, ?_⟩
    generalize upd H5 p (.lst [.int (m.leaves : Nat), .int (m.depth : Nat)]) = H6 at s5 ⊢
    refine ⟨_, rfl, t, m, rfl, hm5.same s5, dm5, lm6, fun pl as H7 _ epl al s6 => ⟨pl, _, rfl, .inl (.of epl), _, rfl, t, m, rfl, (hm5.same s5).same s6, dm5, fun H8 s7 => ⟨(by show 2 ≤ sizeLine; decide), fun p2 hp2 => ?_⟩⟩⟩
    have el : (((as.map V.ref).length : Nat) : Int) = ((m.leaves : Nat) : Int) := by
      rw [List.length_map, al.len, Md.leafs_len]
    refine ⟨p2, _, _, rfl, upd_same, (by rw [el]; exact rp _), q1, (fun hh => by simp [PyData.hasDictAll, PyData.hasDict] at hh), (by show (1 : Nat) ≤ 20; decide), q2, rfl, _, rfl, ?_⟩
    rw [decide_eq_true rfl]
    have s58 : Same H5 (upd H8 p2 (.lst [.int (((as.map V.ref).length : Nat) : Int), .int (m.depth : Nat)])) := ((s5.trans s6).trans s7).trans (Same.new hp2)
    refine iteF ?_
    generalize upd H8 p2 (.lst [.int (((as.map V.ref).length : Nat) : Int), .int (m.depth : Nat)]) = H9 at s58 ⊢
    have B9 := B5.same s58
    refine ⟨_, rfl, _, rfl, _, rfl, _, rfl, b, fl, nl, t, _, 4, fs, ns, m, rfl, by decide, B9, by omega, F5.same s58, N5.same s58, hm5.same s58, g, lm6, dm5, fun p3 ts H10 _ ep3 rs lt B10 k10 => ?_⟩
    have hm10 := (hm5.same s58).sk (SK.of_but B9 k10)
    have hc10 := (hc.same s58).sk (SK.of_but B9 k10)
    have k010 : But b H H10 := (k05.trans (But.same s58)).trans k10
    refine ⟨2, rfl, by decide, by decide, ?_⟩
    refine for_range (lo := 0) (n := 2) (fun i σ H2 => Same H10 H2 ∧ ∃ x6 x7 x8 : Option V, σ = [some (.ref b), some (.ref fl), some (.ref nl), some (.ref t), some (.ref a), some (.ref p3), x6, x7, x8]) ?_ ?_ ?_
    · exact ⟨Same.refl _, none, none, none, rfl⟩
    · rintro i σ H2 _ ⟨s2, x6, x7, x8, rfl⟩
      refine ⟨_, rfl, p3, rfl, ⟨_, .of (s2 _ _ ep3)⟩, ?_⟩
      refine for_list (xs := ts.map V.ref) (fun j σ H3 => Same H10 H3 ∧ ∃ x6 x7 x8 : Option V, σ = [some (.ref b), some (.ref fl), some (.ref nl), some (.ref t), some (.ref a), some (.ref p3), x6, x7, x8]) ?_ ?_ ?_ ?_
      · exact ⟨s2, _, _, _, rfl⟩
      · rintro j σ H3 _ ⟨s3, _⟩
        exact .of (s3 _ _ ep3)
      · rintro j x σ H3 hx ⟨s3, y6, y7, y8, rfl⟩
        rw [List.getElem?_map] at hx
        obtain ⟨r, hri, rfl⟩ := Option.map_eq_some_iff.mp hx
        obtain ⟨y, v, zs, kvs, er, ev, ok, ny⟩ := rs r (List.mem_of_getElem? hri)
        refine ⟨r, _, rfl, .of (s3 _ _ er), rfl, _, _, rfl, _, _, rfl, rfl, ?_⟩
        have hc3 := hc10.same s3
        have hm3' := hm10.same s3
        refine ⟨_, rfl, a, _, spCall c 5, rfl, O2.call m, _, rfl, _, rfl, v, kvs, rfl, .inl (s3 _ _ ev), fun p4 hp4 => ?_⟩
        have s34 := Same.new (o := .dK kvs) hp4
        have hc4 := hc3.same s34
        obtain ⟨dx4, fs4, ha4, _⟩ := hc4.get
        refine ⟨.inr ⟨dx4, fs4, ha4⟩, a, p4, y, m, zs, kvs, rfl, hc4, dm5, ny, upd_same, ok, fun H11 s11 => ⟨_, rfl, ?_⟩⟩
        have s311 := s34.trans s11
        refine ⟨_, rfl, _, rfl, _, rfl, t, v, y, m, zs, kvs, rfl, hm3'.same s311, dm5, s311 _ _ (s3 _ _ ev), ok.is, fun H12 s12 => ⟨_, rfl, rfl, _, rfl, ?_⟩⟩
        rw [decide_eq_true rfl]
        exact iteF ⟨(s3.trans s311).trans s12, _, _, _, rfl⟩
      · rintro σ H3 ⟨s3, y6, y7, y8, rfl⟩
        exact ⟨s3, _, _, _, rfl⟩
    · rintro σ H2 ⟨s2, x6, x7, x8, rfl⟩
      exact q H2 ((B10.same s2).mono (by omega)) (k010.trans (But.same s2))
end
end G
set_option Elab.async false
set_option linter.all false
set_option maxRecDepth 100000
set_option maxHeartbeats 4000000
/-! D9: the law. -/
namespace G
open PySem PySem.Spec PyProof.Rows L2 NdefX StX
abbrev sLaw : Stmt := topS 65
abbrev nLaw : List Str := ["_law_script", "_law_k", "_law_box_here", "_law_names_here", "_law_fields", "_law_turn"]
theorem scLaw : FnScope nLaw ["_law_script"] (defScope sLaw) := ⟨rfl, rfl, rfl, by decide +kernel, rfl, by decide +kernel, by decide +kernel⟩
def spLaw (K : PySem.W.Frag) : Sp := fun vs H Q _ => ∃ (a : Addr) (ns : List Int), vs = [.ref a] ∧ SqL K H a (ns.map V.int) ∧ ns.length ≤ 63 ∧ ∀ H', Q (.bl true) H'
theorem sqL_same {K : PySem.W.Frag} {H H' : Hp} {a : Addr} {xs : List V} (h : SqL K H a xs) (s : Same H H') : SqL K H' a xs := by
  rcases h with (h | ⟨o, h⟩) | h
  · exact .inl (.inl (s _ _ h))
  · exact .inl (.inr ⟨o, s _ _ h⟩)
  · exact .inr h
theorem same_but {b : Addr} {H H1 H2 : Hp} (s : Same H H1) (n : H b = none) (k : But b H1 H2) : Same H H2 := fun c o e => k c o (ne_of_none e n) (s c o e)
section
variable {P : Program} {w : World} {K : PySem.W.Frag} {mg : Str → Option Value} {base : Heap}
theorem ok_law {f fc fb fn fR fT : Addr} {fd fdc fdb fdn fdR fdT : FuncData} (F : Fun K "law" "law" sLaw f fd)
    (Fc : Fun K "_law_cell" "_law_cell" sCell fc fdc) (bc : Binds K fdc ["_law_script", "_law_k"] []) (gc : mg "_law_cell" = some (.ref fc))
    (Fb : Fun K "_law_box" "_law_box" sBox fb fdb) (bb : Binds K fdb ["_law_cell_here"] []) (gb : mg "_law_box" = some (.ref fb))
    (T : Fun K "_law_take" "_law_take" sTake fT fdT) (bT : Binds K fdT ["_law_box_here", "_law_many"] []) (gT : mg "_law_take" = some (.ref fT))
    (kn : PySem.W.keepIn K (.ref fn) = true) (bn : Binds K fdn ["_law_box_here", "_law_many"] []) (gn : mg "_law_names" = some (.ref fn)) (Gn : FnOk P w K mg base CX0 3 fn fdn ["_law_box_here", "_law_many"] spNames)
    (kR : PySem.W.keepIn K (.ref fR) = true) (bR : Binds K fdR ["_law_box_here", "_law_fields", "_law_names_here"] []) (gR : mg "_law_right" = some (.ref fR)) (GR : FnG P w K mg base CX0 12 fR fdR ["_law_box_here", "_law_fields", "_law_names_here"] spRight)
    (mr : mg "range" = none) (mmx : mg "max" = none) (mmn : mg "min" = none) (ml : mg "len" = none) : FnG P w K mg base CX0 13 f fd ["_law_script"] (spLaw K) := by
  have Gc : FnOk P w K mg base CX0 1 fc fdc ["_law_script", "_law_k"] (spCell' K) := ok_cell Fc ml
  have Gb : FnOk P w K mg base CX0 1 fb fdb ["_law_cell_here"] spBox := ok_box Fb mmx
  have GT : FnOk P w K mg base CX0 1 fT fdT ["_law_box_here", "_law_many"] spTake := ok_take T
  refine FnG.of_body F scLaw (fun vs H Q E h => ?_) (fun cdv A outer s H vs Q E hg hr h => ?_)
  · obtain ⟨a, ns, rfl, _⟩ := h
    rfl
  · obtain ⟨a, ns, rfl, hS, hl, q⟩ := h
    have hr1 := hr.mono (show 1 ≤ 12 by decide)
    have hr3 := hr.mono (show 3 ≤ 12 by decide)
    refine ⟨_, pss_cons (ps_for PassesOwn.never rfl (pi_range1 rfl mr (pa_cons (pe_callB (call_max2 rfl) (by rfl) mmx (by decide +kernel) (pa_cons pe_int (pa_cons (pe_callB (call_min2 rfl) (by rfl) mmn (by decide +kernel)
          (pa_cons (pe_callB call_len_seq (by rfl) ml PySem.boot_len (pa_cons (pv 0) pa_nil)) (pa_cons pe_int pa_nil))) pa_nil))) pa_nil)) (pg_name (i := 1) scLaw.nd rfl (.inl rfl))
        (pss_cons (ps_set (i := 2) scLaw.nd rfl (.inl rfl) (pe_call Gb hr1 rfl gb Fb.kp bb .nil pass0 (pa_cons (pe_call Gc hr1 rfl gc Fc.kp bc .nil pass0 (pa_cons (pv 0) (pa_cons (pv 1) pa_nil))) pa_nil)))
        (pss_cons (ps_set (i := 3) scLaw.nd rfl (.inl rfl) (pe_call Gn hr3 rfl gn kn bn .nil pass0 (pa_cons (pv 2) (pa_cons pe_int pa_nil))))
        (pss_cons (ps_set (i := 4) scLaw.nd rfl (.inl rfl) (pe_call Gn hr3 rfl gn kn bn .nil pass0 (pa_cons (pv 2) (pa_cons (pe_op op_add pe_int (pe_call GT hr1 rfl gT T.kp bT .nil pass0 (pa_cons (pv 2) (pa_cons pe_int pa_nil)))) pa_nil))))
        (pss_one (ps_for PassesOwn.never rfl (pi_range1 rfl mr (pa_cons pe_int pa_nil)) (pg_name (i := 5) scLaw.nd rfl (.inl rfl))
          (pss_one (ps_if (pt_not (pt_val (pe_callG GR hg hr rfl gR kR bR .nil pass0 (pa_cons (pv 2) (pa_cons (pv 4) (pa_cons (pv 3) pa_nil)))))) (pss_one (ps_ret pe_bl)) pss_nil))))))))
      (pss_one (ps_ret pe_bl)), ?_⟩
    refine ⟨_, rfl, a, _, rfl, .inl hS, _, _, rfl, _, _, rfl, ?_⟩
    generalize hm : (if (if (6 : Int) < ((ns.map V.int).length : Int) then (6 : Int) else ((ns.map V.int).length : Int)) > 2 then (if (6 : Int) < ((ns.map V.int).length : Int) then (6 : Int) else ((ns.map V.int).length : Int)) else 2) = m
    have hm8 : 0 ≤ m ∧ m ≤ 8 := by
      rw [← hm]
      split <;> split at * <;> omega
    refine ⟨m, rfl, by omega, by omega, ?_⟩
    refine for_range (lo := 0) (n := m.toNat) (fun i σ H' => Same H H' ∧ ∃ x1 x2 x3 x4 x5 : Option V, σ = [some (.ref a), x1, x2, x3, x4, x5]) ?_ ?_ ?_
    · exact ⟨Same.refl H, none, none, none, none, none, rfl⟩
    · rintro i σ H1 hi ⟨s1, x1, x2, x3, x4, x5, rfl⟩
      refine ⟨_, rfl, _, rfl, a, ns, 0 + i, rfl, sqL_same hS s1, by omega, by omega, fun cell => ⟨cell, rfl, fun b H2 nb s2 B2 => ?_⟩⟩
      refine ⟨_, rfl, b, 4, 0, rfl, B2, by decide, by decide, fun p H3 zs l4 zn np e3 B3 k3 => ?_⟩
      refine ⟨_, rfl, _, rfl, b, 8, 0 + 11 + 4, rfl, B3, by decide, by decide, by decide, fun r H4 r0 r1 B4 k4 => ⟨_, _, rfl, rfl, ?_⟩⟩
      obtain ⟨j, rfl, hj⟩ := draw_at (n := 8) r0 r1 rfl
      refine ⟨b, j + 1, 0 + 11 + 4 + 1, ?_, B4, by decide, by omega, fun p2 H5 ys l6 yn np2 e5 B5 k5 => ?_⟩
      · show [V.ref b, V.int (1 + (j : Int))] = _
        rw [show (1 : Int) + (j : Int) = ((j + 1 : Nat) : Int) by omega]
      have N3 : Nm H3 p zs := ⟨e3, by omega, by omega, zn⟩
      have N5 := (N3.but B3 k4).but B4 k5
      have F5 : Nm H5 p2 ys := ⟨e5, by omega, by omega, yn⟩
      have nbH : H b = none := s1.free nb
      have s12 : Same H H2 := s1.trans s2
      have s5 : Same H H5 := same_but (same_but (same_but s12 nbH k3) nbH k4) nbH k5
      refine ⟨3, rfl, by decide, by decide, ?_⟩
      refine for_range (lo := 0) (n := 3) (fun t σ H' => But b H5 H' ∧ BoxAt H' b (100 + 3000 * t) ∧ ∃ x5 : Option V, σ = [some (.ref a), some (.int (0 + i)), some (.ref b), some (.ref p), some (.ref p2), x5]) ?_ ?_ ?_
      · exact ⟨But.refl _ _, B5.mono (by omega), _, rfl⟩
      · rintro t σ H6 ht ⟨k6, B6, x5, rfl⟩
        refine ⟨_, rfl, _, rfl, _, rfl, b, p2, p, 100 + 3000 * t, ys, zs, rfl, B6, by omega, F5.but B5 k6, N5.but B5 k6, fun H7 B7 k7 => ⟨_, rfl, iteF ⟨k6.trans k7, B7.mono (by omega), _, rfl⟩⟩⟩
      · rintro σ H6 ⟨k6, B6, x5, rfl⟩
        exact ⟨same_but s5 nbH k6, _, _, _, _, _, rfl⟩
    · rintro σ H1 ⟨s1, x1, x2, x3, x4, x5, rfl⟩
      exact q H1
end
end G
set_option Elab.async false
set_option linter.all false
set_option maxRecDepth 100000
set_option maxHeartbeats 2000000
/-! DA: what is said of the five classes, put together. -/
namespace G
open PySem PySem.Spec PyProof.Rows L2 NdefX StX He
section
variable {P : Program} {w : World} {K : PySem.W.Frag} {mg : Str → Option Value} {base : Heap} {c : Cs} {D : Addr}
def LeafHolds (P : Program) (w : World) (K : PySem.W.Frag) (mg : Str → Option Value) (base : Heap) (c : Cs) (C : Addr) (t : Nat) : Prop := ∃ (f : Addr) (fd : FuncData), Meth K C "holds" f ∧ Binds K fd ["self", "key", "value"] [] ∧ ∀ d, FnOk P w K mg base CX0 1 f fd ["self", "key", "value"] (spHolds c t d)
def TreeHolds (P : Program) (w : World) (K : PySem.W.Frag) (mg : Str → Option Value) (base : Heap) (c : Cs) (C : Addr) (t : Nat) : Prop := ∃ (f : Addr) (fd : FuncData), Meth K C "holds" f ∧ Binds K fd ["self", "key", "value"] [] ∧ ∀ k d, HoldsAll P w K mg base c k d → FnOk P w K mg base CX0 (k + 1) f fd ["self", "key", "value"] (spHolds c t (d + 1))
theorem holds_none {t : Nat} : ∀ vs H Q E, spHolds c t 0 vs H Q E → False := fun vs H Q E h => by
  obtain ⟨a, v, y, m, zs, kvs, _, _, _, hd, _⟩ := h
  have := m.depth_pos
  omega
theorem holds_all (O : CsOk K D c) (hbt : LeafHolds P w K mg base c c.bt 0) (hnm : LeafHolds P w K mg base c c.nm 1) (hnt : TreeHolds P w K mg base c c.nt 2) (hbo : TreeHolds P w K mg base c c.bo 3) (hei : TreeHolds P w K mg base c c.ei 4) : ∀ d, HoldsAll P w K mg base c (d + 1) d
  | 0 => fun m => by
    obtain ⟨f1, fd1, m1, b1, g1⟩ := hbt
    obtain ⟨f2, fd2, m2, b2, g2⟩ := hnm
    obtain ⟨f3, fd3, m3, b3, g3⟩ := hnt
    obtain ⟨f4, fd4, m4, b4, g4⟩ := hbo
    obtain ⟨f5, fd5, m5, b5, g5⟩ := hei
    cases m with
    | btw z lo hi => exact ⟨O.bt.cl, f1, fd1, _, m1, b1, g1 0⟩
    | nam zs => exact ⟨O.nm.cl, f2, fd2, _, m2, b2, g2 0⟩
    | neg m => exact ⟨O.nt.cl, f3, fd3, _, m3, b3, fn_none holds_none⟩
    | both m n => exact ⟨O.bo.cl, f4, fd4, _, m4, b4, fn_none holds_none⟩
    | eith m n => exact ⟨O.ei.cl, f5, fd5, _, m5, b5, fn_none holds_none⟩
  | d + 1 => fun m => by
    have HA := holds_all O hbt hnm hnt hbo hei d
    obtain ⟨f1, fd1, m1, b1, g1⟩ := hbt
    obtain ⟨f2, fd2, m2, b2, g2⟩ := hnm
    obtain ⟨f3, fd3, m3, b3, g3⟩ := hnt
    obtain ⟨f4, fd4, m4, b4, g4⟩ := hbo
    obtain ⟨f5, fd5, m5, b5, g5⟩ := hei
    cases m with
    | btw z lo hi => exact ⟨O.bt.cl, f1, fd1, _, m1, b1, (g1 _).mono (by omega)⟩
    | nam zs => exact ⟨O.nm.cl, f2, fd2, _, m2, b2, (g2 _).mono (by omega)⟩
    | neg m => exact ⟨O.nt.cl, f3, fd3, _, m3, b3, g3 _ _ HA⟩
    | both m n => exact ⟨O.bo.cl, f4, fd4, _, m4, b4, g4 _ _ HA⟩
    | eith m n => exact ⟨O.ei.cl, f5, fd5, _, m5, b5, g5 _ _ HA⟩
/-- a sign's method of the class at C -/
def OpOf (P : Program) (w : World) (K : PySem.W.Frag) (mg : Str → Option Value) (base : Heap) (C : Addr) (op : Operator) (sp : Sp) : Prop := ∃ (f : Addr) (fd : FuncData), OpO K C op f ∧ Binds K fd ["self", "other"] [] ∧ FnOk P w K mg base CX0 5 f fd ["self", "other"] sp
theorem polyO {C C2 : Addr} {op : Operator} {sp : Sp} (a : OpOf P w K mg base C op sp) (b : OpOf P w K mg base C2 op sp) (h : C = C2 ∨ PySem.W.subIn K (.ref C2) (.ref C) = some false) : PolyO P w K mg base 5 C C2 op sp := by
  obtain ⟨f, fd, o1, b1, g1⟩ := a
  obtain ⟨g, _, o2, _, _⟩ := b
  exact ⟨f, g, fd, _, o1, o2, h, b1, g1⟩
end
/-! ### facts -/
def condB (K : PySem.W.Frag) (D C : Addr) : Bool := eqO (PySem.W.findIn K (.ref C) "__class__") (some (some (.builtin "object.__class__"))) && (eqO (PySem.W.specialIn K (.builtin "object.__class__") "__get__") (some (some (.builtin "getset_descriptor.__get__"))) &&
  (decide (PySem.W.takesIn K (.builtin "object.__class__") = some true) && (decide (PySem.W.mroIn K C (.type "object") = some true) && decide (PySem.W.kitOne K (.ref C) (.ref D) = some true))))
theorem cond_ok {K : PySem.W.Frag} {D C : Addr} (h : condB K D C = true) (cl : Cls K C) (n1 : NoAttr K C "leaf_count") (n2 : NoAttr K C "height") (n3 : NoAttr K C "name_count") : CondC K D C := by
  obtain ⟨c1, h⟩ := ba h
  obtain ⟨c2, h⟩ := ba h
  obtain ⟨c3, h⟩ := ba h
  obtain ⟨c4, c5⟩ := ba h
  exact ⟨cl, n1, n2, n3, eqO_ok c1, eqO_ok c2, of_decide_eq_true c3, of_decide_eq_true c4, of_decide_eq_true c5⟩
def opB (K : PySem.W.Frag) (C : Addr) (op : Operator) (f : Addr) : Bool := PySem.W.selfFirst K C && (eqO (PySem.W.findIn K (.ref C) (PySem.dunder op.info.2)) (some (some (.ref f))) && (PySem.W.isFn K (.ref f) && eqO (PySem.W.findIn K (.ref C) (dunderR op.info.2)) (some none)))
theorem op_ok {K : PySem.W.Frag} {C f : Addr} {op : Operator} (h : opB K C op f = true) : OpO K C op f := by
  obtain ⟨c1, h⟩ := ba h
  obtain ⟨c2, h⟩ := ba h
  obtain ⟨c3, c4⟩ := ba h
  exact ⟨c1, eqO_ok c2, c3, eqO_ok c4⟩
def invB (K : PySem.W.Frag) (C f : Addr) : Bool := eqO (PySem.W.findIn K (.ref C) "__invert__") (some (some (.ref f))) && PySem.W.isFn K (.ref f)
def notSub (K : PySem.W.Frag) (C2 C : Addr) : Bool := decide (PySem.W.subIn K (.ref C2) (.ref C) = some false)
end G
set_option Elab.async false
set_option linter.all false
set_option maxRecDepth 100000
set_option maxHeartbeats 8000000
/-! EA: what the top has written. -/
namespace G
open PySem PySem.Spec PyProof.Rows L2 NdefX StX
theorem fx_binds {K : PySem.W.Frag} {x qual : Str} {st : Stmt} {f cda cc : Addr} {kV : Value} {fd : FuncData} {ps : List Str} (F : FunX K x qual st f cda cc kV fd)
    (h : ∀ (kV doc pm : Value) (an : Option Addr) (cdv ct : Value) (cc : Addr) (us : List Value), us.length = ps.length → bindArgs (PySem.W.ksFn x qual (defArgs st) (defBody st) (defScope st) .none kV doc pm an cdv ct cc) ⟨us, []⟩ = pure (ps.zip us)) : Binds K fd ps [] := by
  obtain ⟨oc, od, doc, pm, an, ct, osl, rfl, lk, hcd⟩ := F.ex
  intro s us _ hl
  rw [List.append_nil] at hl ⊢
  exact .of_eq (h _ _ _ _ _ _ _ us hl)
abbrev PX : Program := PySem.W.OpenLaw.prog PySem.Challenge.rw_listviews_k06_nested_conditions_called
def cks0 : List Ck := [
  fun K => He.Fa.ok K (.free "isinstance"),
  fun K => He.Fa.ok K (.free "int"),
  fun K => He.Fa.ok K (.free "bool"),
  fun K => He.Fa.ok K (.free "str"),
  fun K => He.Fa.ok K (.free "dict"),
  fun K => He.Fa.ok K (.free "len"),
  fun K => He.Fa.ok K (.free "all"),
  fun K => He.Fa.ok K (.free "list"),
  fun K => He.Fa.ok K (.free "range"),
  fun K => He.Fa.ok K (.free "min"),
  fun K => He.Fa.ok K (.free "max"),
  fun K => He.Fa.ok K (.free "repr"),
  fun K => He.Fa.ok K (.free "tuple"),
  fun K => He.Fa.ok K (.free "super"),
  fun K => He.Fa.ok K (.free "sum"),
  fun K => He.Fa.ok K (.str "LETTERS" "abcdefghijklmnopqrstuvwxyz"),
  fun K => He.Fa.ok K (.int "MOST_LETTERS" 8),
  fun K => He.Fa.ok K (.int "MOST_FIELDS" 6),
  fun K => He.Fa.ok K (.int "GREATEST" 999),
  fun K => He.Fa.ok K (.int "MOST_LEAVES" 6),
  fun K => He.Fa.ok K (.int "MOST_DEPTH" 5),
  fun K => He.Fa.ok K (.int "MOST_NAMES" 8),
  fun K => plainB K (He.ga K "is_integer") "is_integer",
  fun K => He.Fa.ok K (.glo "is_integer"),
  fun K => plainB K (He.ga K "is_name") "is_name",
  fun K => He.Fa.ok K (.glo "is_name"),
  fun K => plainB K (He.ga K "is_value") "is_value",
  fun K => He.Fa.ok K (.glo "is_value"),
  fun K => plainB K (He.ga K "need_integer") "need_integer",
  fun K => He.Fa.ok K (.glo "need_integer")]
def cks1 : List Ck := [
  fun K => plainB K (He.ga K "need_name") "need_name",
  fun K => He.Fa.ok K (.glo "need_name"),
  fun K => plainB K (He.ga K "need_value") "need_value",
  fun K => He.Fa.ok K (.glo "need_value"),
  fun K => plainB K (He.ga K "need_record") "need_record",
  fun K => He.Fa.ok K (.glo "need_record"),
  fun K => plainB K (He.ga K "need_condition") "need_condition",
  fun K => He.Fa.ok K (.glo "need_condition"),
  fun K => plainB K (He.ga K "sizes_of_pair") "sizes_of_pair",
  fun K => He.Fa.ok K (.glo "sizes_of_pair"),
  fun K => plainB K (He.ga K "_law_cell") "_law_cell",
  fun K => He.Fa.ok K (.glo "_law_cell"),
  fun K => plainB K (He.ga K "_law_box") "_law_box",
  fun K => He.Fa.ok K (.glo "_law_box"),
  fun K => plainB K (He.ga K "_law_take") "_law_take",
  fun K => He.Fa.ok K (.glo "_law_take"),
  fun K => plainB K (He.ga K "_law_mixed") "_law_mixed",
  fun K => He.Fa.ok K (.glo "_law_mixed"),
  fun K => plainB K (He.ga K "_law_names") "_law_names",
  fun K => He.Fa.ok K (.glo "_law_names"),
  fun K => plainB K (He.ga K "_law_number") "_law_number",
  fun K => He.Fa.ok K (.glo "_law_number"),
  fun K => plainB K (He.ga K "_law_value") "_law_value",
  fun K => He.Fa.ok K (.glo "_law_value"),
  fun K => plainB K (He.ga K "_law_named") "_law_named",
  fun K => He.Fa.ok K (.glo "_law_named"),
  fun K => plainB K (He.ga K "_law_leaf") "_law_leaf",
  fun K => He.Fa.ok K (.glo "_law_leaf"),
  fun K => plainB K (He.ga K "_law_model") "_law_model",
  fun K => He.Fa.ok K (.glo "_law_model")]
def cks2 : List Ck := [
  fun K => plainB K (He.ga K "_law_built") "_law_built",
  fun K => He.Fa.ok K (.glo "_law_built"),
  fun K => plainB K (He.ga K "_law_holds") "_law_holds",
  fun K => He.Fa.ok K (.glo "_law_holds"),
  fun K => plainB K (He.ga K "_law_leaves") "_law_leaves",
  fun K => He.Fa.ok K (.glo "_law_leaves"),
  fun K => plainB K (He.ga K "_law_depth") "_law_depth",
  fun K => He.Fa.ok K (.glo "_law_depth"),
  fun K => plainB K (He.ga K "_law_records") "_law_records",
  fun K => He.Fa.ok K (.glo "_law_records"),
  fun K => plainB K (He.ga K "_law_listed") "_law_listed",
  fun K => He.Fa.ok K (.glo "_law_listed"),
  fun K => plainB K (He.ga K "_law_capped") "_law_capped",
  fun K => He.Fa.ok K (.glo "_law_capped"),
  fun K => plainB K (He.ga K "_law_one_name") "_law_one_name",
  fun K => He.Fa.ok K (.glo "_law_one_name"),
  fun K => plainB K (He.ga K "_law_right") "_law_right",
  fun K => He.Fa.ok K (.glo "_law_right"),
  fun K => plainB K (He.ga K "law") "law",
  fun K => He.Fa.ok K (.glo "law"),
  fun K => He.Fa.ok K (.glo "Condition"),
  fun K => plainB K (He.ma K (He.ga K "Condition") "__init__") "Condition.__init__",
  fun K => He.Fa.ok K (.glo "Between"),
  fun K => He.Fa.ok K (.cls "Between"),
  fun K => He.Fa.ok K (.noat "Between" "leaf_count"),
  fun K => He.Fa.ok K (.noat "Between" "height"),
  fun K => He.Fa.ok K (.noat "Between" "name_count"),
  fun K => He.Fa.ok K (.noat "Between" "field_name"),
  fun K => He.Fa.ok K (.noat "Between" "lowest"),
  fun K => He.Fa.ok K (.noat "Between" "highest")]
def cks3 : List Ck := [
  fun K => He.Fa.ok K (.mkr "Between"),
  fun K => codB K (He.ma K (He.ga K "Between") "__init__") "Between.__init__" && (cloB K (He.ma K (He.ga K "Between") "__init__") (He.ga K "Between") && filB K (He.ma K (He.ga K "Between") "__init__") PX.main.file),
  fun K => supB K (He.ga K "Between") (He.ma K (He.ga K "Condition") "__init__"),
  fun K => condB K (He.ga K "Condition") (He.ga K "Between"),
  fun K => plainB K (He.ma K (He.ga K "Between") "__call__") "Between.__call__",
  fun K => calB K (He.ga K "Between"),
  fun K => plainB K (He.ma K (He.ga K "Between") "holds") "Between.holds",
  fun K => He.Fa.ok K (.meth "Between" "holds"),
  fun K => plainB K (He.ma K (He.ga K "Between") "leaves") "Between.leaves",
  fun K => He.Fa.ok K (.meth "Between" "leaves"),
  fun K => plainB K (He.ma K (He.ga K "Between") "depth") "Between.depth",
  fun K => He.Fa.ok K (.meth "Between" "depth"),
  fun K => plainB K (He.ma K (He.ga K "Between") "__and__") "Between.__and__",
  fun K => opB K (He.ga K "Between") .BitAnd (He.ma K (He.ga K "Between") "__and__"),
  fun K => plainB K (He.ma K (He.ga K "Between") "__or__") "Between.__or__",
  fun K => opB K (He.ga K "Between") .BitOr (He.ma K (He.ga K "Between") "__or__"),
  fun K => plainB K (He.ma K (He.ga K "Between") "__invert__") "Between.__invert__",
  fun K => invB K (He.ga K "Between") (He.ma K (He.ga K "Between") "__invert__"),
  fun K => He.Fa.ok K (.glo "Named"),
  fun K => He.Fa.ok K (.cls "Named"),
  fun K => He.Fa.ok K (.noat "Named" "leaf_count"),
  fun K => He.Fa.ok K (.noat "Named" "height"),
  fun K => He.Fa.ok K (.noat "Named" "name_count"),
  fun K => He.Fa.ok K (.noat "Named" "accepted_names"),
  fun K => He.Fa.ok K (.mkr "Named"),
  fun K => codB K (He.ma K (He.ga K "Named") "__init__") "Named.__init__" && (cloB K (He.ma K (He.ga K "Named") "__init__") (He.ga K "Named") && filB K (He.ma K (He.ga K "Named") "__init__") PX.main.file),
  fun K => supB K (He.ga K "Named") (He.ma K (He.ga K "Condition") "__init__"),
  fun K => condB K (He.ga K "Condition") (He.ga K "Named"),
  fun K => plainB K (He.ma K (He.ga K "Named") "__call__") "Named.__call__",
  fun K => calB K (He.ga K "Named")]
def cks4 : List Ck := [
  fun K => plainB K (He.ma K (He.ga K "Named") "holds") "Named.holds",
  fun K => He.Fa.ok K (.meth "Named" "holds"),
  fun K => plainB K (He.ma K (He.ga K "Named") "leaves") "Named.leaves",
  fun K => He.Fa.ok K (.meth "Named" "leaves"),
  fun K => plainB K (He.ma K (He.ga K "Named") "depth") "Named.depth",
  fun K => He.Fa.ok K (.meth "Named" "depth"),
  fun K => plainB K (He.ma K (He.ga K "Named") "__and__") "Named.__and__",
  fun K => opB K (He.ga K "Named") .BitAnd (He.ma K (He.ga K "Named") "__and__"),
  fun K => plainB K (He.ma K (He.ga K "Named") "__or__") "Named.__or__",
  fun K => opB K (He.ga K "Named") .BitOr (He.ma K (He.ga K "Named") "__or__"),
  fun K => plainB K (He.ma K (He.ga K "Named") "__invert__") "Named.__invert__",
  fun K => invB K (He.ga K "Named") (He.ma K (He.ga K "Named") "__invert__"),
  fun K => He.Fa.ok K (.glo "Not"),
  fun K => He.Fa.ok K (.cls "Not"),
  fun K => He.Fa.ok K (.noat "Not" "leaf_count"),
  fun K => He.Fa.ok K (.noat "Not" "height"),
  fun K => He.Fa.ok K (.noat "Not" "name_count"),
  fun K => He.Fa.ok K (.noat "Not" "inner"),
  fun K => He.Fa.ok K (.mkr "Not"),
  fun K => codB K (He.ma K (He.ga K "Not") "__init__") "Not.__init__" && (cloB K (He.ma K (He.ga K "Not") "__init__") (He.ga K "Not") && filB K (He.ma K (He.ga K "Not") "__init__") PX.main.file),
  fun K => supB K (He.ga K "Not") (He.ma K (He.ga K "Condition") "__init__"),
  fun K => condB K (He.ga K "Condition") (He.ga K "Not"),
  fun K => plainB K (He.ma K (He.ga K "Not") "__call__") "Not.__call__",
  fun K => calB K (He.ga K "Not"),
  fun K => plainB K (He.ma K (He.ga K "Not") "holds") "Not.holds",
  fun K => He.Fa.ok K (.meth "Not" "holds"),
  fun K => plainB K (He.ma K (He.ga K "Not") "leaves") "Not.leaves",
  fun K => He.Fa.ok K (.meth "Not" "leaves"),
  fun K => plainB K (He.ma K (He.ga K "Not") "depth") "Not.depth",
  fun K => He.Fa.ok K (.meth "Not" "depth")]
def cks5 : List Ck := [
  fun K => plainB K (He.ma K (He.ga K "Not") "__and__") "Not.__and__",
  fun K => opB K (He.ga K "Not") .BitAnd (He.ma K (He.ga K "Not") "__and__"),
  fun K => plainB K (He.ma K (He.ga K "Not") "__or__") "Not.__or__",
  fun K => opB K (He.ga K "Not") .BitOr (He.ma K (He.ga K "Not") "__or__"),
  fun K => plainB K (He.ma K (He.ga K "Not") "__invert__") "Not.__invert__",
  fun K => invB K (He.ga K "Not") (He.ma K (He.ga K "Not") "__invert__"),
  fun K => He.Fa.ok K (.glo "Both"),
  fun K => He.Fa.ok K (.cls "Both"),
  fun K => He.Fa.ok K (.noat "Both" "leaf_count"),
  fun K => He.Fa.ok K (.noat "Both" "height"),
  fun K => He.Fa.ok K (.noat "Both" "name_count"),
  fun K => He.Fa.ok K (.noat "Both" "first"),
  fun K => He.Fa.ok K (.noat "Both" "second"),
  fun K => He.Fa.ok K (.mkr "Both"),
  fun K => codB K (He.ma K (He.ga K "Both") "__init__") "Both.__init__" && (cloB K (He.ma K (He.ga K "Both") "__init__") (He.ga K "Both") && filB K (He.ma K (He.ga K "Both") "__init__") PX.main.file),
  fun K => supB K (He.ga K "Both") (He.ma K (He.ga K "Condition") "__init__"),
  fun K => condB K (He.ga K "Condition") (He.ga K "Both"),
  fun K => plainB K (He.ma K (He.ga K "Both") "__call__") "Both.__call__",
  fun K => calB K (He.ga K "Both"),
  fun K => plainB K (He.ma K (He.ga K "Both") "holds") "Both.holds",
  fun K => He.Fa.ok K (.meth "Both" "holds"),
  fun K => plainB K (He.ma K (He.ga K "Both") "leaves") "Both.leaves",
  fun K => He.Fa.ok K (.meth "Both" "leaves"),
  fun K => plainB K (He.ma K (He.ga K "Both") "depth") "Both.depth",
  fun K => He.Fa.ok K (.meth "Both" "depth"),
  fun K => plainB K (He.ma K (He.ga K "Both") "__and__") "Both.__and__",
  fun K => opB K (He.ga K "Both") .BitAnd (He.ma K (He.ga K "Both") "__and__"),
  fun K => plainB K (He.ma K (He.ga K "Both") "__or__") "Both.__or__",
  fun K => opB K (He.ga K "Both") .BitOr (He.ma K (He.ga K "Both") "__or__"),
  fun K => plainB K (He.ma K (He.ga K "Both") "__invert__") "Both.__invert__"]
def cks6 : List Ck := [
  fun K => invB K (He.ga K "Both") (He.ma K (He.ga K "Both") "__invert__"),
  fun K => He.Fa.ok K (.glo "Either"),
  fun K => He.Fa.ok K (.cls "Either"),
  fun K => He.Fa.ok K (.noat "Either" "leaf_count"),
  fun K => He.Fa.ok K (.noat "Either" "height"),
  fun K => He.Fa.ok K (.noat "Either" "name_count"),
  fun K => He.Fa.ok K (.noat "Either" "first"),
  fun K => He.Fa.ok K (.noat "Either" "second"),
  fun K => He.Fa.ok K (.mkr "Either"),
  fun K => codB K (He.ma K (He.ga K "Either") "__init__") "Either.__init__" && (cloB K (He.ma K (He.ga K "Either") "__init__") (He.ga K "Either") && filB K (He.ma K (He.ga K "Either") "__init__") PX.main.file),
  fun K => supB K (He.ga K "Either") (He.ma K (He.ga K "Condition") "__init__"),
  fun K => condB K (He.ga K "Condition") (He.ga K "Either"),
  fun K => plainB K (He.ma K (He.ga K "Either") "__call__") "Either.__call__",
  fun K => calB K (He.ga K "Either"),
  fun K => plainB K (He.ma K (He.ga K "Either") "holds") "Either.holds",
  fun K => He.Fa.ok K (.meth "Either" "holds"),
  fun K => plainB K (He.ma K (He.ga K "Either") "leaves") "Either.leaves",
  fun K => He.Fa.ok K (.meth "Either" "leaves"),
  fun K => plainB K (He.ma K (He.ga K "Either") "depth") "Either.depth",
  fun K => He.Fa.ok K (.meth "Either" "depth"),
  fun K => plainB K (He.ma K (He.ga K "Either") "__and__") "Either.__and__",
  fun K => opB K (He.ga K "Either") .BitAnd (He.ma K (He.ga K "Either") "__and__"),
  fun K => plainB K (He.ma K (He.ga K "Either") "__or__") "Either.__or__",
  fun K => opB K (He.ga K "Either") .BitOr (He.ma K (He.ga K "Either") "__or__"),
  fun K => plainB K (He.ma K (He.ga K "Either") "__invert__") "Either.__invert__",
  fun K => invB K (He.ga K "Either") (He.ma K (He.ga K "Either") "__invert__"),
  fun K => btwDefB K (kwV K (He.ma K (He.ga K "Between") "__init__")),
  fun K => notSub K (He.ga K "Between") (He.ga K "Named"),
  fun K => notSub K (He.ga K "Between") (He.ga K "Not"),
  fun K => notSub K (He.ga K "Between") (He.ga K "Both")]
def cks7 : List Ck := [
  fun K => notSub K (He.ga K "Between") (He.ga K "Either"),
  fun K => notSub K (He.ga K "Named") (He.ga K "Between"),
  fun K => notSub K (He.ga K "Named") (He.ga K "Not"),
  fun K => notSub K (He.ga K "Named") (He.ga K "Both"),
  fun K => notSub K (He.ga K "Named") (He.ga K "Either"),
  fun K => notSub K (He.ga K "Not") (He.ga K "Between"),
  fun K => notSub K (He.ga K "Not") (He.ga K "Named"),
  fun K => notSub K (He.ga K "Not") (He.ga K "Both"),
  fun K => notSub K (He.ga K "Not") (He.ga K "Either"),
  fun K => notSub K (He.ga K "Both") (He.ga K "Between"),
  fun K => notSub K (He.ga K "Both") (He.ga K "Named"),
  fun K => notSub K (He.ga K "Both") (He.ga K "Not"),
  fun K => notSub K (He.ga K "Both") (He.ga K "Either"),
  fun K => notSub K (He.ga K "Either") (He.ga K "Between"),
  fun K => notSub K (He.ga K "Either") (He.ga K "Named"),
  fun K => notSub K (He.ga K "Either") (He.ga K "Not"),
  fun K => notSub K (He.ga K "Either") (He.ga K "Both")]
abbrev cks : List Ck := cks0 ++ cks1 ++ cks2 ++ cks3 ++ cks4 ++ cks5 ++ cks6 ++ cks7
def fns0 : List Dp := [
  ⟨fun K => He.ga K "is_integer", "is_integer", "is_integer", sIsInt, []⟩,
  ⟨fun K => He.ga K "is_name", "is_name", "is_name", sIsName, []⟩,
  ⟨fun K => He.ga K "is_value", "is_value", "is_value", sIsValue, []⟩,
  ⟨fun K => He.ga K "need_integer", "need_integer", "need_integer", sNeedInt, []⟩,
  ⟨fun K => He.ga K "need_name", "need_name", "need_name", sNeedName, []⟩,
  ⟨fun K => He.ga K "need_value", "need_value", "need_value", sNeedValue, []⟩,
  ⟨fun K => He.ga K "need_record", "need_record", "need_record", sNeedRecord, []⟩,
  ⟨fun K => He.ga K "need_condition", "need_condition", "need_condition", sNeedCond, []⟩,
  ⟨fun K => He.ga K "sizes_of_pair", "sizes_of_pair", "sizes_of_pair", sSizes, []⟩,
  ⟨fun K => He.ga K "_law_cell", "_law_cell", "_law_cell", sCell, []⟩,
  ⟨fun K => He.ga K "_law_box", "_law_box", "_law_box", sBox, []⟩,
  ⟨fun K => He.ga K "_law_take", "_law_take", "_law_take", sTake, []⟩,
  ⟨fun K => He.ga K "_law_mixed", "_law_mixed", "_law_mixed", sMixed, []⟩,
  ⟨fun K => He.ga K "_law_names", "_law_names", "_law_names", sNames, []⟩,
  ⟨fun K => He.ga K "_law_number", "_law_number", "_law_number", sNumber, []⟩,
  ⟨fun K => He.ga K "_law_value", "_law_value", "_law_value", sValue, []⟩,
  ⟨fun K => He.ga K "_law_named", "_law_named", "_law_named", sNamed, []⟩,
  ⟨fun K => He.ga K "_law_leaf", "_law_leaf", "_law_leaf", sLeaf, []⟩,
  ⟨fun K => He.ga K "_law_model", "_law_model", "_law_model", sModel, []⟩,
  ⟨fun K => He.ga K "_law_built", "_law_built", "_law_built", sBuilt, []⟩]
def fns1 : List Dp := [
  ⟨fun K => He.ga K "_law_holds", "_law_holds", "_law_holds", sLHolds, []⟩,
  ⟨fun K => He.ga K "_law_leaves", "_law_leaves", "_law_leaves", sLLeaves, []⟩,
  ⟨fun K => He.ga K "_law_depth", "_law_depth", "_law_depth", sLDepth, []⟩,
  ⟨fun K => He.ga K "_law_records", "_law_records", "_law_records", sRecords, []⟩,
  ⟨fun K => He.ga K "_law_listed", "_law_listed", "_law_listed", sListed, []⟩,
  ⟨fun K => He.ga K "_law_capped", "_law_capped", "_law_capped", sCapped, []⟩,
  ⟨fun K => He.ga K "_law_one_name", "_law_one_name", "_law_one_name", sOneName, []⟩,
  ⟨fun K => He.ga K "_law_right", "_law_right", "_law_right", sRight, []⟩,
  ⟨fun K => He.ga K "law", "law", "law", sLaw, []⟩,
  ⟨fun K => He.ma K (He.ga K "Condition") "__init__", "__init__", "Condition.__init__", sCondInit, []⟩,
  ⟨fun K => He.ma K (He.ga K "Between") "__init__", "__init__", "Between.__init__", sBtwInit, ["__class__"]⟩,
  ⟨fun K => He.ma K (He.ga K "Between") "__call__", "__call__", "Between.__call__", (sBtw 4), []⟩,
  ⟨fun K => He.ma K (He.ga K "Between") "holds", "holds", "Between.holds", (sBtw 5), []⟩,
  ⟨fun K => He.ma K (He.ga K "Between") "leaves", "leaves", "Between.leaves", (sBtw 6), []⟩,
  ⟨fun K => He.ma K (He.ga K "Between") "depth", "depth", "Between.depth", (sBtw 7), []⟩,
  ⟨fun K => He.ma K (He.ga K "Between") "__and__", "__and__", "Between.__and__", (sBtw 8), []⟩,
  ⟨fun K => He.ma K (He.ga K "Between") "__or__", "__or__", "Between.__or__", (sBtw 9), []⟩,
  ⟨fun K => He.ma K (He.ga K "Between") "__invert__", "__invert__", "Between.__invert__", (sBtw 10), []⟩,
  ⟨fun K => He.ma K (He.ga K "Named") "__init__", "__init__", "Named.__init__", sNamInit, ["__class__"]⟩,
  ⟨fun K => He.ma K (He.ga K "Named") "__call__", "__call__", "Named.__call__", (sNam 2), []⟩]
def fns2 : List Dp := [
  ⟨fun K => He.ma K (He.ga K "Named") "holds", "holds", "Named.holds", (sNam 3), []⟩,
  ⟨fun K => He.ma K (He.ga K "Named") "leaves", "leaves", "Named.leaves", (sNam 4), []⟩,
  ⟨fun K => He.ma K (He.ga K "Named") "depth", "depth", "Named.depth", (sNam 5), []⟩,
  ⟨fun K => He.ma K (He.ga K "Named") "__and__", "__and__", "Named.__and__", (sNam 6), []⟩,
  ⟨fun K => He.ma K (He.ga K "Named") "__or__", "__or__", "Named.__or__", (sNam 7), []⟩,
  ⟨fun K => He.ma K (He.ga K "Named") "__invert__", "__invert__", "Named.__invert__", (sNam 8), []⟩,
  ⟨fun K => He.ma K (He.ga K "Not") "__init__", "__init__", "Not.__init__", (sNt 0), ["__class__"]⟩,
  ⟨fun K => He.ma K (He.ga K "Not") "__call__", "__call__", "Not.__call__", (sNt 2), []⟩,
  ⟨fun K => He.ma K (He.ga K "Not") "holds", "holds", "Not.holds", (sNt 3), []⟩,
  ⟨fun K => He.ma K (He.ga K "Not") "leaves", "leaves", "Not.leaves", (sNt 5), []⟩,
  ⟨fun K => He.ma K (He.ga K "Not") "depth", "depth", "Not.depth", (sNt 6), []⟩,
  ⟨fun K => He.ma K (He.ga K "Not") "__and__", "__and__", "Not.__and__", (sNt 7), []⟩,
  ⟨fun K => He.ma K (He.ga K "Not") "__or__", "__or__", "Not.__or__", (sNt 8), []⟩,
  ⟨fun K => He.ma K (He.ga K "Not") "__invert__", "__invert__", "Not.__invert__", (sNt 9), []⟩,
  ⟨fun K => He.ma K (He.ga K "Both") "__init__", "__init__", "Both.__init__", (sBo 0), ["__class__"]⟩,
  ⟨fun K => He.ma K (He.ga K "Both") "__call__", "__call__", "Both.__call__", (sBo 3), []⟩,
  ⟨fun K => He.ma K (He.ga K "Both") "holds", "holds", "Both.holds", (sBo 4), []⟩,
  ⟨fun K => He.ma K (He.ga K "Both") "leaves", "leaves", "Both.leaves", (sBo 5), []⟩,
  ⟨fun K => He.ma K (He.ga K "Both") "depth", "depth", "Both.depth", (sBo 6), []⟩,
  ⟨fun K => He.ma K (He.ga K "Both") "__and__", "__and__", "Both.__and__", (sBo 7), []⟩]
def fns3 : List Dp := [
  ⟨fun K => He.ma K (He.ga K "Both") "__or__", "__or__", "Both.__or__", (sBo 8), []⟩,
  ⟨fun K => He.ma K (He.ga K "Both") "__invert__", "__invert__", "Both.__invert__", (sBo 9), []⟩,
  ⟨fun K => He.ma K (He.ga K "Either") "__init__", "__init__", "Either.__init__", (sEi 0), ["__class__"]⟩,
  ⟨fun K => He.ma K (He.ga K "Either") "__call__", "__call__", "Either.__call__", (sEi 3), []⟩,
  ⟨fun K => He.ma K (He.ga K "Either") "holds", "holds", "Either.holds", (sEi 4), []⟩,
  ⟨fun K => He.ma K (He.ga K "Either") "leaves", "leaves", "Either.leaves", (sEi 5), []⟩,
  ⟨fun K => He.ma K (He.ga K "Either") "depth", "depth", "Either.depth", (sEi 6), []⟩,
  ⟨fun K => He.ma K (He.ga K "Either") "__and__", "__and__", "Either.__and__", (sEi 7), []⟩,
  ⟨fun K => He.ma K (He.ga K "Either") "__or__", "__or__", "Either.__or__", (sEi 8), []⟩,
  ⟨fun K => He.ma K (He.ga K "Either") "__invert__", "__invert__", "Either.__invert__", (sEi 9), []⟩]
abbrev fns : List Dp := fns0 ++ fns1 ++ fns2 ++ fns3
theorem facts {w : World} {K : PySem.W.Frag} {h : Heap} {mg : Str → Option Value} {fa : Addr} (X : K.In h) (G : h.Ns mainGlobals mg) (hfa : mg "law" = some (.ref fa)) (c : SaysP cks fns K) :
    ∃ fd : FuncData, (∀ (s : Shared) (u : Value), BindsTo s fd ⟨[u], []⟩ [("_law_script", u)]) ∧ ∀ base : Heap, K.In base → base.Ns mainGlobals mg → FnG PX w K mg base CX0 13 fa fd ["_law_script"] (spLaw K) := by
  have m_isinstance : mg "isinstance" = none := He.free_ok X G (c.ck 0 rfl)
  have m_int : mg "int" = none := He.free_ok X G (c.ck 1 rfl)
  have m_bool : mg "bool" = none := He.free_ok X G (c.ck 2 rfl)
  have m_str : mg "str" = none := He.free_ok X G (c.ck 3 rfl)
  have m_dict : mg "dict" = none := He.free_ok X G (c.ck 4 rfl)
  have m_len : mg "len" = none := He.free_ok X G (c.ck 5 rfl)
  have m_all : mg "all" = none := He.free_ok X G (c.ck 6 rfl)
  have m_list : mg "list" = none := He.free_ok X G (c.ck 7 rfl)
  have m_range : mg "range" = none := He.free_ok X G (c.ck 8 rfl)
  have m_min : mg "min" = none := He.free_ok X G (c.ck 9 rfl)
  have m_max : mg "max" = none := He.free_ok X G (c.ck 10 rfl)
  have m_repr : mg "repr" = none := He.free_ok X G (c.ck 11 rfl)
  have m_tuple : mg "tuple" = none := He.free_ok X G (c.ck 12 rfl)
  have m_super : mg "super" = none := He.free_ok X G (c.ck 13 rfl)
  have m_sum : mg "sum" = none := He.free_ok X G (c.ck 14 rfl)
  obtain ⟨tcLet, gcLet⟩ := He.str_ok X G (x := "LETTERS") (c.ck 15 rfl)
  obtain ⟨tcML, gcML⟩ := He.int_ok X G (x := "MOST_LETTERS") (c.ck 16 rfl)
  obtain ⟨tcMF, gcMF⟩ := He.int_ok X G (x := "MOST_FIELDS") (c.ck 17 rfl)
  obtain ⟨tcG, gcG⟩ := He.int_ok X G (x := "GREATEST") (c.ck 18 rfl)
  obtain ⟨tcL, gcL⟩ := He.int_ok X G (x := "MOST_LEAVES") (c.ck 19 rfl)
  obtain ⟨tcD, gcD⟩ := He.int_ok X G (x := "MOST_DEPTH") (c.ck 20 rfl)
  obtain ⟨tcN, gcN⟩ := He.int_ok X G (x := "MOST_NAMES") (c.ck 21 rfl)
  obtain ⟨fd1, F1⟩ : ∃ fd, Fun K "is_integer" "is_integer" sIsInt (He.ga K "is_integer") fd := fun_of (c.at_ 0 rfl) rfl (c.ck 22 rfl)
  have b1 := F1.binds (ps := ["value", "low", "high"]) fun _ _ _ _ _ _ us hl => match us, hl with | [_, _, _], _ => rfl
  have g1 : mg "is_integer" = some (.ref (He.ga K "is_integer")) := He.glo_ok X G (c.ck 23 rfl)
  have k1 := F1.kp
  obtain ⟨fd2, F2⟩ : ∃ fd, Fun K "is_name" "is_name" sIsName (He.ga K "is_name") fd := fun_of (c.at_ 1 rfl) rfl (c.ck 24 rfl)
  have b2 := F2.binds (ps := ["value"]) fun _ _ _ _ _ _ us hl => match us, hl with | [_], _ => rfl
  have g2 : mg "is_name" = some (.ref (He.ga K "is_name")) := He.glo_ok X G (c.ck 25 rfl)
  have k2 := F2.kp
  obtain ⟨fd3, F3⟩ : ∃ fd, Fun K "is_value" "is_value" sIsValue (He.ga K "is_value") fd := fun_of (c.at_ 2 rfl) rfl (c.ck 26 rfl)
  have b3 := F3.binds (ps := ["value"]) fun _ _ _ _ _ _ us hl => match us, hl with | [_], _ => rfl
  have g3 : mg "is_value" = some (.ref (He.ga K "is_value")) := He.glo_ok X G (c.ck 27 rfl)
  have k3 := F3.kp
  obtain ⟨fd4, F4⟩ : ∃ fd, Fun K "need_integer" "need_integer" sNeedInt (He.ga K "need_integer") fd := fun_of (c.at_ 3 rfl) rfl (c.ck 28 rfl)
  have b4 := F4.binds (ps := ["value", "low", "high"]) fun _ _ _ _ _ _ us hl => match us, hl with | [_, _, _], _ => rfl
  have g4 : mg "need_integer" = some (.ref (He.ga K "need_integer")) := He.glo_ok X G (c.ck 29 rfl)
  have k4 := F4.kp
  obtain ⟨fd5, F5⟩ : ∃ fd, Fun K "need_name" "need_name" sNeedName (He.ga K "need_name") fd := fun_of (c.at_ 4 rfl) rfl (c.ck 30 rfl)
  have b5 := F5.binds (ps := ["value"]) fun _ _ _ _ _ _ us hl => match us, hl with | [_], _ => rfl
  have g5 : mg "need_name" = some (.ref (He.ga K "need_name")) := He.glo_ok X G (c.ck 31 rfl)
  have k5 := F5.kp
  obtain ⟨fd6, F6⟩ : ∃ fd, Fun K "need_value" "need_value" sNeedValue (He.ga K "need_value") fd := fun_of (c.at_ 5 rfl) rfl (c.ck 32 rfl)
  have b6 := F6.binds (ps := ["value"]) fun _ _ _ _ _ _ us hl => match us, hl with | [_], _ => rfl
  have g6 : mg "need_value" = some (.ref (He.ga K "need_value")) := He.glo_ok X G (c.ck 33 rfl)
  have k6 := F6.kp
  obtain ⟨fd7, F7⟩ : ∃ fd, Fun K "need_record" "need_record" sNeedRecord (He.ga K "need_record") fd := fun_of (c.at_ 6 rfl) rfl (c.ck 34 rfl)
  have b7 := F7.binds (ps := ["key", "value"]) fun _ _ _ _ _ _ us hl => match us, hl with | [_, _], _ => rfl
  have g7 : mg "need_record" = some (.ref (He.ga K "need_record")) := He.glo_ok X G (c.ck 35 rfl)
  have k7 := F7.kp
  obtain ⟨fdnc, Fnc⟩ : ∃ fd, Fun K "need_condition" "need_condition" sNeedCond (He.ga K "need_condition") fd := fun_of (c.at_ 7 rfl) rfl (c.ck 36 rfl)
  have bnc := Fnc.binds (ps := ["value"]) fun _ _ _ _ _ _ us hl => match us, hl with | [_], _ => rfl
  have gnc : mg "need_condition" = some (.ref (He.ga K "need_condition")) := He.glo_ok X G (c.ck 37 rfl)
  have knc := Fnc.kp
  obtain ⟨fdsz, Fsz⟩ : ∃ fd, Fun K "sizes_of_pair" "sizes_of_pair" sSizes (He.ga K "sizes_of_pair") fd := fun_of (c.at_ 8 rfl) rfl (c.ck 38 rfl)
  have bsz := Fsz.binds (ps := ["one", "other"]) fun _ _ _ _ _ _ us hl => match us, hl with | [_, _], _ => rfl
  have gsz : mg "sizes_of_pair" = some (.ref (He.ga K "sizes_of_pair")) := He.glo_ok X G (c.ck 39 rfl)
  have ksz := Fsz.kp
  obtain ⟨fd8, F8⟩ : ∃ fd, Fun K "_law_cell" "_law_cell" sCell (He.ga K "_law_cell") fd := fun_of (c.at_ 9 rfl) rfl (c.ck 40 rfl)
  have b8 := F8.binds (ps := ["_law_script", "_law_k"]) fun _ _ _ _ _ _ us hl => match us, hl with | [_, _], _ => rfl
  have g8 : mg "_law_cell" = some (.ref (He.ga K "_law_cell")) := He.glo_ok X G (c.ck 41 rfl)
  have k8 := F8.kp
  obtain ⟨fd9, F9⟩ : ∃ fd, Fun K "_law_box" "_law_box" sBox (He.ga K "_law_box") fd := fun_of (c.at_ 10 rfl) rfl (c.ck 42 rfl)
  have b9 := F9.binds (ps := ["_law_cell_here"]) fun _ _ _ _ _ _ us hl => match us, hl with | [_], _ => rfl
  have g9 : mg "_law_box" = some (.ref (He.ga K "_law_box")) := He.glo_ok X G (c.ck 43 rfl)
  have k9 := F9.kp
  obtain ⟨fdA, FA⟩ : ∃ fd, Fun K "_law_take" "_law_take" sTake (He.ga K "_law_take") fd := fun_of (c.at_ 11 rfl) rfl (c.ck 44 rfl)
  have bA := FA.binds (ps := ["_law_box_here", "_law_many"]) fun _ _ _ _ _ _ us hl => match us, hl with | [_, _], _ => rfl
  have gA : mg "_law_take" = some (.ref (He.ga K "_law_take")) := He.glo_ok X G (c.ck 45 rfl)
  have kA := FA.kp
  obtain ⟨fdB, FB⟩ : ∃ fd, Fun K "_law_mixed" "_law_mixed" sMixed (He.ga K "_law_mixed") fd := fun_of (c.at_ 12 rfl) rfl (c.ck 46 rfl)
  have bB := FB.binds (ps := ["_law_box_here", "_law_some"]) fun _ _ _ _ _ _ us hl => match us, hl with | [_, _], _ => rfl
  have gB : mg "_law_mixed" = some (.ref (He.ga K "_law_mixed")) := He.glo_ok X G (c.ck 47 rfl)
  have kB := FB.kp
  obtain ⟨fdC, FC⟩ : ∃ fd, Fun K "_law_names" "_law_names" sNames (He.ga K "_law_names") fd := fun_of (c.at_ 13 rfl) rfl (c.ck 48 rfl)
  have bC := FC.binds (ps := ["_law_box_here", "_law_many"]) fun _ _ _ _ _ _ us hl => match us, hl with | [_, _], _ => rfl
  have gC : mg "_law_names" = some (.ref (He.ga K "_law_names")) := He.glo_ok X G (c.ck 49 rfl)
  have kC := FC.kp
  obtain ⟨fdD, FD⟩ : ∃ fd, Fun K "_law_number" "_law_number" sNumber (He.ga K "_law_number") fd := fun_of (c.at_ 14 rfl) rfl (c.ck 50 rfl)
  have bD := FD.binds (ps := ["_law_box_here"]) fun _ _ _ _ _ _ us hl => match us, hl with | [_], _ => rfl
  have gD : mg "_law_number" = some (.ref (He.ga K "_law_number")) := He.glo_ok X G (c.ck 51 rfl)
  have kD := FD.kp
  obtain ⟨fdE, FE⟩ : ∃ fd, Fun K "_law_value" "_law_value" sValue (He.ga K "_law_value") fd := fun_of (c.at_ 15 rfl) rfl (c.ck 52 rfl)
  have bE := FE.binds (ps := ["_law_box_here", "_law_fields"]) fun _ _ _ _ _ _ us hl => match us, hl with | [_, _], _ => rfl
  have gE : mg "_law_value" = some (.ref (He.ga K "_law_value")) := He.glo_ok X G (c.ck 53 rfl)
  have kE := FE.kp
  obtain ⟨fdF, FF⟩ : ∃ fd, Fun K "_law_named" "_law_named" sNamed (He.ga K "_law_named") fd := fun_of (c.at_ 16 rfl) rfl (c.ck 54 rfl)
  have bF := FF.binds (ps := ["_law_some"]) fun _ _ _ _ _ _ us hl => match us, hl with | [_], _ => rfl
  have gF : mg "_law_named" = some (.ref (He.ga K "_law_named")) := He.glo_ok X G (c.ck 55 rfl)
  have kF := FF.kp
  obtain ⟨fdlf, Flf⟩ : ∃ fd, Fun K "_law_leaf" "_law_leaf" sLeaf (He.ga K "_law_leaf") fd := fun_of (c.at_ 17 rfl) rfl (c.ck 56 rfl)
  have blf := Flf.binds (ps := ["_law_box_here", "_law_fields", "_law_names_here"]) fun _ _ _ _ _ _ us hl => match us, hl with | [_, _, _], _ => rfl
  have glf : mg "_law_leaf" = some (.ref (He.ga K "_law_leaf")) := He.glo_ok X G (c.ck 57 rfl)
  have klf := Flf.kp
  obtain ⟨fdmd, Fmd⟩ : ∃ fd, Fun K "_law_model" "_law_model" sModel (He.ga K "_law_model") fd := fun_of (c.at_ 18 rfl) rfl (c.ck 58 rfl)
  have bmd := Fmd.binds (ps := ["_law_box_here", "_law_fields", "_law_names_here", "_law_deep", "_law_most"]) fun _ _ _ _ _ _ us hl => match us, hl with | [_, _, _, _, _], _ => rfl
  have gmd : mg "_law_model" = some (.ref (He.ga K "_law_model")) := He.glo_ok X G (c.ck 59 rfl)
  have kmd := Fmd.kp
  obtain ⟨fdbu, Fbu⟩ : ∃ fd, Fun K "_law_built" "_law_built" sBuilt (He.ga K "_law_built") fd := fun_of (c.at_ 19 rfl) rfl (c.ck 60 rfl)
  have bbu := Fbu.binds (ps := ["_law_box_here", "_law_model_here"]) fun _ _ _ _ _ _ us hl => match us, hl with | [_, _], _ => rfl
  have gbu : mg "_law_built" = some (.ref (He.ga K "_law_built")) := He.glo_ok X G (c.ck 61 rfl)
  have kbu := Fbu.kp
  obtain ⟨fdho, Fho⟩ : ∃ fd, Fun K "_law_holds" "_law_holds" sLHolds (He.ga K "_law_holds") fd := fun_of (c.at_ 20 rfl) rfl (c.ck 62 rfl)
  have bho := Fho.binds (ps := ["_law_model_here", "_law_key", "_law_value_here"]) fun _ _ _ _ _ _ us hl => match us, hl with | [_, _, _], _ => rfl
  have gho : mg "_law_holds" = some (.ref (He.ga K "_law_holds")) := He.glo_ok X G (c.ck 63 rfl)
  have kho := Fho.kp
  obtain ⟨fdle, Fle⟩ : ∃ fd, Fun K "_law_leaves" "_law_leaves" sLLeaves (He.ga K "_law_leaves") fd := fun_of (c.at_ 21 rfl) rfl (c.ck 64 rfl)
  have ble := Fle.binds (ps := ["_law_model_here"]) fun _ _ _ _ _ _ us hl => match us, hl with | [_], _ => rfl
  have gle : mg "_law_leaves" = some (.ref (He.ga K "_law_leaves")) := He.glo_ok X G (c.ck 65 rfl)
  have kle := Fle.kp
  obtain ⟨fdde, Fde⟩ : ∃ fd, Fun K "_law_depth" "_law_depth" sLDepth (He.ga K "_law_depth") fd := fun_of (c.at_ 22 rfl) rfl (c.ck 66 rfl)
  have bde := Fde.binds (ps := ["_law_model_here"]) fun _ _ _ _ _ _ us hl => match us, hl with | [_], _ => rfl
  have gde : mg "_law_depth" = some (.ref (He.ga K "_law_depth")) := He.glo_ok X G (c.ck 67 rfl)
  have kde := Fde.kp
  obtain ⟨fdre, Fre⟩ : ∃ fd, Fun K "_law_records" "_law_records" sRecords (He.ga K "_law_records") fd := fun_of (c.at_ 23 rfl) rfl (c.ck 68 rfl)
  have bre := Fre.binds (ps := ["_law_box_here", "_law_fields", "_law_names_here", "_law_model_here", "_law_many"]) fun _ _ _ _ _ _ us hl => match us, hl with | [_, _, _, _, _], _ => rfl
  have gre : mg "_law_records" = some (.ref (He.ga K "_law_records")) := He.glo_ok X G (c.ck 69 rfl)
  have kre := Fre.kp
  obtain ⟨fdli, Fli⟩ : ∃ fd, Fun K "_law_listed" "_law_listed" sListed (He.ga K "_law_listed") fd := fun_of (c.at_ 24 rfl) rfl (c.ck 70 rfl)
  have bli := Fli.binds (ps := ["_law_box_here", "_law_names_here"]) fun _ _ _ _ _ _ us hl => match us, hl with | [_, _], _ => rfl
  have gli : mg "_law_listed" = some (.ref (He.ga K "_law_listed")) := He.glo_ok X G (c.ck 71 rfl)
  have kli := Fli.kp
  obtain ⟨fdca, Fca⟩ : ∃ fd, Fun K "_law_capped" "_law_capped" sCapped (He.ga K "_law_capped") fd := fun_of (c.at_ 25 rfl) rfl (c.ck 72 rfl)
  have bca := Fca.binds (ps := ["_law_model_here"]) fun _ _ _ _ _ _ us hl => match us, hl with | [_], _ => rfl
  have gca : mg "_law_capped" = some (.ref (He.ga K "_law_capped")) := He.glo_ok X G (c.ck 73 rfl)
  have kca := Fca.kp
  obtain ⟨fdon, Fon⟩ : ∃ fd, Fun K "_law_one_name" "_law_one_name" sOneName (He.ga K "_law_one_name") fd := fun_of (c.at_ 26 rfl) rfl (c.ck 74 rfl)
  have bon := Fon.binds (ps := ["_law_model_here"]) fun _ _ _ _ _ _ us hl => match us, hl with | [_], _ => rfl
  have gon : mg "_law_one_name" = some (.ref (He.ga K "_law_one_name")) := He.glo_ok X G (c.ck 75 rfl)
  have kon := Fon.kp
  obtain ⟨fdri, Fri⟩ : ∃ fd, Fun K "_law_right" "_law_right" sRight (He.ga K "_law_right") fd := fun_of (c.at_ 27 rfl) rfl (c.ck 76 rfl)
  have bri := Fri.binds (ps := ["_law_box_here", "_law_fields", "_law_names_here"]) fun _ _ _ _ _ _ us hl => match us, hl with | [_, _, _], _ => rfl
  have gri : mg "_law_right" = some (.ref (He.ga K "_law_right")) := He.glo_ok X G (c.ck 77 rfl)
  have kri := Fri.kp
  obtain ⟨fdL, FL⟩ : ∃ fd, Fun K "law" "law" sLaw (He.ga K "law") fd := fun_of (c.at_ 28 rfl) rfl (c.ck 78 rfl)
  have bL := FL.binds (ps := ["_law_script"]) fun _ _ _ _ _ _ us hl => match us, hl with | [_], _ => rfl
  have gL : mg "law" = some (.ref (He.ga K "law")) := He.glo_ok X G (c.ck 79 rfl)
  have kL := FL.kp
  have gcond : mg "Condition" = some (.ref (He.ga K "Condition")) := He.glo_ok X G (c.ck 80 rfl)
  obtain ⟨fdci, Fci⟩ : ∃ fd, Fun K "__init__" "Condition.__init__" sCondInit (He.ma K (He.ga K "Condition") "__init__") fd := fun_of (c.at_ 29 rfl) rfl (c.ck 81 rfl)
  have bci := Fci.binds (ps := ["self", "leaf_count", "height", "name_count"]) fun _ _ _ _ _ _ us hl => match us, hl with | [_, _, _, _], _ => rfl
  have gbt : mg "Between" = some (.ref (He.ga K "Between")) := He.glo_ok X G (c.ck 82 rfl)
  have cbt : Cls K (He.ga K "Between") := He.cls_ok (c.ck 83 rfl)
  have nbt_leaf_count : NoAttr K (He.ga K "Between") "leaf_count" := He.noat_ok (c.ck 84 rfl)
  have nbt_height : NoAttr K (He.ga K "Between") "height" := He.noat_ok (c.ck 85 rfl)
  have nbt_name_count : NoAttr K (He.ga K "Between") "name_count" := He.noat_ok (c.ck 86 rfl)
  have nbt_field_name : NoAttr K (He.ga K "Between") "field_name" := He.noat_ok (c.ck 87 rfl)
  have nbt_lowest : NoAttr K (He.ga K "Between") "lowest" := He.noat_ok (c.ck 88 rfl)
  have nbt_highest : NoAttr K (He.ga K "Between") "highest" := He.noat_ok (c.ck 89 rfl)
  have Mbt : Mk K (He.ga K "Between") (He.ma K (He.ga K "Between") "__init__") := He.mkr_ok (c.ck 90 rfl)
  have Dbt : ClsDef PX K ⟨fun K => He.ma K (He.ga K "Between") "__init__", "__init__", "Between.__init__", sBtwInit, ["__class__"]⟩ (He.ma K (He.ga K "Between") "__init__") (He.ga K "Between") := clsdef_of (c.at_ 30 rfl) rfl (c.ck 91 rfl)
  obtain ⟨cdabt, ccbt, fdbt, FXbt, Sbt⟩ := funx_of Dbt (x := "self") ⟨_, rfl, rfl⟩ (c.ck 92 rfl) (show (PX.main.scope.names.lookup ("super" : Str)).isSome = false from rfl)
  have ccbt : CondC K (He.ga K "Condition") (He.ga K "Between") := cond_ok (c.ck 93 rfl) cbt nbt_leaf_count nbt_height nbt_name_count
  obtain ⟨fdbtca, Fbtca⟩ : ∃ fd, Fun K "__call__" "Between.__call__" (sBtw 4) (He.ma K (He.ga K "Between") "__call__") fd := fun_of (c.at_ 31 rfl) rfl (c.ck 94 rfl)
  have bbtca := Fbtca.binds (ps := ["self", "key", "value"]) fun _ _ _ _ _ _ us hl => match us, hl with | [_, _, _], _ => rfl
  have Mbtca : CallO K (He.ga K "Between") (He.ma K (He.ga K "Between") "__call__") := cal_ok (c.ck 95 rfl)
  obtain ⟨fdbtho, Fbtho⟩ : ∃ fd, Fun K "holds" "Between.holds" (sBtw 5) (He.ma K (He.ga K "Between") "holds") fd := fun_of (c.at_ 32 rfl) rfl (c.ck 96 rfl)
  have bbtho := Fbtho.binds (ps := ["self", "key", "value"]) fun _ _ _ _ _ _ us hl => match us, hl with | [_, _, _], _ => rfl
  have Mbtho : Meth K (He.ga K "Between") "holds" (He.ma K (He.ga K "Between") "holds") := He.meth_ok (c.ck 97 rfl)
  obtain ⟨fdbtle, Fbtle⟩ : ∃ fd, Fun K "leaves" "Between.leaves" (sBtw 6) (He.ma K (He.ga K "Between") "leaves") fd := fun_of (c.at_ 33 rfl) rfl (c.ck 98 rfl)
  have bbtle := Fbtle.binds (ps := ["self"]) fun _ _ _ _ _ _ us hl => match us, hl with | [_], _ => rfl
  have Mbtle : Meth K (He.ga K "Between") "leaves" (He.ma K (He.ga K "Between") "leaves") := He.meth_ok (c.ck 99 rfl)
  obtain ⟨fdbtde, Fbtde⟩ : ∃ fd, Fun K "depth" "Between.depth" (sBtw 7) (He.ma K (He.ga K "Between") "depth") fd := fun_of (c.at_ 34 rfl) rfl (c.ck 100 rfl)
  have bbtde := Fbtde.binds (ps := ["self"]) fun _ _ _ _ _ _ us hl => match us, hl with | [_], _ => rfl
  have Mbtde : Meth K (He.ga K "Between") "depth" (He.ma K (He.ga K "Between") "depth") := He.meth_ok (c.ck 101 rfl)
  obtain ⟨fdbtan, Fbtan⟩ : ∃ fd, Fun K "__and__" "Between.__and__" (sBtw 8) (He.ma K (He.ga K "Between") "__and__") fd := fun_of (c.at_ 35 rfl) rfl (c.ck 102 rfl)
  have bbtan := Fbtan.binds (ps := ["self", "other"]) fun _ _ _ _ _ _ us hl => match us, hl with | [_, _], _ => rfl
  have obtan : OpO K (He.ga K "Between") .BitAnd (He.ma K (He.ga K "Between") "__and__") := op_ok (c.ck 103 rfl)
  obtain ⟨fdbtorr, Fbtorr⟩ : ∃ fd, Fun K "__or__" "Between.__or__" (sBtw 9) (He.ma K (He.ga K "Between") "__or__") fd := fun_of (c.at_ 36 rfl) rfl (c.ck 104 rfl)
  have bbtorr := Fbtorr.binds (ps := ["self", "other"]) fun _ _ _ _ _ _ us hl => match us, hl with | [_, _], _ => rfl
  have obtorr : OpO K (He.ga K "Between") .BitOr (He.ma K (He.ga K "Between") "__or__") := op_ok (c.ck 105 rfl)
  obtain ⟨fdbtiv, Fbtiv⟩ : ∃ fd, Fun K "__invert__" "Between.__invert__" (sBtw 10) (He.ma K (He.ga K "Between") "__invert__") fd := fun_of (c.at_ 37 rfl) rfl (c.ck 106 rfl)
  have bbtiv := Fbtiv.binds (ps := ["self"]) fun _ _ _ _ _ _ us hl => match us, hl with | [_], _ => rfl
  obtain ⟨vibt, vfbt⟩ := He.ba (c.ck 107 rfl : invB K (He.ga K "Between") (He.ma K (He.ga K "Between") "__invert__") = true)
  have gnm : mg "Named" = some (.ref (He.ga K "Named")) := He.glo_ok X G (c.ck 108 rfl)
  have cnm : Cls K (He.ga K "Named") := He.cls_ok (c.ck 109 rfl)
  have nnm_leaf_count : NoAttr K (He.ga K "Named") "leaf_count" := He.noat_ok (c.ck 110 rfl)
  have nnm_height : NoAttr K (He.ga K "Named") "height" := He.noat_ok (c.ck 111 rfl)
  have nnm_name_count : NoAttr K (He.ga K "Named") "name_count" := He.noat_ok (c.ck 112 rfl)
  have nnm_accepted_names : NoAttr K (He.ga K "Named") "accepted_names" := He.noat_ok (c.ck 113 rfl)
  have Mnm : Mk K (He.ga K "Named") (He.ma K (He.ga K "Named") "__init__") := He.mkr_ok (c.ck 114 rfl)
  have Dnm : ClsDef PX K ⟨fun K => He.ma K (He.ga K "Named") "__init__", "__init__", "Named.__init__", sNamInit, ["__class__"]⟩ (He.ma K (He.ga K "Named") "__init__") (He.ga K "Named") := clsdef_of (c.at_ 38 rfl) rfl (c.ck 115 rfl)
  obtain ⟨cdanm, ccnm, fdnm, FXnm, Snm⟩ := funx_of Dnm (x := "self") ⟨_, rfl, rfl⟩ (c.ck 116 rfl) (show (PX.main.scope.names.lookup ("super" : Str)).isSome = false from rfl)
  have ccnm : CondC K (He.ga K "Condition") (He.ga K "Named") := cond_ok (c.ck 117 rfl) cnm nnm_leaf_count nnm_height nnm_name_count
  obtain ⟨fdnmca, Fnmca⟩ : ∃ fd, Fun K "__call__" "Named.__call__" (sNam 2) (He.ma K (He.ga K "Named") "__call__") fd := fun_of (c.at_ 39 rfl) rfl (c.ck 118 rfl)
  have bnmca := Fnmca.binds (ps := ["self", "key", "value"]) fun _ _ _ _ _ _ us hl => match us, hl with | [_, _, _], _ => rfl
  have Mnmca : CallO K (He.ga K "Named") (He.ma K (He.ga K "Named") "__call__") := cal_ok (c.ck 119 rfl)
  obtain ⟨fdnmho, Fnmho⟩ : ∃ fd, Fun K "holds" "Named.holds" (sNam 3) (He.ma K (He.ga K "Named") "holds") fd := fun_of (c.at_ 40 rfl) rfl (c.ck 120 rfl)
  have bnmho := Fnmho.binds (ps := ["self", "key", "value"]) fun _ _ _ _ _ _ us hl => match us, hl with | [_, _, _], _ => rfl
  have Mnmho : Meth K (He.ga K "Named") "holds" (He.ma K (He.ga K "Named") "holds") := He.meth_ok (c.ck 121 rfl)
  obtain ⟨fdnmle, Fnmle⟩ : ∃ fd, Fun K "leaves" "Named.leaves" (sNam 4) (He.ma K (He.ga K "Named") "leaves") fd := fun_of (c.at_ 41 rfl) rfl (c.ck 122 rfl)
  have bnmle := Fnmle.binds (ps := ["self"]) fun _ _ _ _ _ _ us hl => match us, hl with | [_], _ => rfl
  have Mnmle : Meth K (He.ga K "Named") "leaves" (He.ma K (He.ga K "Named") "leaves") := He.meth_ok (c.ck 123 rfl)
  obtain ⟨fdnmde, Fnmde⟩ : ∃ fd, Fun K "depth" "Named.depth" (sNam 5) (He.ma K (He.ga K "Named") "depth") fd := fun_of (c.at_ 42 rfl) rfl (c.ck 124 rfl)
  have bnmde := Fnmde.binds (ps := ["self"]) fun _ _ _ _ _ _ us hl => match us, hl with | [_], _ => rfl
  have Mnmde : Meth K (He.ga K "Named") "depth" (He.ma K (He.ga K "Named") "depth") := He.meth_ok (c.ck 125 rfl)
  obtain ⟨fdnman, Fnman⟩ : ∃ fd, Fun K "__and__" "Named.__and__" (sNam 6) (He.ma K (He.ga K "Named") "__and__") fd := fun_of (c.at_ 43 rfl) rfl (c.ck 126 rfl)
  have bnman := Fnman.binds (ps := ["self", "other"]) fun _ _ _ _ _ _ us hl => match us, hl with | [_, _], _ => rfl
  have onman : OpO K (He.ga K "Named") .BitAnd (He.ma K (He.ga K "Named") "__and__") := op_ok (c.ck 127 rfl)
  obtain ⟨fdnmorr, Fnmorr⟩ : ∃ fd, Fun K "__or__" "Named.__or__" (sNam 7) (He.ma K (He.ga K "Named") "__or__") fd := fun_of (c.at_ 44 rfl) rfl (c.ck 128 rfl)
  have bnmorr := Fnmorr.binds (ps := ["self", "other"]) fun _ _ _ _ _ _ us hl => match us, hl with | [_, _], _ => rfl
  have onmorr : OpO K (He.ga K "Named") .BitOr (He.ma K (He.ga K "Named") "__or__") := op_ok (c.ck 129 rfl)
  obtain ⟨fdnmiv, Fnmiv⟩ : ∃ fd, Fun K "__invert__" "Named.__invert__" (sNam 8) (He.ma K (He.ga K "Named") "__invert__") fd := fun_of (c.at_ 45 rfl) rfl (c.ck 130 rfl)
  have bnmiv := Fnmiv.binds (ps := ["self"]) fun _ _ _ _ _ _ us hl => match us, hl with | [_], _ => rfl
  obtain ⟨vinm, vfnm⟩ := He.ba (c.ck 131 rfl : invB K (He.ga K "Named") (He.ma K (He.ga K "Named") "__invert__") = true)
  have gnt : mg "Not" = some (.ref (He.ga K "Not")) := He.glo_ok X G (c.ck 132 rfl)
  have cnt : Cls K (He.ga K "Not") := He.cls_ok (c.ck 133 rfl)
  have nnt_leaf_count : NoAttr K (He.ga K "Not") "leaf_count" := He.noat_ok (c.ck 134 rfl)
  have nnt_height : NoAttr K (He.ga K "Not") "height" := He.noat_ok (c.ck 135 rfl)
  have nnt_name_count : NoAttr K (He.ga K "Not") "name_count" := He.noat_ok (c.ck 136 rfl)
  have nnt_inner : NoAttr K (He.ga K "Not") "inner" := He.noat_ok (c.ck 137 rfl)
  have Mnt : Mk K (He.ga K "Not") (He.ma K (He.ga K "Not") "__init__") := He.mkr_ok (c.ck 138 rfl)
  have Dnt : ClsDef PX K ⟨fun K => He.ma K (He.ga K "Not") "__init__", "__init__", "Not.__init__", (sNt 0), ["__class__"]⟩ (He.ma K (He.ga K "Not") "__init__") (He.ga K "Not") := clsdef_of (c.at_ 46 rfl) rfl (c.ck 139 rfl)
  obtain ⟨cdant, ccnt, fdnt, FXnt, Snt⟩ := funx_of Dnt (x := "self") ⟨_, rfl, rfl⟩ (c.ck 140 rfl) (show (PX.main.scope.names.lookup ("super" : Str)).isSome = false from rfl)
  have ccnt : CondC K (He.ga K "Condition") (He.ga K "Not") := cond_ok (c.ck 141 rfl) cnt nnt_leaf_count nnt_height nnt_name_count
  obtain ⟨fdntca, Fntca⟩ : ∃ fd, Fun K "__call__" "Not.__call__" (sNt 2) (He.ma K (He.ga K "Not") "__call__") fd := fun_of (c.at_ 47 rfl) rfl (c.ck 142 rfl)
  have bntca := Fntca.binds (ps := ["self", "key", "value"]) fun _ _ _ _ _ _ us hl => match us, hl with | [_, _, _], _ => rfl
  have Mntca : CallO K (He.ga K "Not") (He.ma K (He.ga K "Not") "__call__") := cal_ok (c.ck 143 rfl)
  obtain ⟨fdntho, Fntho⟩ : ∃ fd, Fun K "holds" "Not.holds" (sNt 3) (He.ma K (He.ga K "Not") "holds") fd := fun_of (c.at_ 48 rfl) rfl (c.ck 144 rfl)
  have bntho := Fntho.binds (ps := ["self", "key", "value"]) fun _ _ _ _ _ _ us hl => match us, hl with | [_, _, _], _ => rfl
  have Mntho : Meth K (He.ga K "Not") "holds" (He.ma K (He.ga K "Not") "holds") := He.meth_ok (c.ck 145 rfl)
  obtain ⟨fdntle, Fntle⟩ : ∃ fd, Fun K "leaves" "Not.leaves" (sNt 5) (He.ma K (He.ga K "Not") "leaves") fd := fun_of (c.at_ 49 rfl) rfl (c.ck 146 rfl)
  have bntle := Fntle.binds (ps := ["self"]) fun _ _ _ _ _ _ us hl => match us, hl with | [_], _ => rfl
  have Mntle : Meth K (He.ga K "Not") "leaves" (He.ma K (He.ga K "Not") "leaves") := He.meth_ok (c.ck 147 rfl)
  obtain ⟨fdntde, Fntde⟩ : ∃ fd, Fun K "depth" "Not.depth" (sNt 6) (He.ma K (He.ga K "Not") "depth") fd := fun_of (c.at_ 50 rfl) rfl (c.ck 148 rfl)
  have bntde := Fntde.binds (ps := ["self"]) fun _ _ _ _ _ _ us hl => match us, hl with | [_], _ => rfl
  have Mntde : Meth K (He.ga K "Not") "depth" (He.ma K (He.ga K "Not") "depth") := He.meth_ok (c.ck 149 rfl)
  obtain ⟨fdntan, Fntan⟩ : ∃ fd, Fun K "__and__" "Not.__and__" (sNt 7) (He.ma K (He.ga K "Not") "__and__") fd := fun_of (c.at_ 51 rfl) rfl (c.ck 150 rfl)
  have bntan := Fntan.binds (ps := ["self", "other"]) fun _ _ _ _ _ _ us hl => match us, hl with | [_, _], _ => rfl
  have ontan : OpO K (He.ga K "Not") .BitAnd (He.ma K (He.ga K "Not") "__and__") := op_ok (c.ck 151 rfl)
  obtain ⟨fdntorr, Fntorr⟩ : ∃ fd, Fun K "__or__" "Not.__or__" (sNt 8) (He.ma K (He.ga K "Not") "__or__") fd := fun_of (c.at_ 52 rfl) rfl (c.ck 152 rfl)
  have bntorr := Fntorr.binds (ps := ["self", "other"]) fun _ _ _ _ _ _ us hl => match us, hl with | [_, _], _ => rfl
  have ontorr : OpO K (He.ga K "Not") .BitOr (He.ma K (He.ga K "Not") "__or__") := op_ok (c.ck 153 rfl)
  obtain ⟨fdntiv, Fntiv⟩ : ∃ fd, Fun K "__invert__" "Not.__invert__" (sNt 9) (He.ma K (He.ga K "Not") "__invert__") fd := fun_of (c.at_ 53 rfl) rfl (c.ck 154 rfl)
  have bntiv := Fntiv.binds (ps := ["self"]) fun _ _ _ _ _ _ us hl => match us, hl with | [_], _ => rfl
  obtain ⟨vint, vfnt⟩ := He.ba (c.ck 155 rfl : invB K (He.ga K "Not") (He.ma K (He.ga K "Not") "__invert__") = true)
  have gbo : mg "Both" = some (.ref (He.ga K "Both")) := He.glo_ok X G (c.ck 156 rfl)
  have cbo : Cls K (He.ga K "Both") := He.cls_ok (c.ck 157 rfl)
  have nbo_leaf_count : NoAttr K (He.ga K "Both") "leaf_count" := He.noat_ok (c.ck 158 rfl)
  have nbo_height : NoAttr K (He.ga K "Both") "height" := He.noat_ok (c.ck 159 rfl)
  have nbo_name_count : NoAttr K (He.ga K "Both") "name_count" := He.noat_ok (c.ck 160 rfl)
  have nbo_first : NoAttr K (He.ga K "Both") "first" := He.noat_ok (c.ck 161 rfl)
  have nbo_second : NoAttr K (He.ga K "Both") "second" := He.noat_ok (c.ck 162 rfl)
  have Mbo : Mk K (He.ga K "Both") (He.ma K (He.ga K "Both") "__init__") := He.mkr_ok (c.ck 163 rfl)
  have Dbo : ClsDef PX K ⟨fun K => He.ma K (He.ga K "Both") "__init__", "__init__", "Both.__init__", (sBo 0), ["__class__"]⟩ (He.ma K (He.ga K "Both") "__init__") (He.ga K "Both") := clsdef_of (c.at_ 54 rfl) rfl (c.ck 164 rfl)
  obtain ⟨cdabo, ccbo, fdbo, FXbo, Sbo⟩ := funx_of Dbo (x := "self") ⟨_, rfl, rfl⟩ (c.ck 165 rfl) (show (PX.main.scope.names.lookup ("super" : Str)).isSome = false from rfl)
  have ccbo : CondC K (He.ga K "Condition") (He.ga K "Both") := cond_ok (c.ck 166 rfl) cbo nbo_leaf_count nbo_height nbo_name_count
  obtain ⟨fdboca, Fboca⟩ : ∃ fd, Fun K "__call__" "Both.__call__" (sBo 3) (He.ma K (He.ga K "Both") "__call__") fd := fun_of (c.at_ 55 rfl) rfl (c.ck 167 rfl)
  have bboca := Fboca.binds (ps := ["self", "key", "value"]) fun _ _ _ _ _ _ us hl => match us, hl with | [_, _, _], _ => rfl
  have Mboca : CallO K (He.ga K "Both") (He.ma K (He.ga K "Both") "__call__") := cal_ok (c.ck 168 rfl)
  obtain ⟨fdboho, Fboho⟩ : ∃ fd, Fun K "holds" "Both.holds" (sBo 4) (He.ma K (He.ga K "Both") "holds") fd := fun_of (c.at_ 56 rfl) rfl (c.ck 169 rfl)
  have bboho := Fboho.binds (ps := ["self", "key", "value"]) fun _ _ _ _ _ _ us hl => match us, hl with | [_, _, _], _ => rfl
  have Mboho : Meth K (He.ga K "Both") "holds" (He.ma K (He.ga K "Both") "holds") := He.meth_ok (c.ck 170 rfl)
  obtain ⟨fdbole, Fbole⟩ : ∃ fd, Fun K "leaves" "Both.leaves" (sBo 5) (He.ma K (He.ga K "Both") "leaves") fd := fun_of (c.at_ 57 rfl) rfl (c.ck 171 rfl)
  have bbole := Fbole.binds (ps := ["self"]) fun _ _ _ _ _ _ us hl => match us, hl with | [_], _ => rfl
  have Mbole : Meth K (He.ga K "Both") "leaves" (He.ma K (He.ga K "Both") "leaves") := He.meth_ok (c.ck 172 rfl)
  obtain ⟨fdbode, Fbode⟩ : ∃ fd, Fun K "depth" "Both.depth" (sBo 6) (He.ma K (He.ga K "Both") "depth") fd := fun_of (c.at_ 58 rfl) rfl (c.ck 173 rfl)
  have bbode := Fbode.binds (ps := ["self"]) fun _ _ _ _ _ _ us hl => match us, hl with | [_], _ => rfl
  have Mbode : Meth K (He.ga K "Both") "depth" (He.ma K (He.ga K "Both") "depth") := He.meth_ok (c.ck 174 rfl)
  obtain ⟨fdboan, Fboan⟩ : ∃ fd, Fun K "__and__" "Both.__and__" (sBo 7) (He.ma K (He.ga K "Both") "__and__") fd := fun_of (c.at_ 59 rfl) rfl (c.ck 175 rfl)
  have bboan := Fboan.binds (ps := ["self", "other"]) fun _ _ _ _ _ _ us hl => match us, hl with | [_, _], _ => rfl
  have oboan : OpO K (He.ga K "Both") .BitAnd (He.ma K (He.ga K "Both") "__and__") := op_ok (c.ck 176 rfl)
  obtain ⟨fdboorr, Fboorr⟩ : ∃ fd, Fun K "__or__" "Both.__or__" (sBo 8) (He.ma K (He.ga K "Both") "__or__") fd := fun_of (c.at_ 60 rfl) rfl (c.ck 177 rfl)
  have bboorr := Fboorr.binds (ps := ["self", "other"]) fun _ _ _ _ _ _ us hl => match us, hl with | [_, _], _ => rfl
  have oboorr : OpO K (He.ga K "Both") .BitOr (He.ma K (He.ga K "Both") "__or__") := op_ok (c.ck 178 rfl)
  obtain ⟨fdboiv, Fboiv⟩ : ∃ fd, Fun K "__invert__" "Both.__invert__" (sBo 9) (He.ma K (He.ga K "Both") "__invert__") fd := fun_of (c.at_ 61 rfl) rfl (c.ck 179 rfl)
  have bboiv := Fboiv.binds (ps := ["self"]) fun _ _ _ _ _ _ us hl => match us, hl with | [_], _ => rfl
  obtain ⟨vibo, vfbo⟩ := He.ba (c.ck 180 rfl : invB K (He.ga K "Both") (He.ma K (He.ga K "Both") "__invert__") = true)
  have gei : mg "Either" = some (.ref (He.ga K "Either")) := He.glo_ok X G (c.ck 181 rfl)
  have cei : Cls K (He.ga K "Either") := He.cls_ok (c.ck 182 rfl)
  have nei_leaf_count : NoAttr K (He.ga K "Either") "leaf_count" := He.noat_ok (c.ck 183 rfl)
  have nei_height : NoAttr K (He.ga K "Either") "height" := He.noat_ok (c.ck 184 rfl)
  have nei_name_count : NoAttr K (He.ga K "Either") "name_count" := He.noat_ok (c.ck 185 rfl)
  have nei_first : NoAttr K (He.ga K "Either") "first" := He.noat_ok (c.ck 186 rfl)
  have nei_second : NoAttr K (He.ga K "Either") "second" := He.noat_ok (c.ck 187 rfl)
  have Mei : Mk K (He.ga K "Either") (He.ma K (He.ga K "Either") "__init__") := He.mkr_ok (c.ck 188 rfl)
  have Dei : ClsDef PX K ⟨fun K => He.ma K (He.ga K "Either") "__init__", "__init__", "Either.__init__", (sEi 0), ["__class__"]⟩ (He.ma K (He.ga K "Either") "__init__") (He.ga K "Either") := clsdef_of (c.at_ 62 rfl) rfl (c.ck 189 rfl)
  obtain ⟨cdaei, ccei, fdei, FXei, Sei⟩ := funx_of Dei (x := "self") ⟨_, rfl, rfl⟩ (c.ck 190 rfl) (show (PX.main.scope.names.lookup ("super" : Str)).isSome = false from rfl)
  have ccei : CondC K (He.ga K "Condition") (He.ga K "Either") := cond_ok (c.ck 191 rfl) cei nei_leaf_count nei_height nei_name_count
  obtain ⟨fdeica, Feica⟩ : ∃ fd, Fun K "__call__" "Either.__call__" (sEi 3) (He.ma K (He.ga K "Either") "__call__") fd := fun_of (c.at_ 63 rfl) rfl (c.ck 192 rfl)
  have beica := Feica.binds (ps := ["self", "key", "value"]) fun _ _ _ _ _ _ us hl => match us, hl with | [_, _, _], _ => rfl
  have Meica : CallO K (He.ga K "Either") (He.ma K (He.ga K "Either") "__call__") := cal_ok (c.ck 193 rfl)
  obtain ⟨fdeiho, Feiho⟩ : ∃ fd, Fun K "holds" "Either.holds" (sEi 4) (He.ma K (He.ga K "Either") "holds") fd := fun_of (c.at_ 64 rfl) rfl (c.ck 194 rfl)
  have beiho := Feiho.binds (ps := ["self", "key", "value"]) fun _ _ _ _ _ _ us hl => match us, hl with | [_, _, _], _ => rfl
  have Meiho : Meth K (He.ga K "Either") "holds" (He.ma K (He.ga K "Either") "holds") := He.meth_ok (c.ck 195 rfl)
  obtain ⟨fdeile, Feile⟩ : ∃ fd, Fun K "leaves" "Either.leaves" (sEi 5) (He.ma K (He.ga K "Either") "leaves") fd := fun_of (c.at_ 65 rfl) rfl (c.ck 196 rfl)
  have beile := Feile.binds (ps := ["self"]) fun _ _ _ _ _ _ us hl => match us, hl with | [_], _ => rfl
  have Meile : Meth K (He.ga K "Either") "leaves" (He.ma K (He.ga K "Either") "leaves") := He.meth_ok (c.ck 197 rfl)
  obtain ⟨fdeide, Feide⟩ : ∃ fd, Fun K "depth" "Either.depth" (sEi 6) (He.ma K (He.ga K "Either") "depth") fd := fun_of (c.at_ 66 rfl) rfl (c.ck 198 rfl)
  have beide := Feide.binds (ps := ["self"]) fun _ _ _ _ _ _ us hl => match us, hl with | [_], _ => rfl
  have Meide : Meth K (He.ga K "Either") "depth" (He.ma K (He.ga K "Either") "depth") := He.meth_ok (c.ck 199 rfl)
  obtain ⟨fdeian, Feian⟩ : ∃ fd, Fun K "__and__" "Either.__and__" (sEi 7) (He.ma K (He.ga K "Either") "__and__") fd := fun_of (c.at_ 67 rfl) rfl (c.ck 200 rfl)
  have beian := Feian.binds (ps := ["self", "other"]) fun _ _ _ _ _ _ us hl => match us, hl with | [_, _], _ => rfl
  have oeian : OpO K (He.ga K "Either") .BitAnd (He.ma K (He.ga K "Either") "__and__") := op_ok (c.ck 201 rfl)
  obtain ⟨fdeiorr, Feiorr⟩ : ∃ fd, Fun K "__or__" "Either.__or__" (sEi 8) (He.ma K (He.ga K "Either") "__or__") fd := fun_of (c.at_ 68 rfl) rfl (c.ck 202 rfl)
  have beiorr := Feiorr.binds (ps := ["self", "other"]) fun _ _ _ _ _ _ us hl => match us, hl with | [_, _], _ => rfl
  have oeiorr : OpO K (He.ga K "Either") .BitOr (He.ma K (He.ga K "Either") "__or__") := op_ok (c.ck 203 rfl)
  obtain ⟨fdeiiv, Feiiv⟩ : ∃ fd, Fun K "__invert__" "Either.__invert__" (sEi 9) (He.ma K (He.ga K "Either") "__invert__") fd := fun_of (c.at_ 69 rfl) rfl (c.ck 204 rfl)
  have beiiv := Feiiv.binds (ps := ["self"]) fun _ _ _ _ _ _ us hl => match us, hl with | [_], _ => rfl
  obtain ⟨viei, vfei⟩ := He.ba (c.ck 205 rfl : invB K (He.ga K "Either") (He.ma K (He.ga K "Either") "__invert__") = true)
  obtain ⟨Dkw, eDk, dB⟩ := btwDef_of (c.ck 206 rfl)
  rw [eDk] at FXbt
  have s_bt_nm : PySem.W.subIn K (.ref (He.ga K "Between")) (.ref (He.ga K "Named")) = some false := of_decide_eq_true (c.ck 207 rfl)
  have s_bt_nt : PySem.W.subIn K (.ref (He.ga K "Between")) (.ref (He.ga K "Not")) = some false := of_decide_eq_true (c.ck 208 rfl)
  have s_bt_bo : PySem.W.subIn K (.ref (He.ga K "Between")) (.ref (He.ga K "Both")) = some false := of_decide_eq_true (c.ck 209 rfl)
  have s_bt_ei : PySem.W.subIn K (.ref (He.ga K "Between")) (.ref (He.ga K "Either")) = some false := of_decide_eq_true (c.ck 210 rfl)
  have s_nm_bt : PySem.W.subIn K (.ref (He.ga K "Named")) (.ref (He.ga K "Between")) = some false := of_decide_eq_true (c.ck 211 rfl)
  have s_nm_nt : PySem.W.subIn K (.ref (He.ga K "Named")) (.ref (He.ga K "Not")) = some false := of_decide_eq_true (c.ck 212 rfl)
  have s_nm_bo : PySem.W.subIn K (.ref (He.ga K "Named")) (.ref (He.ga K "Both")) = some false := of_decide_eq_true (c.ck 213 rfl)
  have s_nm_ei : PySem.W.subIn K (.ref (He.ga K "Named")) (.ref (He.ga K "Either")) = some false := of_decide_eq_true (c.ck 214 rfl)
  have s_nt_bt : PySem.W.subIn K (.ref (He.ga K "Not")) (.ref (He.ga K "Between")) = some false := of_decide_eq_true (c.ck 215 rfl)
  have s_nt_nm : PySem.W.subIn K (.ref (He.ga K "Not")) (.ref (He.ga K "Named")) = some false := of_decide_eq_true (c.ck 216 rfl)
  have s_nt_bo : PySem.W.subIn K (.ref (He.ga K "Not")) (.ref (He.ga K "Both")) = some false := of_decide_eq_true (c.ck 217 rfl)
  have s_nt_ei : PySem.W.subIn K (.ref (He.ga K "Not")) (.ref (He.ga K "Either")) = some false := of_decide_eq_true (c.ck 218 rfl)
  have s_bo_bt : PySem.W.subIn K (.ref (He.ga K "Both")) (.ref (He.ga K "Between")) = some false := of_decide_eq_true (c.ck 219 rfl)
  have s_bo_nm : PySem.W.subIn K (.ref (He.ga K "Both")) (.ref (He.ga K "Named")) = some false := of_decide_eq_true (c.ck 220 rfl)
  have s_bo_nt : PySem.W.subIn K (.ref (He.ga K "Both")) (.ref (He.ga K "Not")) = some false := of_decide_eq_true (c.ck 221 rfl)
  have s_bo_ei : PySem.W.subIn K (.ref (He.ga K "Both")) (.ref (He.ga K "Either")) = some false := of_decide_eq_true (c.ck 222 rfl)
  have s_ei_bt : PySem.W.subIn K (.ref (He.ga K "Either")) (.ref (He.ga K "Between")) = some false := of_decide_eq_true (c.ck 223 rfl)
  have s_ei_nm : PySem.W.subIn K (.ref (He.ga K "Either")) (.ref (He.ga K "Named")) = some false := of_decide_eq_true (c.ck 224 rfl)
  have s_ei_nt : PySem.W.subIn K (.ref (He.ga K "Either")) (.ref (He.ga K "Not")) = some false := of_decide_eq_true (c.ck 225 rfl)
  have s_ei_bo : PySem.W.subIn K (.ref (He.ga K "Either")) (.ref (He.ga K "Both")) = some false := of_decide_eq_true (c.ck 226 rfl)
  have e := hfa.symm.trans gL
  cases e
  obtain ⟨_, _, _, _, _, _, _, _, _, hfd, _, _⟩ := FL.ex
  refine ⟨fdL, fun s u => by rw [hfd]; exact .of_eq rfl, fun base _ _ => ?_⟩
  have O1 : FnOk PX w K mg base CX0 1 _ _ ["value", "low", "high"] spIsInt := ok_isint F1 m_isinstance m_int m_bool
  have O2 : FnOk PX w K mg base CX0 1 _ _ ["value"] spIsName := ok_isname F2 gcML gcLet m_isinstance m_str m_len m_all
  have O4 : FnOk PX w K mg base CX0 2 _ _ ["value", "low", "high"] spNeedInt := ok_needint F4 F1 b1 g1 O1
  have O5 : FnOk PX w K mg base CX0 2 _ _ ["value"] spNeedName := ok_needname F5 F2 b2 g2 O2
  have O3 : FnOk PX w K mg base CX0 2 _ _ ["value"] spIsValue := ok_isvalue F3 F2 b2 g2 O2 F1 b1 g1 O1 gcMF gcG m_isinstance m_dict m_len m_all
  have O6 : FnOk PX w K mg base CX0 3 _ _ ["value"] spNeedValue := ok_needvalue F6 F3 b3 g3 O3
  have O7 : FnOk PX w K mg base CX0 4 _ _ ["key", "value"] spNeedRecord := ok_needrecord F7 k5 b5 g5 O5 k6 b6 g6 O6
  have OC : CsOk K (He.ga K "Condition") (⟨He.ga K "Between", He.ga K "Named", He.ga K "Not", He.ga K "Both", He.ga K "Either"⟩ : Cs) := ⟨ccbt, ccnm, ccnt, ccbo, ccei⟩
  have Ocbt : FnOk PX w K mg base CX0 1 _ _ ["self", "leaf_count", "height", "name_count"] (spCond (He.ga K "Between")) := ok_condinit Fci cbt nbt_leaf_count nbt_height nbt_name_count gcL gcD gcN
  have Ocnm : FnOk PX w K mg base CX0 1 _ _ ["self", "leaf_count", "height", "name_count"] (spCond (He.ga K "Named")) := ok_condinit Fci cnm nnm_leaf_count nnm_height nnm_name_count gcL gcD gcN
  have Ocnt : FnOk PX w K mg base CX0 1 _ _ ["self", "leaf_count", "height", "name_count"] (spCond (He.ga K "Not")) := ok_condinit Fci cnt nnt_leaf_count nnt_height nnt_name_count gcL gcD gcN
  have Ocbo : FnOk PX w K mg base CX0 1 _ _ ["self", "leaf_count", "height", "name_count"] (spCond (He.ga K "Both")) := ok_condinit Fci cbo nbo_leaf_count nbo_height nbo_name_count gcL gcD gcN
  have Ocei : FnOk PX w K mg base CX0 1 _ _ ["self", "leaf_count", "height", "name_count"] (spCond (He.ga K "Either")) := ok_condinit Fci cei nei_leaf_count nei_height nei_name_count gcL gcD gcN
  have Onc : FnOk PX w K mg base CX0 1 _ _ ["value"] (spNeedCond (⟨He.ga K "Between", He.ga K "Named", He.ga K "Not", He.ga K "Both", He.ga K "Either"⟩ : Cs)) := ok_needcond Fnc OC gcond m_isinstance
  have Osz : FnOk PX w K mg base CX0 2 _ _ ["one", "other"] (spSizes (⟨He.ga K "Between", He.ga K "Named", He.ga K "Not", He.ga K "Both", He.ga K "Either"⟩ : Cs)) := ok_sizes Fsz OC Onc gnc knc bnc m_max
  have Obi : FnOk PX w K mg base CX0 3 _ _ psBtw (spBtw (He.ga K "Between")) := ok_btwinit FXbt Sbt cbt nbt_field_name nbt_lowest nbt_highest O5 g5 k5 b5 O4 g4 k4 b4 Ocbt bci m_super
  have Oni : FnR PX w K mg base CX0 3 _ (spNamR (He.ga K "Named")) := ok_naminit FXnm Snm cnm nnm_accepted_names O5 g5 k5 b5 Ocnm bci m_super m_len
  have Obo : FnOk PX w K mg base CX0 3 _ _ ["self", "one", "other"] (spPair (⟨He.ga K "Between", He.ga K "Named", He.ga K "Not", He.ga K "Both", He.ga K "Either"⟩ : Cs) (⟨He.ga K "Between", He.ga K "Named", He.ga K "Not", He.ga K "Both", He.ga K "Either"⟩ : Cs).bo) := ok_boinit FXbo Sbo cbo nbo_first nbo_second Osz gsz ksz bsz Ocbo bci m_super
  have Oei : FnOk PX w K mg base CX0 3 _ _ ["self", "one", "other"] (spPair (⟨He.ga K "Between", He.ga K "Named", He.ga K "Not", He.ga K "Both", He.ga K "Either"⟩ : Cs) (⟨He.ga K "Between", He.ga K "Named", He.ga K "Not", He.ga K "Both", He.ga K "Either"⟩ : Cs).ei) := ok_eiinit FXei Sei cei nei_first nei_second Osz gsz ksz bsz Ocei bci m_super
  have Ont : FnOk PX w K mg base CX0 2 _ _ ["self", "one"] (spNeg (⟨He.ga K "Between", He.ga K "Named", He.ga K "Not", He.ga K "Both", He.ga K "Either"⟩ : Cs) (⟨He.ga K "Between", He.ga K "Named", He.ga K "Not", He.ga K "Both", He.ga K "Either"⟩ : Cs).nt) := ok_ntinit FXnt Snt OC nnt_inner Onc gnc knc bnc Ocnt bci m_super
  have bibo : Binds K fdbo ["self", "one", "other"] [] := fx_binds FXbo fun _ _ _ _ _ _ _ us hl => match us, hl with | [_, _, _], _ => rfl
  have biei : Binds K fdei ["self", "one", "other"] [] := fx_binds FXei fun _ _ _ _ _ _ _ us hl => match us, hl with | [_, _, _], _ => rfl
  have bint : Binds K fdnt ["self", "one"] [] := fx_binds FXnt fun _ _ _ _ _ _ _ us hl => match us, hl with | [_, _], _ => rfl
  have HL : ∀ d, HoldsAll PX w K mg base (⟨He.ga K "Between", He.ga K "Named", He.ga K "Not", He.ga K "Both", He.ga K "Either"⟩ : Cs) (d + 1) d := holds_all OC ⟨_, _, Mbtho, bbtho, fun d => ok_btholds2 Fbtho cbt nbt_field_name nbt_lowest nbt_highest⟩ ⟨_, _, Mnmho, bnmho, fun d => ok_nmholds2 Fnmho cnm nnm_accepted_names⟩
    ⟨_, _, Mntho, bntho, fun k d HA => ok_ntholds HA Fntho cnt nnt_inner⟩ ⟨_, _, Mboho, bboho, fun k d HA => ok_boholds HA Fboho cbo nbo_first nbo_second⟩ ⟨_, _, Meiho, beiho, fun k d HA => ok_eiholds HA Feiho cei nei_first nei_second⟩
  have Aan : ∀ m : Md, OpOf PX w K mg base (m.cls (⟨He.ga K "Between", He.ga K "Named", He.ga K "Not", He.ga K "Both", He.ga K "Either"⟩ : Cs)) .BitAnd (spAnd (⟨He.ga K "Between", He.ga K "Named", He.ga K "Not", He.ga K "Both", He.ga K "Either"⟩ : Cs)) := fun m => by
    cases m with
    | btw z lo hi => exact ⟨_, _, obtan, bbtan, ok_btand_ Fbtan Mbo Obo gbo bibo⟩
    | nam zs => exact ⟨_, _, onman, bnman, ok_nmand_ Fnman Mbo Obo gbo bibo⟩
    | neg m => exact ⟨_, _, ontan, bntan, ok_ntand_ Fntan Mbo Obo gbo bibo⟩
    | both m n => exact ⟨_, _, oboan, bboan, ok_boand_ Fboan Mbo Obo gbo bibo⟩
    | eith m n => exact ⟨_, _, oeian, beian, ok_eiand_ Feian Mbo Obo gbo bibo⟩
  have Aorr : ∀ m : Md, OpOf PX w K mg base (m.cls (⟨He.ga K "Between", He.ga K "Named", He.ga K "Not", He.ga K "Both", He.ga K "Either"⟩ : Cs)) .BitOr (spOr (⟨He.ga K "Between", He.ga K "Named", He.ga K "Not", He.ga K "Both", He.ga K "Either"⟩ : Cs)) := fun m => by
    cases m with
    | btw z lo hi => exact ⟨_, _, obtorr, bbtorr, ok_btor_ Fbtorr Mei Oei gei biei⟩
    | nam zs => exact ⟨_, _, onmorr, bnmorr, ok_nmor_ Fnmorr Mei Oei gei biei⟩
    | neg m => exact ⟨_, _, ontorr, bntorr, ok_ntor_ Fntorr Mei Oei gei biei⟩
    | both m n => exact ⟨_, _, oboorr, bboorr, ok_boor_ Fboorr Mei Oei gei biei⟩
    | eith m n => exact ⟨_, _, oeiorr, beiorr, ok_eior_ Feiorr Mei Oei gei biei⟩
  have sub : ∀ m n : Md, m.cls (⟨He.ga K "Between", He.ga K "Named", He.ga K "Not", He.ga K "Both", He.ga K "Either"⟩ : Cs) = n.cls (⟨He.ga K "Between", He.ga K "Named", He.ga K "Not", He.ga K "Both", He.ga K "Either"⟩ : Cs) ∨ PySem.W.subIn K (.ref (n.cls (⟨He.ga K "Between", He.ga K "Named", He.ga K "Not", He.ga K "Both", He.ga K "Either"⟩ : Cs))) (.ref (m.cls (⟨He.ga K "Between", He.ga K "Named", He.ga K "Not", He.ga K "Both", He.ga K "Either"⟩ : Cs))) = some false := fun m n => by
    cases m <;> cases n <;> first | exact .inl rfl | exact .inr (by assumption)
  have OO : Conds PX w K mg base (He.ga K "Condition") (⟨He.ga K "Between", He.ga K "Named", He.ga K "Not", He.ga K "Both", He.ga K "Either"⟩ : Cs) := ⟨OC, ⟨_, _, _, _, _, Mbt, FXbt, dB, Obi⟩, gbt, ⟨_, _, Mbo, bibo, Obo⟩, gbo, ⟨_, _, Mei, biei, Oei⟩, gei, ⟨_, _, Mnt, bint, Ont⟩, gnt, fun m n => polyO (Aan m) (Aan n) (sub m n), fun m n => polyO (Aorr m) (Aorr n) (sub m n), fun m => by
    cases m with
    | btw z lo hi => exact ⟨_, _, _, He.eqO_ok vibt, vfbt, bbtiv, ok_btinv Fbtiv Mnt Ont gnt bint⟩
    | nam zs => exact ⟨_, _, _, He.eqO_ok vinm, vfnm, bnmiv, ok_nminv Fnmiv Mnt Ont gnt bint⟩
    | neg m => exact ⟨_, _, _, He.eqO_ok vint, vfnt, bntiv, ok_ntinv Fntiv Mnt Ont gnt bint⟩
    | both m n => exact ⟨_, _, _, He.eqO_ok vibo, vfbo, bboiv, ok_boinv Fboiv Mnt Ont gnt bint⟩
    | eith m n => exact ⟨_, _, _, He.eqO_ok viei, vfei, beiiv, ok_eiinv Feiiv Mnt Ont gnt bint⟩⟩
  have O2 : Conds2 PX w K mg base (⟨He.ga K "Between", He.ga K "Named", He.ga K "Not", He.ga K "Both", He.ga K "Either"⟩ : Cs) := by
    refine ⟨fun m => ?_, fun m => ?_, fun m => ?_⟩ <;> cases m
    · exact ⟨cbt, _, _, _, Mbtle, bbtle, ok_btleaves Fbtle OC⟩
    · exact ⟨cnm, _, _, _, Mnmle, bnmle, ok_nmleaves Fnmle OC⟩
    · exact ⟨cnt, _, _, _, Mntle, bntle, ok_ntleaves Fntle OC⟩
    · exact ⟨cbo, _, _, _, Mbole, bbole, ok_boleaves Fbole OC⟩
    · exact ⟨cei, _, _, _, Meile, beile, ok_eileaves Feile OC⟩
    · exact ⟨cbt, _, _, _, Mbtde, bbtde, ok_btdepth Fbtde OC⟩
    · exact ⟨cnm, _, _, _, Mnmde, bnmde, ok_nmdepth Fnmde OC⟩
    · exact ⟨cnt, _, _, _, Mntde, bntde, ok_ntdepth Fntde OC⟩
    · exact ⟨cbo, _, _, _, Mbode, bbode, ok_bodepth Fbode OC⟩
    · exact ⟨cei, _, _, _, Meide, beide, ok_eidepth Feide OC⟩
    · exact ⟨_, _, _, Mbtca, bbtca, ok_btcall Fbtca (HL 5) (by decide) k7 b7 g7 O7⟩
    · exact ⟨_, _, _, Mnmca, bnmca, ok_nmcall Fnmca (HL 5) (by decide) k7 b7 g7 O7⟩
    · exact ⟨_, _, _, Mntca, bntca, ok_ntcall Fntca (HL 5) (by decide) k7 b7 g7 O7⟩
    · exact ⟨_, _, _, Mboca, bboca, ok_bocall Fboca (HL 5) (by decide) k7 b7 g7 O7⟩
    · exact ⟨_, _, _, Meica, beica, ok_eicall Feica (HL 5) (by decide) k7 b7 g7 O7⟩
  have Nn : FnOk PX w K mg base CX0 3 _ _ ["_law_box_here", "_law_many"] spNames := ok_names FC FA bA gA FB bB gB m_len m_list m_range
  have Nv : FnOk PX w K mg base CX0 3 _ _ ["_law_box_here", "_law_fields"] (spValue K) := ok_value FE FA bA gA FB bB gB FD bD gD m_len m_list m_min
  have Nd : FnOk PX w K mg base CX0 5 _ _ ["_law_some"] (spMkNam K (He.ga K "Named")) := ok_named FF Mnm Oni gnm m_len m_list
  have Li : FnOk PX w K mg base CX0 2 _ _ ["_law_box_here", "_law_names_here"] spListed := ok_listed Fli FA bA gA m_len m_tuple
  have Lf : FnOk PX w K mg base CX0 3 _ _ ["_law_box_here", "_law_fields", "_law_names_here"] spLeaf := ok_leaf Flf FA bA gA FD bD gD Li gli kli bli m_len m_min m_max
  have Mo : FnOk PX w K mg base CX0 9 _ _ ["_law_box_here", "_law_fields", "_law_names_here", "_law_deep", "_law_most"] (spModel 5) := ok_model Fmd bmd gmd FA bA gA Lf glf klf blf 5
  have Bu : FnOk PX w K mg base CX0 11 _ _ ["_law_box_here", "_law_model_here"] (spBuilt (⟨He.ga K "Between", He.ga K "Named", He.ga K "Not", He.ga K "Both", He.ga K "Either"⟩ : Cs) 5) := ok_built Fbu bbu gbu FA bA gA Nd gF kF bF OO 5
  have Le : FnOk PX w K mg base CX0 6 _ _ ["_law_model_here"] (spLLeaves 5) := ok_lleaves Fle ble gle 5
  have De : FnOk PX w K mg base CX0 6 _ _ ["_law_model_here"] (spLDepth 5) := ok_ldepth Fde bde gde m_max 5
  have Ho : FnOk PX w K mg base CX0 6 _ _ ["_law_model_here", "_law_key", "_law_value_here"] (spLHolds 5) := ok_lholds Fho bho gho 5
  have On : FnOk PX w K mg base CX0 6 _ _ ["_law_model_here"] (spOne 5) := ok_onename Fon bon gon m_tuple 5
  have Ca : FnOk PX w K mg base CX0 7 _ _ ["_law_model_here"] spCapped := ok_capped Fca Le gle kle ble On gon kon bon m_sum m_len
  have Re : FnOk PX w K mg base CX0 7 _ _ ["_law_box_here", "_law_fields", "_law_names_here", "_law_model_here", "_law_many"] spRecords := ok_records Fre FA bA gA Nv gE kE bE Le gle kle ble m_len m_range m_max m_min
  have Ri : FnG PX w K mg base CX0 12 _ _ ["_law_box_here", "_law_fields", "_law_names_here"] spRight := ok_right Fri FA bA gA Mo gmd kmd bmd Ca gca kca bca Bu gbu kbu bbu Re gre kre bre Le gle kle ble De gde kde bde Ho gho kho bho O2 m_len m_repr m_range m_dict
  exact ok_law FL F8 b8 g8 F9 b9 g9 FA bA gA kC bC gC Nn kri bri gri Ri m_range m_max m_min m_len
end G
set_option Elab.async false
set_option linter.all false
set_option maxRecDepth 100000
set_option maxHeartbeats 8000000
/-! EB: the top's run. -/
namespace G
open PySem PySem.Spec PyProof.Rows L2 NdefX StX
abbrev hk : PySem.W.Hook := hookP 5 cks fns
def ob (s : PySem.W.SharedT) : AlP := obsPG 5 cks fns (HandSHeadRun.getT s)
theorem ob_eq (s : PySem.W.SharedT) : ob s = hk.obs s.abs := obsPG_eq (HandSHeadRun.getT_eq s)
def loose0 : List Str := ["_wall", "BoardError", "InvalidInteger", "InvalidName", "InvalidValue", "InvalidCondition", "InvalidText", "TooMany", "LETTERS", "DIGITS", "MOST_LETTERS", "MOST_FIELDS", "MOST_DIGITS", "GREATEST", "is_integer", "is_name", "is_value", "parse_integer", "is_decimal", "need_integer", "need_name", "need_value", "need_record", "ConditionWords", "words_of", "tree_of", "MOST_LEAVES", "MOST_DEPTH", "MOST_NAMES", "Condition"]
def loose1 : List Str := ["Leaf", "Pair", "Between", "Named", "Both", "Either", "Not", "need_condition", "sizes_of_pair", "built", "_law_cell", "_law_box", "_law_take", "_law_mixed", "_law_names", "_law_number", "_law_value", "_law_leaf", "_law_model", "_law_built", "_law_holds", "_law_leaves", "_law_depth", "_law_records", "_law_named", "_law_listed", "_law_capped", "_law_one_name", "_law_right"]
abbrev looseX : List Str := loose0 ++ loose1
theorem run (w : World) : HandSHeadRun.RunEq (PySem.W.OpenLaw.row PySem.Challenge.rw_listviews_k06_nested_conditions_called) (PySem.W.view PX [65]) hk ob 20000 looseX w := by
  intro os
  kernel_rfl
end G
set_option Elab.async false
set_option linter.all false
set_option maxRecDepth 100000
set_option maxHeartbeats 8000000
/-! EC: the end. -/
open PySem PySem.W PySem.Calls PyProof.Rows
set_option maxRecDepth 100000 in
set_option maxHeartbeats 0 in
theorem PySem.Challenge.cw_listviews_k06_nested_conditions_called_holds : PySem.Challenge.rw_listviews_k06_nested_conditions_called.Holds := by
  w_on; o_law
  refine HandSHeadRun.head_any (r := OpenLaw.row PySem.Challenge.rw_listviews_k06_nested_conditions_called) (q := view (OpenLaw.row PySem.Challenge.rw_listviews_k06_nested_conditions_called).prog [65]) (H := G.hk) (ob := G.ob) (M := 20000) (loose := G.looseX) (d := HandSHeadRun.topDef (OpenLaw.row PySem.Challenge.rw_listviews_k06_nested_conditions_called).prog 65) (kwd := []) G.ob_eq
    (by kernel_rfl) (fun s => by kernel_rfl) G.run (by kernel_rfl) (by kernel_rfl) (by kernel_rfl) (by rfl) (by first | assumption | decide +kernel) (by decide +kernel) ⟨rfl, rfl, rfl, rfl, rfl, by decide +kernel⟩ ?hw ?hc
  case hw => w_witness2
  case hc =>
    refine G.walk_goE (l := PySem.Challenge.rw_listviews_k06_nested_conditions_called) (n := 63) (k := 13) (x := "_law_script") rfl (by decide) (by kernel_rfl) ⟨rfl, by decide, by decide⟩ ?F
    intro w mg fa h Y GX hmg0
    obtain ⟨K, KX, c⟩ := Y
    have hmg : mg ("law" : PySem.Str) = some (.ref fa) := by
      have e : (HandSHeadRun.topDef (OpenLaw.row PySem.Challenge.rw_listviews_k06_nested_conditions_called).prog 65).name = ("law" : PySem.Str) := by kernel_rfl
      rw [← e]
      exact hmg0
    obtain ⟨fd, hb, hF⟩ := G.facts (w := w) KX GX hmg c
    exact ⟨K, fd, G.spLaw K, KX, hb, fun H a ns hl _ hS => ⟨a, ns, rfl, hS, hl, fun _ => rfl⟩, hF⟩
