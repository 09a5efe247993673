import PyProof.Rows.All
import Wide.All
import OpenK.AllK
import Wide.FinOn
import HandS.ForMost
import HandS.ForExc
import HandS.ExcInit
import HandS.ExcField
import HandS.TryMany
import HandS.IsInst
import HandS.Wide
import HandS.Small
import HandS.RaiseMore
import PyProof.ReprRoads
import KE.KSuper
import HandS.ClsMeth
import HandS.Nested
import HandS.More
import HandS.StrMore
import HandS.Walk
import HandS.Defaults
import HandS.MakeKwOnly
import HandS.Star
import HandS.Property
import HandS.Head0
import HandS.Head1
import HandS.Head2
import HandS.HeadHook1
import HandS.HeadHook2
import HandS.NoneIn
import PyProof.CallFns
import HandS.Style
import HandS.Sort
import PySem.Challenge.RW_listviews_k05_leaves_called
set_option Elab.async false
set_option linter.all false
set_option maxRecDepth 100000
set_option maxHeartbeats 2000000
/-! G1: what a def keeps where no guard is under way; repr of data at any depth, dicts too. -/
namespace G
open PySem PySem.Spec PyProof.Rows L2

/-! ### how long a shown text is -/
mutual
def mass : PyData → Nat
  | .none => 4
  | .bool _ => 5
  | .int _ => 1921
  | .str x => (reprText x).length
  | .list xs => 3 + massAll xs
  | .tuple xs => 4 + massAll xs
  | .dict kvs => 3 + massKv kvs
def massAll : List PyData → Nat
  | [] => 0
  | x :: xs => mass x + 2 + massAll xs
def massKv : List (PyData × PyData) → Nat
  | [] => 0
  | (k, v) :: r => mass k + mass v + 4 + massKv r
end
theorem text_from_le : ∀ (ts : List Str) (k : Nat) (acc : Str), (textFrom k acc ts).length ≤ acc.length + piled ts
  | [], k, acc => by
    show acc.length ≤ acc.length + 0
    omega
  | t :: r, k, acc => by
    have h1 := text_from_le r (k + 1) (acc ++ (if k > 0 then ", " else "" : String) ++ t)
    rw [strLen_append, strLen_append] at h1
    have h2 : (((if k > 0 then ", " else "" : String) : Str)).length ≤ 2 := by
      split <;> decide
    show (textFrom (k + 1) _ r).length ≤ _
    rw [piled_cons]
    omega
theorem list_text_le (ts : List Str) : (listText ts).length ≤ 3 + piled ts := by
  unfold listText
  rw [strLen_append]
  have h1 := text_from_le ts 0 "["
  have e1 : ((("[" : String) : Str)).length = 1 := rfl
  have e2 : ((("]" : String) : Str)).length = 1 := rfl
  rw [e1] at h1
  rw [e2]
  omega
theorem join_le (ts : List Str) : (Str.join ", " ts).length ≤ piled ts := by
  by_cases h : ts = []
  · subst h
    exact Nat.le_refl 0
  · have := join_length_add ts h
    omega
theorem tuple_text_le (ts : List Str) : (tupleText ts).length ≤ 4 + piled ts := by
  unfold tupleText
  rw [strLen_append, strLen_append]
  have h1 := join_le ts
  have e1 : ((("(" : String) : Str)).length = 1 := rfl
  have e3 : (((if ts.length == 1 then ",)" else ")" : String) : Str)).length ≤ 2 := by split <;> decide
  rw [e1]
  omega
theorem dict_text_le (ts : List Str) : (dictText ts).length ≤ 3 + piled ts := by
  unfold dictText
  rw [strLen_append, strLen_append]
  have h1 := join_le ts
  have e1 : ((("{" : String) : Str)).length = 1 := rfl
  have e3 : ((("}" : String) : Str)).length = 1 := rfl
  rw [e1, e3]
  omega
mutual
theorem shown_le : ∀ d : PyData, d.showable = true → d.shown.length ≤ mass d
  | .none, _ => by decide
  | .bool b, _ => by cases b <;> decide
  | .int i, h => by
    have h' : i.natAbs.log2 < 1920 := by simpa [PyData.showable] using h
    have h2 := int_text_length_le (by decide) h'
    show (Str.ofString (toString i)).length ≤ 1921
    rw [PySem.ofString_length]
    exact h2
  | .str x, _ => by
    simp only [PyData.shown, mass]
    exact Nat.le_refl _
  | .list xs, h => by
    have h' : PyData.showableAll xs = true := by simpa [PyData.showable] using h
    have h1 := list_text_le (PyData.shownAll xs)
    have h2 := shown_all_le xs h'
    simp only [PyData.shown, mass]
    omega
  | .tuple xs, h => by
    have h' : PyData.showableAll xs = true := by simpa [PyData.showable] using h
    have h1 := tuple_text_le (PyData.shownAll xs)
    have h2 := shown_all_le xs h'
    simp only [PyData.shown, mass]
    omega
  | .dict kvs, h => by
    have h' : PyData.showableKv kvs = true := by simpa [PyData.showable] using h
    have h1 := dict_text_le (PyData.shownKv kvs)
    have h2 := shown_kv_le kvs h'
    simp only [PyData.shown, mass]
    omega
theorem shown_all_le : ∀ xs : List PyData, PyData.showableAll xs = true → piled (PyData.shownAll xs) ≤ massAll xs
  | [], _ => by
    simp only [PyData.shownAll, massAll, piled_nil]
    exact Nat.le_refl _
  | x :: xs, h => by
    simp only [PyData.showableAll, Bool.and_eq_true] at h
    have h1 := shown_le x h.1
    have h2 := shown_all_le xs h.2
    simp only [PyData.shownAll, massAll, piled_cons]
    omega
theorem shown_kv_le : ∀ xs : List (PyData × PyData), PyData.showableKv xs = true → piled (PyData.shownKv xs) ≤ massKv xs
  | [], _ => by
    simp only [PyData.shownKv, massKv, piled_nil]
    exact Nat.le_refl _
  | (k, v) :: xs, h => by
    simp only [PyData.showableKv, Bool.and_eq_true] at h
    have h1 := shown_le k h.1.1
    have h2 := shown_le v h.1.2
    have h3 := shown_kv_le xs h.2
    have e : (((": " : String) : Str)).length = 2 := rfl
    simp only [PyData.shownKv, massKv, piled_cons, strLen_append, e]
    omega
end

/-! ### data that stands in the heap: lists, tuples, dicts by int and text keys -/
mutual
inductive Rp (K : PySem.W.Frag) (H : Hp) : V → PyData → Prop
  | non : Rp K H .non .none
  | bl (b : Bool) : Rp K H (.bl b) (.bool b)
  | int (i : Int) : Rp K H (.int i) (.int i)
  | str (x : Str) : Rp K H (.str x) (.str x)
  | lst {a : Addr} {xs : List V} {ds : List PyData} : H a = some (.lst xs) → RpAll K H xs ds → Rp K H (.ref a) (.list ds)
  | tup {a : Addr} {xs : List V} {ds : List PyData} : H a = some (.tup xs) → RpAll K H xs ds → Rp K H (.ref a) (.tuple ds)
  | dic {a : Addr} {kvs : List (Key × V)} {ds : List (PyData × PyData)} : H a = some (.dK kvs) → RpAll K H (kvs.map fun p => kV p.1) (ds.map (·.1)) → RpAll K H (kvs.map (·.2)) (ds.map (·.2)) → Rp K H (.ref a) (.dict ds)
inductive RpAll (K : PySem.W.Frag) (H : Hp) : List V → List PyData → Prop
  | nil : RpAll K H [] []
  | cons {v : V} {vs : List V} {d : PyData} {ds : List PyData} : Rp K H v d → RpAll K H vs ds → RpAll K H (v :: vs) (d :: ds)
end

/-! ### .. and how it is read -/
mutual
/-- no list in it: each address that a reading of it counts is a dict's -/
def okS : PyData → Bool
  | .none | .bool _ | .int _ | .str _ => true
  | .list _ => false
  | .tuple xs => okSAll xs
  | .dict kvs => okSKv kvs
def okSAll : List PyData → Bool
  | [] => true
  | x :: xs => okS x && okSAll xs
def okSKv : List (PyData × PyData) → Bool
  | [] => true
  | (k, v) :: r => okS k && okS v && okSKv r
end
theorem okSKv_split : ∀ {kvs : List (PyData × PyData)}, okSKv kvs = true → okSAll (kvs.map (·.1)) = true ∧ okSAll (kvs.map (·.2)) = true
  | [], _ => ⟨rfl, rfl⟩
  | (k, v) :: r, h => by
    simp only [okSKv, Bool.and_eq_true] at h
    obtain ⟨h1, h2⟩ := okSKv_split h.2
    simp only [List.map_cons, okSAll, Bool.and_eq_true]
    exact ⟨⟨h.1.1, h1⟩, h.1.2, h2⟩
theorem pairs_vals {P : Program} {w : World} : ∀ {kvs : List (Key × V)} {vs : List (Key × Value)} {es : List DictEntry}, KV kvs vs → Pairs (mixKind P w) es vs →
    Vals (kvs.map fun p => kV p.1) (es.map (·.key)) ∧ Vals (kvs.map (·.2)) (es.map (·.val))
  | _, _, _, .nil, .nil => ⟨.nil, .nil⟩
  | _, _, _, .cons r t, .cons hk hv p => by
    obtain ⟨h1, h2⟩ := pairs_vals t p
    refine ⟨.cons ?_ h1, .cons ?_ h2⟩
    · dsimp only
      rw [r.1]
      rcases keyIs_shape hk with ⟨i, tk, e1, e2⟩ | ⟨x, tk, e1, e2⟩
      · rw [e1, e2]
        exact ⟨tk, rfl⟩
      · rw [e1, e2]
        exact ⟨tk, rfl⟩
    · dsimp only
      rw [hv]
      exact r.2
section
variable {X : Cx} {pins : List (Addr × Obj)} {σ : L2.St} {H : Hp} {s : Shared}
mutual
theorem rp_reads (I : Inv X pins σ H s) : ∀ (d : PyData) (v : V) (u : Value), Rp X.K H v d → RelV v u → ∃ as, Reads s.heap u d as ∧ (okS d = true → sysModules ∉ as)
  | .none, _, _, h, r => by
    cases h
    cases r
    exact ⟨_, Reads.none, fun _ => by simp⟩
  | .bool b, _, _, h, r => by
    cases h
    cases r
    exact ⟨_, Reads.bool b, fun _ => by simp⟩
  | .int i, _, _, h, r => by
    cases h
    obtain ⟨t, rfl⟩ := r
    exact ⟨_, Reads.int i t, fun _ => by simp⟩
  | .str x, _, _, h, r => by
    cases h
    obtain ⟨t, rfl⟩ := r
    exact ⟨_, Reads.str x t, fun _ => by simp⟩
  | .list ds, _, _, h, r => by
    cases h with
    | lst hs ha =>
      cases r
      obtain ⟨its, rv, ⟨o, n, ho, hc, _, hd⟩, _⟩ := I.list (.of hs)
      obtain ⟨as, hr, _⟩ := rp_readsAll I ds _ its ha rv
      exact ⟨_, Reads.list ho hc hd hr, fun z => by simp [okS] at z⟩
  | .tuple ds, _, _, h, r => by
    cases h with
    | tup hs ha =>
      cases r
      obtain ⟨its, rv, ⟨o, ho, hc, n, hd⟩, _⟩ := I.tuple (.of hs)
      obtain ⟨as, hr, q⟩ := rp_readsAll I ds _ its ha rv
      exact ⟨_, Reads.tuple ho hc hd hr, fun z => q (by simpa [okS] using z)⟩
  | .dict ds, _, _, h, r => by
    cases h with
    | dic hs hk hv =>
      cases r
      obtain ⟨_, hm, vs, rel, o, es, ep, e1, e2, e3, e4, e5, e6⟩ := I.hok _ _ hs
      obtain ⟨r1, r2⟩ := pairs_vals rel e5
      obtain ⟨as, q1, z1⟩ := rp_readsKeys I ds _ _ hk r1
      obtain ⟨bs, q2, z2⟩ := rp_readsVals I ds _ _ hv r2
      refine ⟨_, Reads.dict e1 e2.1 e3 q1 q2, fun z => ?_⟩
      have hz : okSKv ds = true := by simpa [okS] using z
      obtain ⟨k1, k2⟩ := okSKv_split hz
      have hm' := beq_eq_false_iff_ne.mp hm
      intro hin
      rcases List.mem_cons.mp hin with hx | hx
      · exact hm' hx.symm
      · rcases List.mem_append.mp hx with hx | hx
        · exact z1 k1 hx
        · exact z2 k2 hx
theorem rp_readsAll (I : Inv X pins σ H s) : ∀ (ds : List PyData) (vs : List V) (us : List Value), RpAll X.K H vs ds → Vals vs us → ∃ as, ReadsAll s.heap us ds as ∧ (okSAll ds = true → sysModules ∉ as)
  | [], _, _, h, r => by
    cases h
    cases r
    exact ⟨_, ReadsAll.nil, fun _ => by simp⟩
  | d :: ds, _, _, h, r => by
    cases h with
    | cons h1 h2 =>
      cases r with
      | cons r1 r2 =>
        obtain ⟨as, q1, z1⟩ := rp_reads I d _ _ h1 r1
        obtain ⟨bs, q2, z2⟩ := rp_readsAll I ds _ _ h2 r2
        refine ⟨_, ReadsAll.cons q1 q2, fun z => ?_⟩
        simp only [okSAll, Bool.and_eq_true] at z
        intro hin
        rcases List.mem_append.mp hin with hx | hx
        · exact z1 z.1 hx
        · exact z2 z.2 hx
theorem rp_readsKeys (I : Inv X pins σ H s) : ∀ (ds : List (PyData × PyData)) (vs : List V) (us : List Value), RpAll X.K H vs (ds.map (·.1)) → Vals vs us → ∃ as, ReadsAll s.heap us (ds.map (·.1)) as ∧ (okSAll (ds.map (·.1)) = true → sysModules ∉ as)
  | [], _, _, h, r => by
    cases h
    cases r
    exact ⟨_, ReadsAll.nil, fun _ => by simp⟩
  | (d, _) :: ds, _, _, h, r => by
    cases h with
    | cons h1 h2 =>
      cases r with
      | cons r1 r2 =>
        obtain ⟨as, q1, z1⟩ := rp_reads I d _ _ h1 r1
        obtain ⟨bs, q2, z2⟩ := rp_readsKeys I ds _ _ h2 r2
        refine ⟨_, ReadsAll.cons q1 q2, fun z => ?_⟩
        simp only [List.map_cons, okSAll, Bool.and_eq_true] at z
        intro hin
        rcases List.mem_append.mp hin with hx | hx
        · exact z1 z.1 hx
        · exact z2 z.2 hx
theorem rp_readsVals (I : Inv X pins σ H s) : ∀ (ds : List (PyData × PyData)) (vs : List V) (us : List Value), RpAll X.K H vs (ds.map (·.2)) → Vals vs us → ∃ as, ReadsAll s.heap us (ds.map (·.2)) as ∧ (okSAll (ds.map (·.2)) = true → sysModules ∉ as)
  | [], _, _, h, r => by
    cases h
    cases r
    exact ⟨_, ReadsAll.nil, fun _ => by simp⟩
  | (_, d) :: ds, _, _, h, r => by
    cases h with
    | cons h1 h2 =>
      cases r with
      | cons r1 r2 =>
        obtain ⟨as, q1, z1⟩ := rp_reads I d _ _ h1 r1
        obtain ⟨bs, q2, z2⟩ := rp_readsVals I ds _ _ h2 r2
        refine ⟨_, ReadsAll.cons q1 q2, fun z => ?_⟩
        simp only [List.map_cons, okSAll, Bool.and_eq_true] at z
        intro hin
        rcases List.mem_append.mp hin with hx | hx
        · exact z1 z.1 hx
        · exact z2 z.2 hx
end
end

/-! ### repr of a list of such data -/
/-- a list at the top: its own address is not counted -/
theorem repr_top {prog : Program} {w : World} {A : Around} {E : Value → Shared → Prop} {s : Shared} {Q : Value → Shared → Prop} {a : Addr} {o : Obj} {vs : Array Value} {n : Nat} {xs : List PyData} {as : List Addr}
    (h1 : s.heap.get? a = some o) (h2 : o.cls = .type "list") (h3 : o.data = .seq vs n) (h4 : ReadsAll s.heap vs.toList xs as) (hs : PyData.showableAll xs = true) (hsm : PyData.hasDictAll xs = true → sysModules ∉ as)
    (hg : A.guards = some []) (hu : A.units + ((PyData.list xs).depth + 1) < cLine) (hsz : (listText (PyData.shownAll xs)).length ≤ sizeLine)
    (hQ : ∀ h' u tk, (∀ b o, s.heap.get? b = some o → h'.get? b = some o) → Q (.str (listText (PyData.shownAll xs)) u) { s with heap := h', toks := tk }) :
    wpAny (model prog w) A (call (.builtin "repr") [.ref a]) Q E s := by
  obtain ⟨bs, hb, hk⟩ := ReprAllK.of_readsAll (prog := prog) (w := w) h4 hs hsm (fun t ht => Nat.le_trans (listText_mem_le ht) hsz)
  have hna : a ∉ bs :=
    not_mem_of_deeper (.list h1 h2 h3 h4) (by simp only [PyData.depth]; omega) hb
  simp only [PyData.depth] at hu
  refine call_repr_slot (A := A) (by omega) (idr := "list.__repr__") (T := "list") (show s.TypeIs (.ref a) "list" from ⟨o, h1, h2⟩) F.slot_list_repr.toG ?_
  have hu1 : A.in1.units = A.units + 1 := rfl
  obtain ⟨l⟩ := vs
  cases l with
  | nil =>
    have h4' : ReadsAll s.heap [] xs as := h4
    cases h4'
    have ht := hQ s.heap
    rw [show listText (PyData.shownAll []) = ("[]" : Str) by simp only [PyData.shownAll]; exact listText_nil] at ht
    exact call_list_repr_empty ⟨o, h1, h2⟩ h1 h3 ⟨_, _, rfl, ht _ _ fun _ _ e => e⟩
  | cons x l =>
    refine call_list_reprK h1 h2 h3 hna (by simpa using hk.length_eq) (fun i y e => hk.item i y (by simpa using e)) (by exact hg) (fun b _ => Clear.nil b) (by rw [hu1]; omega) (fun _ _ e => e) (fun h' u tk k => ⟨_, _, rfl, hQ h' u tk k⟩) hsz
/-- repr(xs), xs a list of data -/
def rRepr (K : PySem.W.Frag) : List V → Hp → VK → Prop := fun vs H Q => ∃ (a : Addr) (xs : List V) (ds : List PyData), vs = [.ref a] ∧ H a = some (.lst xs) ∧ RpAll K H xs ds ∧ PyData.showableAll ds = true ∧ (PyData.hasDictAll ds = true → okSAll ds = true) ∧
  (PyData.list ds).depth ≤ 20 ∧ 3 + massAll ds ≤ sizeLine ∧ Q (.str (listText (PyData.shownAll ds))) H
theorem call_repr {X : Cx} (hg : X.A.guards = some []) (hu : X.A.units + 64 < cLine) : CallR X (.builtin "repr") (rRepr X.K) := by
  intro pins s σ H xs us Q I r h
  obtain ⟨a, ys, ds, rfl, ha, hr, hs, hd, hp, hm, q⟩ := h
  obtain rfl := Vals.ref1 r
  obtain ⟨its, rv, ⟨o, n, ho, hc, _, hdt⟩, _⟩ := I.list (.of ha)
  obtain ⟨as, q1, z1⟩ := rp_readsAll I ds _ its hr rv
  have hz := Nat.le_trans (list_text_le _) (Nat.le_trans (Nat.add_le_add_left (shown_all_le ds hs) 3) hm)
  exact repr_top ho hc hdt q1 hs (fun z => z1 (hd z)) hg (by omega) hz fun h' u tk k => ⟨.str _, H, I.kept k, ⟨u, rfl⟩, q⟩
end G
set_option Elab.async false
set_option linter.all false
set_option maxRecDepth 100000
set_option maxHeartbeats 2000000
/-! G2: a def that runs where no guard is under way, and the law's own call. -/
namespace G
open PySem PySem.Spec PyProof.Rows L2
/-- as FnOk, of arounds without guards -/
structure FnG (P : Program) (w : World) (K : PySem.W.Frag) (mg : Str → Option Value) (base : Heap) (CX : CXT) (k : Nat) (f : Addr) (fd : FuncData) (ps : List Str) (sp : Sp) : Prop where
  size : ∀ vs H Q E, sp vs H Q E → vs.length = ps.length
  go : ∀ (A : Around) (outer : List Env) (s : Shared) (H : Hp) (args : Args) (us : List Value) (vs : List V) (Q : VK) (E : XK),
    A.guards = some [] → Room k A → Env0 P w K mg base A outer s H → BindsTo s fd args (ps.zip us) → Vals vs us → sp vs H Q E → codeAny (model P w) A (.call (.ref f) args) (CR CX outer P w H s Q E) s
section
variable {P : Program} {w : World} {K : PySem.W.Frag} {mg : Str → Option Value} {base : Heap} {CX : CXT}
theorem FnG.of_body {x qual : Str} {st : Stmt} {f : Addr} {fd : FuncData} {N ps : List Str} {k : Nat} {sp : Sp} (F : Fun K x qual st f fd) (S : FnScope N ps (defScope st))
    (size : ∀ vs H Q E, sp vs H Q E → vs.length = ps.length)
    (body : ∀ (cdv : Value) (A : Around) (outer : List Env) (s : Shared) (H : Hp) (vs : List V) (Q : VK) (E : XK), A.guards = some [] →
      Room k (A.deeper (envOfC qual (defScope st) s.heap.objs.size f cdv)) → sp vs H Q E →
      ∃ t, PSs (cxOf CX P w K mg base N qual (defScope st) f cdv A outer s H E).nox (defBody st) t ∧ t { nx := fun _ H' => Q .non H', rt := Q } (start N vs) H) :
    FnG P w K mg base CX (k + 1) f fd ps sp := by
  obtain ⟨_, _, _, _, _, _, cdv, _, _, rfl, lk, hcd⟩ := F.ex
  refine ⟨size, fun A outer s H args us vs Q E hg hr e0 hb r h => ?_⟩
  have inS : K.In s.heap := e0.mod.kin.keeps fun b o e => (e0.bs b o e).1
  have noL : s.heap.NoLimit := e0.mod.nolimit.keeps fun b o e => (e0.bs b o e).1
  refine codeAny_call_function hr.depth (inS _ _ lk) rfl S.co S.gen rfl
    (PySem.W.codeRec_of inS hcd) (hb _ _ _ _ ?_)
  refine wpAny_newFunctionEnv_cells S.kind
    (fun ⟨n, v⟩ hy => ?_) fun env he s1 x => ?_
  · rcases S.par n (List.of_mem_zip hy).1 with q | q
    · exact Or.inl q
    · exact Or.inr ⟨q, PySem.W.cellsFrom_some _ _ _ (Or.inl q)⟩
  · subst he
    refine ⟨noL.keeps x.toInCall.keep, codeAny_func ?_⟩
    obtain ⟨t, ht, hq⟩ := body cdv A outer s H vs Q E hg (hr.deeper _) h
    have J := inv_start (CX := CX) (P := P) (w := w) (K := K) (mg := mg) (base := base) (E := E) S hr.hd e0 (size _ _ _ _ h) r x
    refine wpAny_mono (ht.nox.run [] s1 (start N vs) H _ J hq) (fun fl s' z => ?_) fun e s' z => z
    cases fl with
    | ret u =>
      obtain ⟨v, σ', H', J', rv, q⟩ := z
      exact ⟨v, H', J'.os, J'.bare, J'.base, J'.hok, rv, q⟩
    | next =>
      obtain ⟨σ', H', J', q⟩ := z
      exact ⟨.non, H', J'.os, J'.bare, J'.base, J'.hok, rfl, q⟩
    | brk =>
      obtain ⟨_, _, _, q⟩ := z
      exact q.elim
    | cont =>
      obtain ⟨_, _, _, q⟩ := z
      exact q.elim
end
section
variable {X : Cx} {CX : CXT} {k : Nat} {f : Addr} {fd : FuncData} {ps : List Str} {sp : Sp} {dvs : List V} {ds : List Value} {E : XK} {x : Str} {p pos : Pos} {e : Expr} {es : List Expr} {t : TA}
theorem FnG.run {pins : List (Addr × Obj)} {σ : L2.St} {H : Hp} {s : Shared} {Q : VK} {us : List Value} {vs : List V} (F : FnG X.prog X.w X.K X.mg X.base CX k f fd ps sp) (hg : X.A.guards = some []) (hr : Room k X.A) (hb : Binds X.K fd ps ds) (hd : Vals dvs ds)
    (hx : Passes CX X E) (I : Inv X pins σ H s) (r : Vals vs us) (h : sp (vs ++ dvs) H Q E) : wpAny (model X.prog X.w) X.A (call (.ref f) us) (EP X pins σ Q) X.xe s := by
  have both := r.append hd
  have size : (us ++ ds).length = ps.length := both.length.symm.trans (F.size _ _ _ _ h)
  refine wpAny_call (codeAny_mono (F.go X.A X.stack s H ⟨us, []⟩ (us ++ ds) (vs ++ dvs) Q E hg hr I.env0 (hb s us I.kIn size) both h) fun q s' z => ?_)
  match q, z with
  | .error er, z => exact hx pins σ H s er s' I z
  | .ok (.ret u), z => exact I.after z
/-- f(e, ..) -/
theorem pe_callG (F : FnG X.prog X.w X.K X.mg X.base CX k f fd ps sp) (hg : X.A.guards = some []) (hr : Room k X.A) (gl : Gl X x) (hm : X.mg x = some (.ref f)) (hk : PySem.W.keepIn X.K (.ref f) = true) (hb : Binds X.K fd ps ds) (hd : Vals dvs ds)
    (hx : Passes CX X E) (ha : PA X (e :: es) t) (hdb : (x == ("__debug__" : Str)) = false := by decide)
    (he : starEach (e :: es) X.env = (false, eval e X.env) :: starEach es X.env := by rfl) (hpl : (backTo pos (starEach es X.env)).any (·.1) = false := by rfl) : PE X (.Call (.Name x p) (e :: es) [] pos) (tCall sp dvs E t) := by
  constructor
  intro pins s σ H Q I h
  refine wpAny_Call_Name_kw (ld_glob I gl hm ?_ hdb)
  exact PySem.W.callWith_K (h₀ := X.base) I.ok.mod.kin hk
    (thn (ha.run pos pins s σ H _ I h) fun us s1 ⟨vs, H1, I1, r, q⟩ => ⟨I1.kIn, F.run hg hr hb hd hx I1 r q⟩) he hpl
end
/-- True comes out, what stood stands, nothing went in or out -/
def Fine (s : Shared) (r : Result) (s' : Shared) : Prop :=
  r = .ok (.ret (.bool true)) ∧ OldK s.heap s'.heap ∧ s'.os = s.os ∧ AllBare s'.gens
/-- the law's call, from the state that the top leaves -/
theorem law_go {P : Program} {w : World} {K : PySem.W.Frag} {mg mb : Str → Option Value} {k : Nat} {fa a : Addr} {fd : FuncData} {x : Str} {sp : Sp} {s₁ : Shared} {vs : List Value} {ns : List Int}
    (inK : K.In s₁.heap) (gl : s₁.heap.Ns mainGlobals mg)
    (bl : s₁.heap.Ns builtinsNs mb) (boot : ∀ y : Str, y ≠ "__name__" → mb y = bootBuiltins y)
    (lim : s₁.heap.NoLimit) (noG : s₁.gens = #[])
    (script : s₁.heap.get? a = some { cls := .type "list", data := .seq vs.toArray })
    (allInt : IntsAre vs ns) (few : ns.length ≤ sizeLine) (hr : Room k callerA)
    (F : ∀ base : Heap, K.In base → base.Ns mainGlobals mg → FnG P w K mg base CX0 k fa fd [x] sp) (hbind : ∀ (s : Shared) (u : Value), BindsTo s fd ⟨[u], []⟩ [(x, u)])
    (hsp : ∀ H : Hp, Only H → SqL K H a (ns.map V.int) → sp [.ref a] H (fun v _ => v = .bl true) fun _ _ _ => False) :
    codeAny (model P w) callerA (.call (.ref fa) ⟨[.ref a], []⟩)
      (Fine s₁) s₁ := by
  -- nothing but the script is tracked; if the written part holds the script, nothing at all
  have main : ∀ H : Hp, Only H → SqL K H a (ns.map V.int) → HOk P w H s₁.heap → (∀ b, H b ≠ none → b = a ∧ K.lookup a = none) →
      codeAny (model P w) callerA (.call (.ref fa) ⟨[.ref a], []⟩)
      (Fine s₁) s₁ := by
    intro H hO hS hok hA
    have nsK : ∀ {b : Addr} {m : Str → Option Value}, s₁.heap.Ns b m → (hidT s₁.heap H).Ns b m := by
      rintro b m ⟨o, es, ep, e, d, r⟩
      refine ⟨o, es, ep, hidT_get e ?_, d, r⟩
      cases q : H b with
      | none => rfl
      | some u =>
        exfalso
        have eb := (hA b (by rw [q]; simp)).1
        rw [eb, script] at e
        rw [← Option.some.inj e] at d
        cases d
    have inB : K.In (hidT s₁.heap H) := fun b o e => hidT_get (inK b o e) (by
      cases q : H b with
      | none => rfl
      | some u =>
        exfalso
        obtain ⟨e1, e2⟩ := hA b (by rw [q]; simp)
        rw [e1, e2] at e
        cases e)
    obtain ⟨mc, l1, l2⟩ := lim
    have hM : Mod K mg (hidT s₁.heap H) := ⟨inB, nsK gl, ⟨mb, nsK bl, boot⟩, ⟨mc, nsK l1, l2⟩⟩
    have e0 : Env0 P w K mg (hidT s₁.heap H) callerA [] s₁ H := ⟨rfl, hM, fun b o e => of_hidT e, Nat.le_of_eq (hidT_size _ _), trivial, fun b z => absurd (show b ∈ ([] : List Addr) from z) (by simp), hok, .of_eq noG⟩
    have run := (F _ inB (nsK gl)).go callerA [] s₁ H ⟨[.ref a], []⟩ [.ref a] [.ref a] _ _ rfl hr e0 (hbind s₁ (.ref a)) (.cons rfl .nil) (hsp H hO hS)
    refine codeAny_mono run fun r s' h => ?_
    match r, h with
    | .ok (.ret u), h =>
      obtain ⟨v, H', os, bare, un, hok', r', q⟩ := h
      obtain rfl : v = .bl true := q
      obtain rfl : u = Value.bool true := r'
      refine ⟨rfl, OldK.of_keep fun b o e => ?_, os, bare⟩
      rcases hO b with z | ⟨ob, xs, z⟩
      · exact un.keep b o e z (fun z => absurd (show b ∈ ([] : List Addr) from z) (by simp)) (by simp)
      · obtain ⟨e1, _⟩ := hok b _ z
        obtain ⟨e2, _⟩ := hok' b _ (un.frzs b ob _ z)
        rw [e] at e1
        cases e1
        exact e2
  cases hk : K.lookup a with
  | some o =>
    have e := inK a o hk
    rw [script] at e
    cases e
    refine main (fun _ => none) (fun _ => .inl rfl) (.inr ⟨_, vs.toArray, _, hk, rfl, rfl, rfl, ?_, ?_⟩) (fun b u z => nomatch z) fun b z => absurd rfl z
    · rw [List.size_toArray, allInt.length]
      exact few
    · simpa using vals_ints allInt
  | none =>
    let o : Obj := { cls := .type "list", data := .seq vs.toArray }
    let T : HO := .frz o (.lst (ns.map V.int))
    have at_a : upd (fun _ => none) a T a = some T := upd_same
    refine main (upd (fun _ => none) a T) (fun b => ?_) (.inl (.inr ⟨o, at_a⟩)) (fun b u z => ?_) fun b z => ?_
    · by_cases h : b = a
      · exact .inr ⟨o, _, by rw [h]; exact at_a⟩
      · exact .inl (upd_ne h)
    · by_cases h : b = a
      · subst h
        rw [at_a] at z
        cases z
        exact ⟨script, by rw [List.length_map]; exact few, vs, _, vals_ints allInt, script⟩
      · rw [upd_ne h] at z
        cases z
    · by_cases h : b = a
      · exact ⟨h, hk⟩
      · exact absurd (upd_ne h) z
/-- what k_head leaves, by the law's promise -/
theorem walk_go {l : PySem.W.OpenLaw} {n k : Nat} {q : Program} {loose : List Str} {XP : (Str → Option Value) → Heap → Prop} {YP : World → Heap → Prop} {d : DefRec} {K : Params → PySem.W.Frag} {sp : PySem.W.Frag → Sp} {x : Str}
    (most : l.most = some n) (few : n ≤ sizeLine)
    (nodf : d.params.defaults = []) (hr : Room k callerA)
    (hY : ∀ (w : World) (h : Heap), YP w h → (K w.params).In h)
    (F : ∀ (w : World) (mg : Str → Option Value) (fa : Addr) (h : Heap),
      (K w.params).In h → h.Ns mainGlobals mg → mg d.name = some (.ref fa) →
      ∃ fd : FuncData, (∀ (s : Shared) (u : Value), BindsTo s fd ⟨[u], []⟩ [(x, u)]) ∧ ∀ base : Heap, (K w.params).In base → base.Ns mainGlobals mg → FnG l.prog w (K w.params) mg base CX0 k fa fd [x] (sp (K w.params)))
    (hsp : ∀ (K : PySem.W.Frag) (H : Hp) (a : Addr) (ns : List Int), ns.length ≤ n → Only H → SqL K H a (ns.map V.int) → sp K [.ref a] H (fun v _ => v = .bl true) fun _ _ _ => False) :
    PySem.W.WalkO q loose XP YP l.row.toRowW d []
      (fun f vs => PySem.call f vs) := by
  refine Att.attach_call most nodf
    fun w _ s₁ mg mb fa _ _ _ _ a vs ns top Y _ _ _ atF obj allInt len noG => ?_
  have inK := hY w _ Y
  obtain ⟨fd, binds, keeps⟩ := F w mg fa _ inK top.T.g atF
  exact law_go inK top.T.g top.T.b top.T.builtins top.T.nolimit noG obj allInt (Nat.le_trans len few) hr keeps binds
    fun H hO hS => hsp _ H a ns len hO hS
end G
set_option Elab.async false
set_option linter.all false
set_option maxRecDepth 100000
set_option maxHeartbeats 2000000
/-! U1: a method that says super().__init__(..): its own activation is known while it runs. -/
namespace G
open PySem PySem.Spec PyProof.Rows L2 NdefX

/-- one statement, of a body whose activation is on top -/
structure PSa (X : Cx) (body : List Stmt) (st : Stmt) (t : TS) : Prop where
  run : ∀ (pins : List (Addr × Obj)) (s : Shared) (σ : L2.St) (H : Hp) (D : Ends), Inv X pins σ H s → t D σ H → _root_.PySem.wpAt (model X.prog X.w) X.A (.func body X.env) (exec st X.env) (SP X pins D) X.xe s
/-- .. several -/
structure PSsa (X : Cx) (body : List Stmt) (st : List Stmt) (t : TS) : Prop where
  run : ∀ (pins : List (Addr × Obj)) (s : Shared) (σ : L2.St) (H : Hp) (D : Ends), Inv X pins σ H s → t D σ H → _root_.PySem.wpAt (model X.prog X.w) X.A (.func body X.env) (execs st X.env) (SP X pins D) X.xe s
section
variable {X : Cx} {body rest : List Stmt} {st : Stmt} {t u : TS}
theorem psa (h : PS X st t) : PSa X body st t := ⟨fun pins s σ H D I q => wpAt_of_wpAny (h.run pins s σ H D I q)⟩
theorem pssa {sts : List Stmt} (h : PSs X sts t) : PSsa X body sts t := ⟨fun pins s σ H D I q => wpAt_of_wpAny (h.run pins s σ H D I q)⟩
theorem pssa_cons (h1 : PSa X body st t) (h2 : PSsa X body rest u) : PSsa X body (st :: rest) (tSeq t u) := by
  refine ⟨fun pins s σ H D I h => ks_wpAt_execs_cons (ks_wpAt_mono (h1.run pins s σ H { D with nx := u D } I h) (fun f s1 q => ?_) fun _ _ z => z)⟩
  cases f with
  | next =>
    obtain ⟨σ', H', I', q⟩ := q
    exact h2.run pins s1 σ' H' D I' q
  | ret v => exact q
  | brk => exact q
  | cont => exact q
end

/-- what of the text the words super().__init__ rest on, said in the def at f, of the class at D, to an instance of the class at C; f2: the __init__ found -/
structure SupOf (P : Program) (K : PySem.W.Frag) (f cda cc D C f2 : Addr) (x : Str) : Prop where
  fn : ∃ oc od fd sl ar, K.lookup f = some ⟨oc, od, .func fd, sl⟩ ∧ (fd.params.posonlyargs ++ fd.params.args).head? = some ar ∧ ar.arg = x
  code : ∃ oc od vs sl file tf, K.lookup cda = some ⟨oc, od, .fields vs, sl⟩ ∧ vs[2]? = some (.str file tf) ∧ ((P.main.file : Str) == file) = true
  cell : ∃ oc od sl, K.lookup cc = some ⟨oc, od, .cell (some (.ref D)), sl⟩
  isc : ∃ cd, PySem.W.clsIn K D = some cd
  isC : ∃ cd, PySem.W.clsIn K C = some cd
  sub : PySem.W.mroIn K C (.ref D) = some true
  thd : PySem.W.nsIn K cStatics "thirdparty.any" = some none
  sup : PySem.W.ks_superIn K C D "__init__" = some (some (.ref f2))
  ty : PySem.W.typeIn K (.ref f2) = some (.type "function")
  fi : PySem.W.fnIn K f2 = true
  top : (P.main.scope.names.lookup ("super" : Str)).isSome = false

/-- super().__init__(..), the instance in the slot i -/
def tSup (i : Nat) (C : Addr) (sp : Sp) (E : XK) (t : TA) : TS := fun D σ H => ∃ a dx fs, σ[i]? = some (some (.ref a)) ∧ H a = some (.ins C dx fs) ∧
  t σ H fun vs H1 => sp (.ref a :: vs) H1 (fun _ H2 => D.nx σ H2) E

section
variable {X : Cx} {CX : CXT} {k i : Nat} {f cda cc D C f2 : Addr} {x : Str} {sp : Sp} {E : XK} {body : List Stmt} {e : Expr} {es : List Expr} {t : TA} {p0 p1 apos pos spos : Pos} {pl : Sem Bool}
theorem cls_at {h : Heap} {K : PySem.W.Frag} {D : Addr} {cd : ClassData} (I : K.In h) (hD : PySem.W.clsIn K D = some cd) : ∃ o, h.get? D = some o ∧ o.data = .cls cd := by
  unfold PySem.W.clsIn at hD
  split at hD
  · rename_i c d cd' sl ho
    cases hD
    exact ⟨_, I _ _ ho, rfl⟩
  · cases hD
/-- the object super() -/
theorem super_base {pins : List (Addr × Obj)} {s : Shared} {σ : L2.St} {H : Hp} {whole : Sem Value} {a dx : Addr} {fs : List (Str × V)} {Q : Value → Shared → Prop}
    (I : Inv X pins σ H s) (S : SupOf X.prog X.K f cda cc D C f2 x) (hfu : X.env.func = some f) (hco : X.env.code = .ref cda) (hcl : X.env.cells.lookup ("__class__" : Str) = some cc)
    (hks : X.env.kindOf "super" = some .globalImplicit) (hkc : X.env.kindOf "__class__" = some .free) (hkx : X.env.kindOf x = some .local) (hm : X.mg "super" = none) (hN : X.N[i]? = some x)
    (hs : σ[i]? = some (some (.ref a))) (ha : H a = some (.ins C dx fs))
    (h : ∀ s', Inv X pins σ H s' → s'.heap.get? s.heap.objs.size = some { cls := .type "super", dict := none, data := .fields #[.ref D, .ref a, .ref C], slots := #[] } → Q (.ref s.heap.objs.size) s') :
    _root_.PySem.wpAt (model X.prog X.w) X.A (.func body X.env) (attributeBase (.Call (.Name "super" p0) [] [] p1) "__init__" X.env whole) Q X.xe s := by
  obtain ⟨oc, od, fd, sl, ar, lk, hp, hx⟩ := S.fn
  obtain ⟨oc2, od2, vs, sl2, file, tf, lk2, hv, hfile⟩ := S.code
  obtain ⟨oc3, od3, sl3, lk3⟩ := S.cell
  obtain ⟨cdD, hD⟩ := S.isc
  have inK := I.kIn
  obtain ⟨oD, hD1, hD2⟩ := cls_at inK hD
  obtain ⟨mb, b1, b2⟩ := I.mod.blt
  obtain ⟨m, hn, hl⟩ := I.loc
  obtain ⟨u, ru, hlook⟩ := hl i x _ hN hs (.inl hkx)
  obtain rfl : u = Value.ref a := ru
  have hmx : m x = some (.ref a) := by
    rcases hlook with ⟨_, z⟩ | ⟨z, _⟩
    · exact z
    · rw [hkx] at z
      rcases z with z | z <;> cases z
  have hob : s.heap.get? a = some (PySem.W.instObj C dx) := (show ObjOk X.prog X.w H s.heap a (.ins C dx fs) from I.hok a _ ha).2.2.2.1
  refine ks_wpAt_super_base hks hkc (by decide) hfu (inK _ _ lk) rfl hp hco (inK _ _ lk2) rfl hv hfile S.top ?_
  refine PySem.W.ks_loadName_global I.ok.kind hks (Calls.loadGlobal_builtin (by rw [I.ok.glob]; exact I.mod.glob.keeps I.bk) hm (by rw [I.ok.blt]; exact b1.keeps I.bk) ((b2 "super" (by decide)).trans (by first | rfl | decide +kernel)) ⟨rfl, ?_⟩)
  refine wpAny_loadName_free I.ok.kind hkc hcl ⟨_, inK _ _ lk3, rfl⟩ ?_
  rw [hx]
  refine wpAny_loadName_local I.ok.kind hkx hn hmx ?_
  obtain ⟨hh, g, d, tk, os⟩ := s
  refine ks_wpAny_isType_cls hD1 hD2 ⟨rfl, ?_⟩
  refine ks_wpAny_call_super hD1 hD2 hob rfl (fun c z => nomatch z) (PySem.W.looks_mroIn inK S.sub) fun h' e1 kp => ?_
  exact h _ (I.kept (t' := tk) kp) e1
/-- super().__init__(e, ..) -/
theorem psa_super (S : SupOf X.prog X.K f cda cc D C f2 x) (F : FnR X.prog X.w X.K X.mg X.base CX k f2 sp) (hr : Room k X.A) (hx : Passes CX X E) (hfu : X.env.func = some f) (hco : X.env.code = .ref cda) (hcl : X.env.cells.lookup ("__class__" : Str) = some cc)
    (hks : X.env.kindOf "super" = some .globalImplicit) (hkc : X.env.kindOf "__class__" = some .free) (hkx : X.env.kindOf x = some .local) (hm : X.mg "super" = none) (hN : X.N[i]? = some x) (ha : PA X (e :: es) t)
    (hst : starEach (e :: es) X.env = (false, eval e X.env) :: starEach es X.env := by rfl) (hpl : (backTo pos (starEach es X.env)).any (·.1) = false := by rfl)
    (ht : eval (.Call (.Attribute (.Call (.Name "super" p0) [] [] p1) "__init__" apos) (e :: es) [] pos) X.env = (do
      let ov ← attributeBase (.Call (.Name "super" p0) [] [] p1) "__init__" X.env (eval (.Call (.Name "super" p0) [] [] p1) X.env)
      standAt apos.atName
      let (f, first) ← holding [ov] (getMethod ov "__init__" pl)
      callWith pos f first (backTo pos (starEach (e :: es) X.env)) []) := by rfl)
    (hw : swapsWith (.Call (.Attribute (.Call (.Name "super" p0) [] [] p1) "__init__" apos) (e :: es) [] pos) none spos.line X.env = pure false := by rfl) :
    PSa X body (.Expr (.Call (.Attribute (.Call (.Name "super" p0) [] [] p1) "__init__" apos) (e :: es) [] pos) spos) (tSup i C sp E t) := by
  refine ⟨fun pins s σ H Dn I h => ?_⟩
  obtain ⟨a, dx, fs, h1, h2, q⟩ := h
  refine ks_wpAt_Expr_any (ks_wpAt_MethodCall (pl := pl) (super_base I S hfu hco hcl hks hkc hkx hm hN h1 h2 fun s1 I1 hso => ?_) ht) I.quiet hw
  obtain ⟨cdC, hC⟩ := S.isC
  have inK := I1.kIn
  have hob : s1.heap.get? a = some (PySem.W.instObj C dx) := (show ObjOk X.prog X.w H s1.heap a (.ins C dx fs) from I1.hok a _ h2).2.2.2.1
  obtain ⟨oC, hC1, hC2⟩ := cls_at inK hC
  have hne : a ≠ C := fun z => by
    rw [z, hC1] at hob
    rw [Option.some.inj hob] at hC2
    cases hC2
  obtain ⟨of, hof, hofc⟩ : ∃ of, s1.heap.get? f2 = some of ∧ of.cls = .type "function" := by
    have ht' : (X.K.lookup f2).map (·.cls) = some (.type "function") := S.ty
    cases z : X.K.lookup f2 with
    | none =>
      rw [z] at ht'
      cases ht'
    | some of =>
      rw [z] at ht'
      exact ⟨of, inK _ _ z, Option.some.inj ht'⟩
  have hsup := S.sup
  unfold PySem.W.ks_superIn at hsup
  rw [hC] at hsup
  obtain ⟨hh, g, d, tk, os⟩ := s1
  refine ks_wpAny_getMethod_super hso (PySem.W.looks_opaque inK S.thd) (l₀ := cdC.mro) ((PySem.W.looks_clsIn inK hC).andThen .now) rfl inK hsup hof hofc hne (by decide) ?_
  have I2 := ClX.met_new (g := f2) (C := a) I1
  refine ClX.callwith_cm I2 (ClX.base_none I1 (Nat.le_refl _)) S.fi (thn (ha.run pos _ _ σ H _ I2 q) fun us s3 ⟨vs, H3, I3, r3, q3⟩ => ⟨⟨ClX.pin_at I3, I3.kIn⟩, ?_⟩) hst hpl
  refine thn (ClX.run_cm F hr hx I3 r3 q3) fun _ _ y => ?_
  obtain ⟨v, H4, I4, _, q4⟩ := y
  exact ⟨σ, H4, I4, q4⟩
end

/-! ### the method -/
/-- THE RULE: a method that captures __class__ (it says super()), by its body -/
theorem fnx_of {CX : CXT} {P : Program} {w : World} {K : PySem.W.Frag} {mg : Str → Option Value} {base : Heap} {k : Nat} {f cda cc : Addr} {name qual : Str} {params : Arguments} {body : List Stmt} {scope : Scope} {dV kV doc pm ct oc : Value} {an od : Option Addr}
    {osl : Array (Option Value)} {N ps : List Str} {sp : Sp} (lk : K.lookup f = some ⟨oc, od, .func (PySem.W.ksFn name qual params body scope dV kV doc pm an (.ref cda) ct cc), osl⟩) (hcd : PySem.W.codeIn K (.ref cda) qual = true)
    (hcell : ∃ oc od sl v, K.lookup cc = some ⟨oc, od, .cell v, sl⟩) (S : NScope N ps ["__class__"] scope) (len : ∀ vs H Q E, sp vs H Q E → vs.length = ps.length)
    (hbody : ∀ (A : Around) (outer : List Env) (s : Shared) (H : Hp) (vs : List V) (Q : VK) (E : XK), Room k (A.deeper (envF ⟨name, qual, params, body, scope, [("__class__", cc)], cda⟩ f s.heap.objs.size)) → sp vs H Q E →
      ∃ t, PSsa (ncx CX P w K mg base N ⟨name, qual, params, body, scope, [("__class__", cc)], cda⟩ f A outer s H E) body body t ∧ t { nx := fun _ H' => Q .non H', rt := Q } (startF N vs [none]) H) :
    FnOk P w K mg base CX (k + 1) f (PySem.W.ksFn name qual params body scope dV kV doc pm an (.ref cda) ct cc) ps sp := by
  refine ⟨len, fun A outer s H args us vs Q E hr e0 hb r hsp => ?_⟩
  have hl := len _ _ _ _ hsp
  have inK : K.In s.heap := e0.mod.kin.keeps fun b o e => (e0.bs b o e).1
  have lim : s.heap.NoLimit := e0.mod.nolimit.keeps fun b o e => (e0.bs b o e).1
  obtain ⟨oc3, od3, sl3, v3, lk3⟩ := hcell
  have C : CellsAt [(("__class__" : Str), cc)] ["__class__"] [none] s.heap H := by
    have one : ∀ {y : Str} {c : Addr}, List.lookup y [(("__class__" : Str), cc)] = some c → y = "__class__" ∧ c = cc := fun {y c} z => by
      have z2 := PySem.mem_of_lookup z
      rw [List.mem_singleton] at z2
      exact ⟨congrArg Prod.fst z2, congrArg Prod.snd z2⟩
    refine ⟨rfl, fun y c z => ?_, fun y y' c z z' => (one z).1.trans (one z').1.symm, fun i y z => ?_⟩
    · obtain ⟨_, rfl⟩ := one z
      exact ⟨(e0.bs _ _ (e0.mod.kin _ _ lk3)).2, v3, _, inK _ _ lk3, rfl⟩
    · have hy : y = "__class__" := by
        have z2 := List.mem_of_getElem? z
        rw [List.mem_singleton] at z2
        exact z2
      subst hy
      refine ⟨cc, by simp [List.lookup], fun v z => ?_⟩
      cases i with
      | zero => cases z
      | succ j => cases z
  refine codeAny_call_function hr.depth (inK _ _ lk) rfl S.co S.gen rfl (PySem.W.codeRec_of inK hcd) (hb _ _ _ _ ?_)
  refine wpAny_newFunctionEnv S.nocell (fun ⟨n, _⟩ hy => S.par n (List.of_mem_zip hy).1) (fun h₁ hns hsb => ⟨lim.fresh _ hsb, ?_⟩) S.kind
  show codeAny _ _ (.func body (envF ⟨name, qual, params, body, scope, [("__class__", cc)], cda⟩ f s.heap.objs.size)) _ _
  refine ks_codeAny_funcAt ?_
  have kp : ∀ b o, s.heap.get? b = some o → h₁.get? b = some o := fun b o e => hsb.extBut b o (Nat.ne_of_lt (Heap.lt_size e)) (Heap.get?_push_of_some _ e)
  obtain ⟨t, ht, hq⟩ := hbody A outer s H vs Q E (hr.deeper _) hsp
  have I : Inv (ncx CX P w K mg base N ⟨name, qual, params, body, scope, [("__class__", cc)], cda⟩ f A outer s H E) [] (startF N vs [none]) H { s with heap := h₁, toks := s.toks + (ps.zip us).length } := inv_startN S hr.hd e0 hl r C hns kp
  refine ks_wpAt_mono (ht.run [] _ (startF N vs [none]) H _ I hq) (fun fl s' hs => ?_) fun e s' hs => hs
  have fin : ∀ {σ' : L2.St} {H' : Hp} {v : V} {u : Value}, Inv (ncx CX P w K mg base N ⟨name, qual, params, body, scope, [("__class__", cc)], cda⟩ f A outer s H E) [] σ' H' s' → L2.RelV v u → Q v H' → CE outer P w H s Q u s' :=
    fun {σ' H' v u} J rv q => ⟨v, H', J.os, J.bare, J.base, J.hok, rv, q⟩
  cases fl with
  | ret u =>
    obtain ⟨v, σ', H', J, rv, q⟩ := hs
    exact fin J rv q
  | next =>
    obtain ⟨σ', H', J, q⟩ := hs
    exact fin (v := V.non) (u := Value.none) J rfl q
  | brk =>
    obtain ⟨_, _, _, q⟩ := hs
    exact False.elim q
  | cont =>
    obtain ⟨_, _, _, q⟩ := hs
    exact False.elim q
end G
set_option Elab.async false
set_option linter.all false
set_option maxRecDepth 100000
set_option maxHeartbeats 2000000
/-! G3: a cell, its box, a draw from it. -/
namespace G
open PySem PySem.Spec PyProof.Rows L2
def topS (i : Nat) : Stmt := PySem.Challenge.pw_listviews_k05_leaves_called.main.body.getD i (.Pass ⟨0, 0, 0, 0⟩)
abbrev sCell : Stmt := topS 46
abbrev sBox : Stmt := topS 47
abbrev sTake : Stmt := topS 48
theorem scCell : FnScope ["_law_script", "_law_k"] ["_law_script", "_law_k"] (defScope sCell) := ⟨rfl, rfl, rfl, by decide +kernel, rfl, by decide +kernel, by decide +kernel⟩
theorem scBox : FnScope ["_law_cell_here"] ["_law_cell_here"] (defScope sBox) := ⟨rfl, rfl, rfl, by decide +kernel, rfl, by decide +kernel, by decide +kernel⟩
theorem scTake : FnScope ["_law_box_here", "_law_many", "_law_digit", "_law_mixed_here"] ["_law_box_here", "_law_many"] (defScope sTake) := ⟨rfl, rfl, rfl, by decide +kernel, rfl, by decide +kernel, by decide +kernel⟩
/-- all but b stands as it stood -/
def But (b : Addr) (H H' : Hp) : Prop := ∀ c o, c ≠ b → H c = some o → H' c = some o
theorem But.refl (b : Addr) (H : Hp) : But b H H := fun _ _ _ h => h
theorem But.trans {b : Addr} {H H1 H2 : Hp} (x : But b H H1) (y : But b H1 H2) : But b H H2 := fun c o n h => y c o n (x c o n h)
theorem But.upd {b : Addr} {H : Hp} {o : HO} : But b H (upd H b o) := fun c u n h => by
  rw [upd_ne n]
  exact h
theorem But.new {b p : Addr} {H : Hp} {o : HO} (h : H p = none) : But b H (L2.upd H p o) := fun c u n e => by
  rw [upd_ne (ne_of_none e h)]
  exact e
theorem But.same {b : Addr} {H H' : Hp} (h : Same H H') : But b H H' := fun c o _ e => h c o e
theorem Same.new {p : Addr} {H : Hp} {o : HO} (h : H p = none) : Same H (upd H p o) := fun c u e => by
  rw [upd_ne (ne_of_none e h)]
  exact e
/-- a box from which at most n draws were made -/
def BoxAt (H : Hp) (b : Addr) (n : Nat) : Prop := ∃ x y z : Int, H b = some (.lst [.int x, .int y, .int z]) ∧ 0 ≤ x ∧ 0 ≤ y ∧ y < 2147483629 ∧ 0 ≤ z ∧ z ≤ n
theorem BoxAt.mono {H : Hp} {b : Addr} {n m : Nat} (h : BoxAt H b n) (le : n ≤ m) : BoxAt H b m := by
  obtain ⟨x, y, z, e, h1, h2, h3, h4, h5⟩ := h
  exact ⟨x, y, z, e, h1, h2, h3, h4, by omega⟩
theorem BoxAt.keep {H H' : Hp} {b : Addr} {n : Nat} (h : BoxAt H b n) (s : ∀ o, H b = some o → H' b = some o) : BoxAt H' b n := by
  obtain ⟨x, y, z, e, r⟩ := h
  exact ⟨x, y, z, s _ e, r⟩
/-- a draw is one of so many -/
theorem draw_at {r m : Int} {n : Nat} (h0 : 0 ≤ r) (h1 : r < m) (e : m = n) : ∃ j : Nat, r = j ∧ j < n := ⟨r.toNat, by omega, by omega⟩
def spCell' (K : PySem.W.Frag) : Sp := fun vs H Q _ => ∃ (a : Addr) (ns : List Int) (z : Int), vs = [.ref a, .int z] ∧ SqL K H a (ns.map V.int) ∧ 0 ≤ z ∧ z < 1000 ∧ ∀ i : Int, Q (.int i) H
def spBox : Sp := fun vs H Q _ => ∃ i : Int, vs = [.int i] ∧ ∀ (b : Addr) (H' : Hp), H b = none → Same H H' → BoxAt H' b 0 → Q (.ref b) H'
def spTake : Sp := fun vs H Q _ => ∃ (b : Addr) (m : Int) (n : Nat), vs = [.ref b, .int m] ∧ BoxAt H b n ∧ n ≤ 100000 ∧ 0 < m ∧ m < 2 ^ 200 ∧
  ∀ (r : Int) (H' : Hp), 0 ≤ r → r < m → BoxAt H' b (n + 1) → But b H H' → Q (.int r) H'
section
variable {P : Program} {w : World} {K : PySem.W.Frag} {mg : Str → Option Value} {base : Heap}
theorem ok_cell {f : Addr} {fd : FuncData} (F : Fun K "_law_cell" "_law_cell" sCell f fd) (ml : mg "len" = none) : FnOk P w K mg base CX0 1 f fd ["_law_script", "_law_k"] (spCell' K) := by
  refine F.ok scCell (fun vs H Q E h => ?_) (fun cdv A outer s H vs Q E hr h => ?_)
  · obtain ⟨a, ns, j, rfl, _⟩ := h
    rfl
  · obtain ⟨a, ns, z, rfl, hS, z0, z1, q⟩ := h
    obtain ⟨j, rfl, hj⟩ := draw_at (n := 1000) z0 z1 rfl
    refine ⟨_, pss_cons (ps_if (pt_cmpR op_lt (pv 1) (pe_callB call_len_seq (by rfl) ml PySem.boot_len (pa_cons (pv 0) pa_nil)) (nomark _))
        (pss_one (ps_ret (pe_ix ix_list (pv 0) (pv 1) (fun _ _ => rfl)))) pss_nil)
      (pss_one (ps_ret (pe_op op_add (pe_op op_mul pe_int (pv 1)) pe_int))), ?_⟩
    refine ⟨_, rfl, _, rfl, a, _, rfl, .inl hS, _, _, rfl, rfl, _, rfl, ite2 (fun e => ?_) (fun _ => ?_)⟩
    · have e1 : (j : Int) < ((ns.map V.int).length : Nat) := of_decide_eq_true e
      have e2 : j < ns.length := by
        rw [List.length_map] at e1
        omega
      exact ⟨_, rfl, _, rfl, a, _, _, .int ns[j], rfl, rfl, hS, atI_nat (by rw [List.getElem?_map, List.getElem?_eq_getElem e2] <;> rfl), q _⟩
    · exact ⟨_, rfl, _, _, rfl, rfl, .inl ⟨by decide, by decide⟩, _, _, rfl, rfl, q _⟩
theorem ok_box {f : Addr} {fd : FuncData} (F : Fun K "_law_box" "_law_box" sBox f fd) (mm : mg "max" = none) : FnOk P w K mg base CX0 1 f fd ["_law_cell_here"] spBox := by
  refine F.ok scBox (fun vs H Q E h => ?_) (fun cdv A outer s H vs Q E hr h => ?_)
  · obtain ⟨i, rfl, _⟩ := h
    rfl
  · obtain ⟨i, rfl, q⟩ := h
    refine ⟨_, pss_one (ps_ret (pe_lst (pa_cons (pe_callB (call_max2 rfl) (by rfl) mm (by decide +kernel) (pa_cons pe_int (pa_cons (pe_op op_sub (pv 0) (pe_op op_pow pe_int pe_int)) pa_nil)))
      (pa_cons (pe_op op_mod (pv 0) pe_int) (pa_cons pe_int pa_nil))))), ?_⟩
    refine ⟨_, rfl, _, _, rfl, rfl, ⟨by decide, by decide, by decide⟩, _, _, rfl, rfl, _, _, rfl, _, rfl, _, _, rfl, rfl, (by show (0 : Int) < 2147483629; decide), (by show 3 ≤ sizeLine; decide), fun b hb => ?_⟩
    refine q b _ hb (Same.new hb) ⟨_, _, _, upd_same, ?_, Int.emod_nonneg _ (by decide), Int.emod_lt_of_pos _ (by decide), Int.le_refl _, Int.le_refl _⟩
    split <;> omega
theorem emod_in (a m : Int) (h : 0 < m) : 0 ≤ a % m ∧ a % m < m := ⟨Int.emod_nonneg _ (by omega), Int.emod_lt_of_pos _ h⟩
theorem ok_take {f : Addr} {fd : FuncData} (F : Fun K "_law_take" "_law_take" sTake f fd) : FnOk P w K mg base CX0 1 f fd ["_law_box_here", "_law_many"] spTake := by
  refine F.ok scTake (fun vs H Q E h => ?_) (fun cdv A outer s H vs Q E hr h => ?_)
  · obtain ⟨b, m, n, rfl, _⟩ := h
    rfl
  · obtain ⟨b, m, n, rfl, ⟨x, y, z, hb, hx, hy, hy2, hz, hzn⟩, hn, hm, hm2, q⟩ := h
    refine ⟨_, pss_cons (ps_if (pt_cmpR op_gt (pe_ix ix_list (pv 0) pe_int (fun _ _ => rfl)) pe_int (nomark _))
        (pss_cons (ps_set (i := 2) scTake.nd rfl (.inl rfl) (pe_op op_mod (pe_ix ix_list (pv 0) pe_int (fun _ _ => rfl)) (pv 1)))
        (pss_cons (ps_asg (pe_op op_fdivW (pe_ix ix_list (pv 0) pe_int (fun _ _ => rfl)) (pv 1)) (pg_sub (pv 0) pe_int set_list))
        (pss_one (ps_ret (pv 2))))) pss_nil)
      (pss_cons (ps_asg (pe_op op_add (pe_ix ix_list (pv 0) pe_int (fun _ _ => rfl)) pe_int) (pg_sub (pv 0) pe_int set_list))
      (pss_cons (ps_set (i := 3) scTake.nd rfl (.inl rfl) (pe_op op_mod (pe_op op_pow (pe_op op_add (pe_op op_add (pe_ix ix_list (pv 0) pe_int (fun _ _ => rfl)) (pe_op op_mul pe_int (pe_ix ix_list (pv 0) pe_int (fun _ _ => rfl)))) pe_int) pe_int) pe_int))
      (pss_cons (ps_set (i := 3) scTake.nd rfl (.inl rfl) (pe_op op_mod (pe_op op_pow (pe_op op_add (pv 3) (pe_op op_mul pe_int (pe_ix ix_list (pv 0) pe_int (fun _ _ => rfl)))) pe_int) pe_int))
      (pss_one (ps_ret (pe_op op_mod (pe_op op_fdivW (pv 3) pe_int) (pv 1))))))), ?_⟩
    -- if box[0] > 0
    refine ⟨_, rfl, b, _, 0, .int x, rfl, rfl, .of hb, rfl, _, _, rfl, rfl, _, rfl, ite2 (fun e => ?_) (fun _ => ?_)⟩
    · refine ⟨_, rfl, b, _, 0, .int x, rfl, rfl, .of hb, rfl, _, rfl, _, _, rfl, rfl, hm, ?_⟩
      refine ⟨_, rfl, b, _, 0, .int x, rfl, rfl, .of hb, rfl, _, rfl, _, _, rfl, rfl, wide_div hm (b := 200) (by omega) (by decide) (by decide), ?_⟩
      refine ⟨_, rfl, b, _, 0, 0, rfl, rfl, hb, rfl, _, rfl, ?_⟩
      have r := emod_in x m hm
      exact q _ _ r.1 r.2 ⟨_, _, _, upd_same, Int.ediv_nonneg hx (by omega), hy, hy2, hz, by omega⟩ But.upd
    · refine ⟨_, rfl, b, _, 2, .int z, rfl, rfl, .of hb, rfl, _, _, rfl, rfl, ?_⟩
      refine ⟨_, rfl, b, _, 2, 2, rfl, rfl, hb, rfl, ?_⟩
      have hb' : (upd H b (.lst [.int x, .int y, .int (z + 1)])) b = some (.lst [.int x, .int y, .int (z + 1)]) := upd_same
      refine ⟨_, rfl, b, _, 1, .int y, rfl, rfl, .of hb', rfl, _, rfl, b, _, 2, .int (z + 1), rfl, rfl, .of hb', rfl, _, _, rfl, rfl, .inl ⟨by decide, by decide⟩, _, _, rfl, rfl, _, _, rfl, rfl,
        _, _, rfl, rfl, ⟨by decide, by decide, by omega⟩, _, _, rfl, rfl, (by show (0 : Int) < 2147483647; decide), ?_⟩
      generalize h1 : ((y + 7351 * (z + 1) + 211) ^ (5 : Int).toNat : Int) = t1
      have r1 := emod_in t1 2147483647 (by decide)
      refine ⟨_, rfl, _, rfl, b, _, 2, .int (z + 1), rfl, rfl, .of hb', rfl, _, _, rfl, rfl, .inl ⟨by decide, by decide⟩, _, _, rfl, rfl, _, _, rfl, rfl, ⟨by decide, by decide, by omega⟩, _, _, rfl, rfl, (by show (0 : Int) < 2147483587; decide), ?_⟩
      generalize h2 : ((t1 % 2147483647 + 104729 * (z + 1)) ^ (3 : Int).toNat : Int) = t2
      refine ⟨_, rfl, _, _, rfl, rfl, wide_div (by decide) (b := 200) (by decide) (by decide) (by decide), _, rfl, _, _, rfl, rfl, hm, ?_⟩
      have r := emod_in (t2 % 2147483587 / 16) m hm
      exact q _ _ r.1 r.2 ⟨_, _, _, upd_same, hx, hy, hy2, by omega, by omega⟩ But.upd
end
end G
set_option Elab.async false
set_option linter.all false
set_option maxRecDepth 100000
set_option maxHeartbeats 2000000
/-! G5: what data in the heap keeps, its type, == of it. -/
namespace G
open PySem PySem.Spec PyProof.Rows L2
section
variable {K : PySem.W.Frag} {H H' : Hp}
mutual
theorem rp_same (s : Same H H') : ∀ (d : PyData) (v : V), Rp K H v d → Rp K H' v d
  | .none, _, h => by
    cases h
    exact .non
  | .bool b, _, h => by
    cases h
    exact .bl b
  | .int i, _, h => by
    cases h
    exact .int i
  | .str x, _, h => by
    cases h
    exact .str x
  | .list ds, _, h => by
    cases h with
    | lst e r => exact .lst (s _ _ e) (rp_sameAll s ds _ r)
  | .tuple ds, _, h => by
    cases h with
    | tup e r => exact .tup (s _ _ e) (rp_sameAll s ds _ r)
  | .dict ds, _, h => by
    cases h with
    | dic e r q => exact .dic (s _ _ e) (rp_sameK s ds _ r) (rp_sameV s ds _ q)
theorem rp_sameAll (s : Same H H') : ∀ (ds : List PyData) (vs : List V), RpAll K H vs ds → RpAll K H' vs ds
  | [], _, h => by
    cases h
    exact .nil
  | d :: ds, _, h => by
    cases h with
    | cons a b => exact .cons (rp_same s d _ a) (rp_sameAll s ds _ b)
theorem rp_sameK (s : Same H H') : ∀ (ds : List (PyData × PyData)) (vs : List V), RpAll K H vs (ds.map (·.1)) → RpAll K H' vs (ds.map (·.1))
  | [], _, h => by
    cases h
    exact .nil
  | (d, _) :: ds, _, h => by
    cases h with
    | cons a b => exact .cons (rp_same s d _ a) (rp_sameK s ds _ b)
theorem rp_sameV (s : Same H H') : ∀ (ds : List (PyData × PyData)) (vs : List V), RpAll K H vs (ds.map (·.2)) → RpAll K H' vs (ds.map (·.2))
  | [], _, h => by
    cases h
    exact .nil
  | (_, d) :: ds, _, h => by
    cases h with
    | cons a b => exact .cons (rp_same s d _ a) (rp_sameV s ds _ b)
end
theorem rp_len : ∀ {ds : List PyData} {vs : List V}, RpAll K H vs ds → vs.length = ds.length
  | [], _, h => by
    cases h
    rfl
  | _ :: ds, _, h => by
    cases h with
    | cons a b =>
      rw [List.length_cons, List.length_cons, rp_len b]
theorem rp_at : ∀ {ds : List PyData} {vs : List V} {i : Nat} {v : V}, RpAll K H vs ds → vs[i]? = some v → ∃ d, ds[i]? = some d ∧ Rp K H v d
  | [], _, i, v, h, e => by
    cases h
    simp at e
  | d :: ds, _, i, v, h, e => by
    cases h with
    | cons a b =>
      cases i with
      | zero =>
        have e' := Option.some.inj e
        subst e'
        exact ⟨d, rfl, a⟩
      | succ j => exact rp_at (ds := ds) (i := j) b (by simpa using e)
theorem rp_app : ∀ {ds : List PyData} {vs : List V} {v : V} {d : PyData}, RpAll K H vs ds → Rp K H v d → RpAll K H (vs ++ [v]) (ds ++ [d])
  | [], _, _, _, h, r => by
    cases h
    exact .cons r .nil
  | _ :: ds, _, _, _, h, r => by
    cases h with
    | cons a b => exact .cons a (rp_app b r)
theorem rp_set : ∀ {ds : List PyData} {vs : List V} {v : V} {d : PyData} (i : Nat), RpAll K H vs ds → Rp K H v d → RpAll K H (vs.set i v) (ds.set i d)
  | [], _, _, _, _, h, r => by
    cases h
    exact .nil
  | _ :: ds, _, _, _, i, h, r => by
    cases h with
    | cons a b =>
      cases i with
      | zero => exact .cons r b
      | succ j => exact .cons a (rp_set j b r)
theorem rp_ints : ∀ (is : List Int), RpAll K H (is.map V.int) (is.map PyData.int)
  | [] => .nil
  | i :: is => .cons (.int i) (rp_ints is)
mutual
theorem rp_dp : ∀ (d : PyData) (v : V), d.hasDict = false → Rp K H v d → Dp K H v d
  | .none, _, _, h => by
    cases h
    exact .non
  | .bool b, _, _, h => by
    cases h
    exact .bl b
  | .int i, _, _, h => by
    cases h
    exact .int i
  | .str x, _, _, h => by
    cases h
    exact .str x
  | .list ds, _, n, h => by
    cases h with
    | lst e r => exact .lst (.of e) (rp_dpAll ds _ (by simpa [PyData.hasDict] using n) r)
  | .tuple ds, _, n, h => by
    cases h with
    | tup e r => exact .tup (.of e) (rp_dpAll ds _ (by simpa [PyData.hasDict] using n) r)
  | .dict ds, _, n, h => by simp [PyData.hasDict] at n
theorem rp_dpAll : ∀ (ds : List PyData) (vs : List V), PyData.hasDictAll ds = false → RpAll K H vs ds → DpAll K H vs ds
  | [], _, _, h => by
    cases h
    exact .nil
  | d :: ds, _, n, h => by
    simp only [PyData.hasDictAll, Bool.or_eq_false_iff] at n
    cases h with
    | cons a b => exact .cons (rp_dp d _ n.1 a) (rp_dpAll ds _ n.2 b)
end
/-- the name of a thing's type -/
def tyN : PyData → String
  | .none => "NoneType"
  | .bool _ => "bool"
  | .int _ => "int"
  | .str _ => "str"
  | .list _ => "list"
  | .tuple _ => "tuple"
  | .dict _ => "dict"
theorem rp_ty {v : V} {d : PyData} (h : Rp K H v d) : TyX K H v (.type (tyN d)) := by
  cases h with
  | non => exact .base .non
  | bl b => exact .base (.bl b)
  | int i => exact .base (.int i)
  | str x => exact .base (.str x)
  | lst e r => exact .base (.lst e)
  | tup e r => exact .base (.tup e)
  | dic e r q => exact .base (.dK e)
end
/-- H without what stands at b -/
def hide (b : Addr) (H : Hp) : Hp := fun a => if a = b then none else H a
theorem hide_same (b : Addr) (H : Hp) : Same (hide b H) H := fun a o e => by
  by_cases h : a = b
  · rw [show hide b H a = none from if_pos h] at e
    cases e
  · rwa [show hide b H a = H a from if_neg h] at e
theorem hide_ne {b a : Addr} {H : Hp} (h : a ≠ b) : hide b H a = H a := if_neg h
theorem hide_at {b : Addr} {H : Hp} : hide b H b = none := if_pos rfl
theorem hide_but {b : Addr} {H H' : Hp} (h : But b H H') : Same (hide b H) (hide b H') := fun a o e => by
  have n : a ≠ b := fun z => by
    rw [z, hide_at] at e
    cases e
  rw [hide_ne n] at e ⊢
  exact h a o n e
theorem hide_upd {b : Addr} {H : Hp} {o : HO} : hide b (upd H b o) = hide b H := by
  funext a
  by_cases h : a = b
  · rw [h, hide_at, hide_at]
  · rw [hide_ne h, hide_ne h, upd_ne h]
/-- what is new is not in what stood -/
theorem hide_new {b : Addr} {H : Hp} (h : H b = none) : Same H (hide b H) := fun a o e => by
  rw [hide_ne (ne_of_none e h)]
  exact e
theorem hide_mono {b : Addr} {H H' : Hp} (h : Same H H') : Same (hide b H) (hide b H') := hide_but fun c o _ e => h c o e
theorem hide_hide {b c : Addr} {H : Hp} : hide b (hide c H) = hide c (hide b H) := by
  funext a
  unfold hide
  split <;> split <;> rfl
end G
set_option Elab.async false
set_option linter.all false
set_option maxRecDepth 100000
set_option maxHeartbeats 2000000
/-! V3: the items of a list, in a drawn order. -/
namespace G
open PySem PySem.Spec PyProof.Rows L2
abbrev sMixed : Stmt := topS 49
theorem scMixed : FnScope ["_law_box_here", "_law_some", "_law_left", "_law_found"] ["_law_box_here", "_law_some"] (defScope sMixed) := ⟨rfl, rfl, rfl, by decide +kernel, rfl, by decide +kernel, by decide +kernel⟩
/-- data that == takes: no dict, texts that can be compared, not too deep -/
def lay (d : PyData) : Prop := d.hasDict = false ∧ d.canLay0 = true ∧ d.depth ≤ 60
theorem lay_all : ∀ {ds : List PyData}, (∀ d ∈ ds, lay d) → PyData.hasDictAll ds = false ∧ PyData.canLayAll0 ds = true ∧ PyData.depthAll ds ≤ 60
  | [], _ => ⟨rfl, rfl, Nat.zero_le _⟩
  | d :: ds, h => by
    obtain ⟨a1, a2, a3⟩ := h d List.mem_cons_self
    obtain ⟨b1, b2, b3⟩ := lay_all (ds := ds) fun e he => h e (List.mem_cons_of_mem _ he)
    refine ⟨?_, ?_, ?_⟩
    · rw [PyData.hasDictAll, a1, b1]
      rfl
    · rw [PyData.canLayAll0, a2, b2]
      rfl
    · rw [PyData.depthAll]
      exact Nat.max_le.mpr ⟨a3, b3⟩
theorem lay_shaped {d : PyData} (h : lay d) : SeqAt.shaped d = true := by
  unfold SeqAt.shaped
  rw [h.2.1, decide_eq_true (Nat.le_trans h.2.2 (by decide))]
  rfl
theorem lay_list {ds : List PyData} (h : ∀ d ∈ ds, lay d) : SeqAt.shaped (.list ds) = true := by
  obtain ⟨_, b2, b3⟩ := lay_all h
  unfold SeqAt.shaped
  rw [PyData.canLay0, b2, decide_eq_true (show (PyData.list ds).depth ≤ 64 by rw [PyData.depth]; omega)]
  rfl
/-- values and what they show -/
abbrev Vd := V × PyData
theorem rp_pairs {K : PySem.W.Frag} {H : Hp} : ∀ {qs : List Vd}, (∀ p ∈ qs, Rp K H p.1 p.2) → RpAll K H (qs.map (·.1)) (qs.map (·.2))
  | [], _ => .nil
  | p :: qs, h => .cons (h p List.mem_cons_self) (rp_pairs fun q hq => h q (List.mem_cons_of_mem _ hq))
theorem dp_pairs {K : PySem.W.Frag} {H : Hp} {qs : List Vd} (h : ∀ p ∈ qs, Rp K H p.1 p.2) (l : ∀ p ∈ qs, lay p.2) : DpAll K H (qs.map (·.1)) (qs.map (·.2)) :=
  rp_dpAll _ _ (lay_all (ds := qs.map (·.2)) fun d hd => by
    obtain ⟨p, hp, rfl⟩ := List.mem_map.mp hd
    exact l p hp).1 (rp_pairs h)
theorem erase_map {α β : Type} (f : α → β) : ∀ (l : List α) (j : Nat), (l.map f).eraseIdx j = (l.eraseIdx j).map f
  | [], _ => rfl
  | _ :: _, 0 => rfl
  | x :: l, j + 1 => by
    show f x :: (l.map f).eraseIdx j = f x :: (l.eraseIdx j).map f
    rw [erase_map f l j]
theorem erase_perm {α : Type} : ∀ {l : List α} {j : Nat} (h : j < l.length), ([l[j]] ++ l.eraseIdx j).Perm l
  | _ :: _, 0, _ => .refl _
  | x :: l, j + 1, h => by
    have hj : j < l.length := by simpa using h
    have ih := erase_perm hj
    show (l[j] :: x :: l.eraseIdx j).Perm (x :: l)
    exact (List.Perm.swap x _ _).trans (List.Perm.cons x ih)
/-- some: any order of its items, in a new list -/
def spMixed (K : PySem.W.Frag) : Sp := fun vs H Q _ => ∃ (b a : Addr) (n : Nat) (ps : List Vd), vs = [.ref b, .ref a] ∧ BoxAt H b n ∧ n + ps.length ≤ 100000 ∧ (SqL K H a (ps.map (·.1)) ∨ SqT K H a (ps.map (·.1))) ∧
  (∀ p ∈ ps, lay p.2 ∧ ∀ H', But b H H' → Rp K H' p.1 p.2) ∧
  ∀ (p : Addr) (H' : Hp) (qs : List Vd), qs.Perm ps → H p = none → H' p = some (.lst (qs.map (·.1))) → BoxAt H' b (n + ps.length) → But b H H' → Q (.ref p) H'
theorem eqv_nil (ds : List PyData) : PyData.eqv (.list ds) (.list []) = ds.isEmpty := by
  cases ds with
  | nil => rfl
  | cons d ds => rfl
section
variable {P : Program} {w : World} {K : PySem.W.Frag} {mg : Str → Option Value} {base : Heap}
theorem ok_mixed {f fT : Addr} {fd fdT : FuncData} (F : Fun K "_law_mixed" "_law_mixed" sMixed f fd) (T : Fun K "_law_take" "_law_take" sTake fT fdT) (bT : Binds K fdT ["_law_box_here", "_law_many"] []) (gT : mg "_law_take" = some (.ref fT))
    (ml : mg "len" = none) (mL : mg "list" = none) : FnOk P w K mg base CX0 2 f fd ["_law_box_here", "_law_some"] (spMixed K) := by
  refine F.ok scMixed (fun vs H Q E h => ?_) (fun cdv A outer s H vs Q E hr h => ?_)
  · obtain ⟨b, a, n, ps, rfl, _⟩ := h
    rfl
  · obtain ⟨b, a, n, ps, rfl, B, hn, hS, hp, q⟩ := h
    have big : ∀ {k : Nat}, k ≤ 100000 → k < sizeLine := fun {k} h => by
      rw [sizeLine_eq]
      omega
    refine ⟨_, pss_cons (ps_par (i := 2) (j := 3) (by rfl) scMixed.nd rfl rfl (by decide) rfl rfl (pa_cons (pe_callTy call_list_of (by rfl) mL (by decide +kernel) (pa_cons (pv 1) pa_nil)) (pa_cons (pe_lst pa_nil) pa_nil)) (by rfl))
      (pss_cons (ps_while PassesOwn.never (pt_cmpR (op_neD hr.units) (pv 2) (pe_lst pa_nil) (nomark _))
        (pss_one (ps_expr (pe_bm PySem.F.plainAttrs_list PySem.F.slot_list_append PySem.F.type_list_append mt_append (pv 3) (pa_cons
          (pe_bm PySem.F.plainAttrs_list PySem.F.slot_list_pop PySem.F.type_list_pop mt_popAt (pv 2)
            (pa_cons (pe_call (ok_take T) hr rfl gT T.kp bT .nil pass0 (pa_cons (pv 0) (pa_cons (pe_callB call_len_seq (by rfl) ml PySem.boot_len (pa_cons (pv 2) pa_nil)) pa_nil))) pa_nil)) pa_nil)))))
      (pss_one (ps_ret (pv 3)))), ?_⟩
    refine ⟨_, rfl, a, _, rfl, hS, fun l hl => ⟨by decide, fun p hp0 => ⟨_, _, rfl, ?_⟩⟩⟩
    have nlp : l ≠ p := fun z => by
      rw [z, upd_same] at hp0
      cases hp0
    have hpn : H p = none := (upd_ne nlp.symm).symm.trans hp0
    have nbl : b ≠ l := by
      obtain ⟨_, _, _, e, _⟩ := B
      exact ne_of_none e hl
    have nbp : b ≠ p := by
      obtain ⟨_, _, _, e, _⟩ := B
      exact ne_of_none e hpn
    refine ⟨fun m σ H1 => ∃ qs rs : List Vd, m = qs.length ∧ σ = [some (.ref b), some (.ref a), some (.ref l), some (.ref p)] ∧ H1 l = some (.lst (qs.map (·.1))) ∧ H1 p = some (.lst (rs.map (·.1))) ∧
        (rs ++ qs).Perm ps ∧ BoxAt H1 b (n + rs.length) ∧ But b H H1, ⟨ps.length, ps, [], rfl, rfl, ?_, upd_same, .refl _, ?_, ?_⟩, ?_⟩
    · rw [upd_ne nlp, upd_same]
    · exact (B.keep fun o e => by rw [upd_ne nbp, upd_ne nbl]; exact e).mono (Nat.le_add_right _ _)
    · exact (But.new hl).trans (But.new hp0)
    · rintro m σ H1 ⟨qs, rs, rfl, rfl, el, ep, pm, B1, s1⟩
      have hq : ∀ x ∈ qs, x ∈ ps := fun x hx => pm.mem_iff.mp (List.mem_append_right _ hx)
      have hlen : rs.length + qs.length = ps.length := by
        rw [← List.length_append]
        exact pm.length_eq
      refine ⟨_, rfl, by decide, fun t ht => ?_⟩
      have nlt : l ≠ t := ne_of_none el ht
      have s2 : But b H (upd H1 t (.lst [])) := s1.trans (But.new ht)
      refine ⟨.list (qs.map fun x : Vd => x.2), .list [], .lst (xs := qs.map fun x : Vd => x.1) (.of (by rw [upd_ne nlt]; exact el)) (dp_pairs (fun x hx => (hp x (hq x hx)).2 _ s2) fun x hx => (hp x (hq x hx)).1), .lst (.of upd_same) .nil, lay_list (fun d hd => ?_), by rfl, _, rfl, ?_⟩
      · obtain ⟨x, hx, rfl⟩ := List.mem_map.mp hd
        exact (hp x (hq x hx)).1
      · rw [eqv_nil]
        cases qs with
        | nil =>
          refine iteF ?_
          refine ⟨_, rfl, ?_⟩
          rw [List.append_nil] at pm
          refine q p _ rs pm hpn ?_ ?_ s2
          · rw [upd_ne (ne_of_none ep ht)]
            exact ep
          · have e : rs.length = ps.length := pm.length_eq
            rw [← e]
            exact B1.keep fun o e => by rw [upd_ne (ne_of_none e ht)]; exact e
        | cons y ys =>
          refine iteT ?_
          have hlen' : rs.length + (ys.length + 1) = ps.length := hlen
          refine ⟨fun σ' H' => ∃ m', m' < (y :: ys).length ∧ ∃ qs rs : List Vd, m' = qs.length ∧ σ' = [some (.ref b), some (.ref a), some (.ref l), some (.ref p)] ∧ H' l = some (.lst (qs.map (·.1))) ∧ H' p = some (.lst (rs.map (·.1))) ∧
            (rs ++ qs).Perm ps ∧ BoxAt H' b (n + rs.length) ∧ But b H H', fun _ _ h => h, ?_⟩
          have ep2 : upd H1 t (.lst []) p = some (.lst (rs.map (·.1))) := by
            rw [upd_ne (ne_of_none ep ht)]
            exact ep
          have el2 : upd H1 t (.lst []) l = some (.lst ((y :: ys).map (·.1))) := by
            rw [upd_ne nlt]
            exact el
          have B2 : BoxAt (upd H1 t (.lst [])) b (n + rs.length) := B1.keep fun o e => by rw [upd_ne (ne_of_none e ht)]; exact e
          refine ⟨_, rfl, .inl ⟨rfl, _, .of ep2⟩, _, rfl, .inl ⟨rfl, _, .of el2⟩, _, rfl, _, rfl, l, _, rfl, .inl (.of el2), b, _, n + rs.length, rfl, B2, by omega, ?_, ?_, fun r H3 r0 r1 B3 s3 => ?_⟩
          · rw [List.length_map]
            show (0 : Int) < ((ys.length + 1 : Nat) : Int)
            omega
          · rw [List.length_map]
            show ((ys.length + 1 : Nat) : Int) < _
            have : ys.length + 1 ≤ 100000 := by omega
            omega
          · obtain ⟨j, rfl, hj⟩ := draw_at r0 r1 (n := (y :: ys).length) (by rw [List.length_map])
            have el3 : H3 l = some (.lst ((y :: ys).map (·.1))) := s3 _ _ nbl.symm el2
            have ep3 : H3 p = some (.lst (rs.map (·.1))) := s3 _ _ nbp.symm ep2
            have hjm : j < ((y :: ys).map (·.1)).length := by
              rw [List.length_map]
              exact hj
            have hj5 : j < 100000 := by
              have e : (y :: ys).length = ys.length + 1 := rfl
              omega
            refine ⟨l, _, (j : Int), j, ((y :: ys)[j]).1, rfl, rfl, el3, by omega, by omega, ?_, ?_, ?_⟩
            · have := PySem.seqIndex_of (k := (j : Int)) (n := ((y :: ys).map (·.1)).length) (by omega) (by omega)
              rw [this]
              rfl
            · rw [List.getElem?_map, List.getElem?_eq_getElem hj]
              rfl
            · refine ⟨p, _, _, rfl, rfl, by rw [upd_ne nlp.symm]; exact ep3, ?_, ?_⟩
              · rw [List.length_map]
                exact big (by omega)
              · refine ⟨((y :: ys).eraseIdx j).length, ?_, (y :: ys).eraseIdx j, rs ++ [(y :: ys)[j]], rfl, rfl, ?_, ?_, ?_, ?_, ?_⟩
                · rw [List.length_eraseIdx, if_pos hj]
                  show (ys.length + 1) - 1 < ys.length + 1
                  omega
                · rw [upd_ne nlp, upd_same, erase_map]
                · rw [upd_same, List.map_append]
                  rfl
                · rw [List.append_assoc]
                  refine List.Perm.trans (List.Perm.append_left rs ?_) pm
                  exact erase_perm hj
                · rw [List.length_append, List.length_singleton]
                  exact B3.keep fun o e => by rw [upd_ne nbp, upd_ne nbl]; exact e
                · intro c o nc e
                  have e3 := (s2.trans s3) c o nc e
                  rw [upd_ne (ne_of_none e hpn), upd_ne (ne_of_none e hl)]
                  exact e3
end
end G
set_option Elab.async false
set_option linter.all false
set_option maxRecDepth 100000
set_option maxHeartbeats 2000000
/-! V4: drawn names. -/
namespace G
open PySem PySem.Spec PyProof.Rows L2
abbrev sNames : Stmt := topS 50
abbrev nNames : List Str := ["_law_box_here", "_law_many", "_law_letters", "_law_way", "_law_cut", "_law_begin", "_law_step", "_law_stem", "_law_k", "_law_found", "_law_letter", "_law_name"]
theorem scNames : FnScope nNames ["_law_box_here", "_law_many"] (defScope sNames) := ⟨rfl, rfl, rfl, by decide +kernel, rfl, by decide +kernel, by decide +kernel⟩
abbrev cs (z : Str) : List Nat := z.cps.toList
theorem cs_len (z : Str) : (cs z).length = z.length := by simp [cs, Str.length]
theorem cs_app (a b : Str) : cs (a ++ b) = cs a ++ cs b := TL.tl_append a b
theorem app_len (a b : Str) : (a ++ b).length = a.length + b.length := strLen_append a b
theorem small_size {n : Nat} (h : n ≤ 7000) : n ≤ sizeLine := by
  rw [sizeLine_eq]
  omega
theorem box_new {H : Hp} {b p : Addr} {n : Nat} {o : HO} (B : BoxAt H b n) (h : H p = none) : BoxAt (upd H p o) b n := B.keep fun o' e => Same.new h b o' e
theorem box_ne {H : Hp} {b p : Addr} {n : Nat} (B : BoxAt H b n) (h : H p = none) : p ≠ b := fun z => by
  obtain ⟨_, _, _, e, _⟩ := B
  rw [← z, h] at e
  cases e
theorem box_upd {H : Hp} {b p : Addr} {n : Nat} {o : HO} (B : BoxAt H b n) (h : p ≠ b) : BoxAt (upd H p o) b n := by
  obtain ⟨x, y, z, e, r⟩ := B
  exact ⟨x, y, z, (upd_ne h.symm).trans e, r⟩
/-- a store at what was new -/
theorem but_upd {b p : Addr} {H H1 : Hp} {o : HO} (k : But b H H1) (h : H p = none) : But b H (upd H1 p o) := fun c u n e => by
  rw [upd_ne (ne_of_none e h)]
  exact k c u n e
theorem free_of {b p : Addr} {H H' : Hp} (k : But b H H') (n : p ≠ b) (h : H' p = none) : H p = none := by
  cases e : H p with
  | none => rfl
  | some o =>
    rw [k p o n e] at h
    cases h
/-! ### names -/
def LowZ (z : Str) : Prop := ∀ c ∈ cs z, 97 ≤ c ∧ c ≤ 122
def NameZ (z : Str) : Prop := LowZ z ∧ 1 ≤ z.length ∧ z.length ≤ 8
def NameI (y : Str) (i : Nat) : Prop := LowZ y ∧ 1 ≤ y.length ∧ y.length ≤ 8 ∧ (26 ≤ i → y.length ≤ 7)
theorem LowZ.app {a b : Str} (h1 : LowZ a) (h2 : LowZ b) : LowZ (a ++ b) := fun c hc => by
  rw [cs_app] at hc
  rcases List.mem_append.mp hc with h | h
  · exact h1 c h
  · exact h2 c h
theorem LowZ.cut {a : Str} (h : LowZ a) (lo hi : Option Int) : LowZ (cutS a lo hi) := fun c hc => by
  have hc' : c ∈ ((cs a).drop _).take _ := hc
  exact h c (List.mem_of_mem_drop (List.mem_of_mem_take hc'))
theorem low_one {c : Nat} (h : 97 ≤ c ∧ c ≤ 122) : LowZ ⟨#[c]⟩ := fun x hx => by
  have : x ∈ [c] := hx
  rw [List.mem_singleton.mp this]
  exact h
theorem LowZ.lay {z : Str} (h : LowZ z) : lay (.str z) := by
  refine ⟨rfl, ?_, Nat.zero_le _⟩
  show z.cps.all (· < 0x110000) = true
  rw [Array.all_eq_true]
  intro i hi
  have := h z.cps[i] (by simp [cs])
  exact decide_eq_true (by omega)
abbrev abc : Str := "abcdefghijklmnopqrstuvwxyz"
theorem abc_low : LowZ abc := by
  have h : ((cs abc).all fun c => decide (97 ≤ c ∧ c ≤ 122)) = true := by decide +kernel
  exact fun c hc => of_decide_eq_true (List.all_eq_true.mp h c hc)
theorem abc_at {j : Nat} (hj : j < 26) : ∃ c, abc.cps[j]? = some c ∧ 97 ≤ c ∧ c ≤ 122 := by
  have h1 : j < abc.cps.size := hj
  refine ⟨abc.cps[j], by simp [h1], abc_low _ ?_⟩
  simp [cs]
theorem cut_first (z : Str) (k : Nat) : cs (cutS z none (some (k : Int))) = (cs z).take k := by
  show ((cs z).drop (HT.sIx z.length 0 none)).take (HT.sIx z.length z.length (some (k : Int)) - HT.sIx z.length 0 none) = _
  rw [HT.sIx_none, HT.sIx_nat z.length z.length k, List.drop_zero, ← cs_len, Nat.sub_zero]
  by_cases h : k ≤ (cs z).length
  · rw [Nat.min_eq_left h]
  · rw [Nat.min_eq_right (by omega), List.take_length, List.take_of_length_le (by omega)]
theorem cut_len (z : Str) (k : Nat) : (cutS z none (some (k : Int))).length = min k z.length := by
  rw [← cs_len, cut_first, List.length_take, cs_len]
def spNames : Sp := fun vs H Q _ => ∃ (b : Addr) (m n : Nat), vs = [.ref b, .int (m : Int)] ∧ BoxAt H b n ∧ n ≤ 50000 ∧ m ≤ 100 ∧
  ∀ (p : Addr) (H' : Hp) (zs : List Str), zs.length = m → (∀ z ∈ zs, NameZ z) → H p = none → H' p = some (.lst (zs.map V.str)) → BoxAt H' b (n + 11 + m) → But b H H' → Q (.ref p) H'
section
variable {P : Program} {w : World} {K : PySem.W.Frag} {mg : Str → Option Value} {base : Heap}
theorem ok_names {f fT fM : Addr} {fd fdT fdM : FuncData} (F : Fun K "_law_names" "_law_names" sNames f fd) (T : Fun K "_law_take" "_law_take" sTake fT fdT) (bT : Binds K fdT ["_law_box_here", "_law_many"] []) (gT : mg "_law_take" = some (.ref fT))
    (M : Fun K "_law_mixed" "_law_mixed" sMixed fM fdM) (bM : Binds K fdM ["_law_box_here", "_law_some"] []) (gM : mg "_law_mixed" = some (.ref fM)) (ml : mg "len" = none) (mL : mg "list" = none) (mr : mg "range" = none) :
    FnOk P w K mg base CX0 3 f fd ["_law_box_here", "_law_many"] spNames := by
  have GT : FnOk P w K mg base CX0 1 fT fdT ["_law_box_here", "_law_many"] spTake := ok_take T
  have GM : FnOk P w K mg base CX0 2 fM fdM ["_law_box_here", "_law_some"] (spMixed K) := ok_mixed M T bT gT ml mL
  refine F.ok scNames (fun vs H Q E h => ?_) (fun cdv A outer s H vs Q E hr h => ?_)
  · obtain ⟨b, m, n, rfl, _⟩ := h
    rfl
  · obtain ⟨b, m, n, rfl, B, hn, hm, q⟩ := h
    have hr1 := hr.mono (show 1 ≤ 2 by decide)
    obtain ⟨ts, psl, qsl⟩ : ∃ t, PSs (cxOf CX0 P w K mg base nNames "_law_names" (defScope sNames) f cdv A outer s H E).nox ((defBody sNames).drop 5) t ∧
        ∀ (way cut bg st : Nat) (z : Str) (x8 : Option V) (H1 : Hp), cut ≤ 7 → (26 < m → cut ≤ 6) → bg < 26 → st ≤ 17 → LowZ z → z.length = 7 → BoxAt H1 b (n + 11) → But b H H1 → t { nx := fun _ H' => Q .non H', rt := Q } [some (.ref b), some (.int (m : Int)), some (.str abc), some (.int (way : Int)), some (.int (cut : Int)), some (.int (bg : Int)), some (.int (st : Int)), some (.str z), x8, none, none, none] H1 := by
      refine ⟨_, pss_cons (ps_set (i := 9) scNames.nd rfl (.inl rfl) (pe_lst pa_nil))
      (pss_cons (ps_for PassesOwn.never rfl (pi_range1 rfl mr (pa_cons (pv 1) pa_nil)) (pg_name (i := 8) scNames.nd rfl (.inl rfl))
        (pss_cons (ps_set (i := 10) scNames.nd rfl (.inl rfl) (pe_item_str (pv 2) (pe_op op_mod (pe_op op_add (pv 5) (pe_op op_mul (pv 6) (pv 8))) pe_int) (fun _ _ => rfl)))
        (pss_cons (ps_set (i := 11) scNames.nd rfl (.inl rfl) (pe_op op_add_str (pe_slice sl_str (pv 7) po_none (po_some (pv 4))) (pv 10)))
        (pss_cons (ps_if (PW.pt (pw_and (pt_cmpR op_eq (pv 3) pe_int (nomark _)) (pw_and1 (pt_cmpR op_lt (pv 1) pe_int (nomark _)))))
          (pss_one (ps_set (i := 11) scNames.nd rfl (.inl rfl) (pe_op op_add_str (pv 10) (pe_slice sl_str (pv 7) po_none (po_some (pe_op op_mod (pe_op op_add (pv 4) (pe_op op_mul pe_int (pv 8))) pe_int)))))) pss_nil)
        (pss_one (ps_expr (pe_bm PySem.F.plainAttrs_list PySem.F.slot_list_append PySem.F.type_list_append mt_append (pv 9) (pa_cons
          (pe_ifExp (pt_cmpR op_lt (pv 8) pe_int (nomark _)) (pv 11) (pe_op op_add_str (pv 11) (pe_item_str (pv 2) (pe_op op_fdiv (pv 8) pe_int) (fun _ _ => rfl)))) pa_nil))))))))
      (pss_one (ps_ret (pv 9)))), ?_⟩
      intro way cut bg st z x8 H1 hcut hcut2 hbg hst hz hl B1 k1
      refine ⟨Nat.zero_le _, fun D hD => ?_⟩
      have nD := box_ne B1 hD
      have fD := free_of k1 nD hD
      refine ⟨_, rfl, _, rfl, by omega, by omega, ?_⟩
      rw [Int.toNat_natCast m]
      refine for_range (lo := 0) (n := m) (fun i σ H2 => ∃ (zs : List Str) (x8 x10 x11 : Option V), σ = [some (.ref b), some (.int (m : Int)), some (.str abc), some (.int (way : Int)), some (.int (cut : Int)), some (.int (bg : Int)), some (.int (st : Int)), some (.str z), x8, some (.ref D), x10, x11] ∧
        H2 D = some (.lst (zs.map V.str)) ∧ zs.length = i ∧ (∀ y ∈ zs, NameZ y) ∧ BoxAt H2 b (n + 11) ∧ But b H H2) ?_ ?_ ?_
      · exact ⟨[], x8, none, none, rfl, upd_same, rfl, (fun y h => nomatch h), box_new B1 hD, but_upd k1 fD⟩
      · rintro i σ H2 hi ⟨zs, x8, x10, x11, rfl, e2, hlz, hy, B2, k2⟩
        have r := emod_in ((bg : Int) + (st : Int) * (0 + (i : Int))) 26 (by decide)
        obtain ⟨j, ej, hj⟩ := draw_at r.1 r.2 (n := 26) rfl
        obtain ⟨c, hc, c97⟩ := abc_at hj
        refine ⟨_, rfl, _, rfl, _, rfl, _, rfl, _, _, rfl, rfl, .inl ⟨by omega, by omega⟩, _, _, rfl, rfl, _, _, rfl, rfl, (by show (0 : Int) < 26; decide), _, _, c, rfl, rfl, r.1, by omega, (show _ < ((26 : Nat) : Int) by omega), (by rw [ej]; exact hc), ?_⟩
        have lo := low_one c97
        have len1 : (⟨#[c]⟩ : Str).length = 1 := rfl
        generalize (⟨#[c]⟩ : Str) = lt at lo len1
        have cl := cut_len z cut
        refine ⟨_, rfl, _, rfl, _, rfl, z, rfl, small_size (by omega), _, rfl, _, _, rfl, rfl, small_size (by omega), ?_⟩
        have Y0 : LowZ (cutS z none (some (cut : Int)) ++ lt) ∧ 1 ≤ (cutS z none (some (cut : Int)) ++ lt).length ∧ (cutS z none (some (cut : Int)) ++ lt).length ≤ 8 ∧ (26 ≤ i → (cutS z none (some (cut : Int)) ++ lt).length ≤ 7) := by
          rw [app_len]
          exact ⟨(hz.cut _ _).app lo, by omega, by omega, fun _ => by omega⟩
        have r8 := emod_in ((cut : Int) + 3 * (0 + (i : Int))) 8 (by decide)
        refine ⟨_, rfl, rfl, _, rfl, ite2 (fun _ => ?_) (fun _ => ?_)⟩
        · refine ⟨_, rfl, _, _, rfl, rfl, _, rfl, ite2 (fun h27 => ?_) (fun _ => ?_)⟩
          · have hm27 : (m : Int) < 27 := of_decide_eq_true h27
            obtain ⟨j8, ej8, hj8⟩ := draw_at r8.1 r8.2 (n := 8) rfl
            have cl8 := cut_len z j8
            refine ⟨_, rfl, _, rfl, _, rfl, _, rfl, _, _, rfl, rfl, .inl ⟨by decide, by decide⟩, _, _, rfl, rfl, _, _, rfl, rfl, (by show (0 : Int) < 8; decide), _, rfl, z, rfl, small_size (by omega), _, _, rfl, rfl, ?_, ?_⟩
            · rw [ej8, len1]
              exact small_size (by omega)
            have Y : NameI (lt ++ cutS z none (some (((cut : Int) + 3 * (0 + (i : Int))) % 8))) i := by
              unfold NameI
              rw [ej8, app_len]
              exact ⟨lo.app (hz.cut _ _), by omega, by omega, fun h => by omega⟩
            revert Y
            generalize (lt ++ cutS z none (some (((cut : Int) + 3 * (0 + (i : Int))) % 8))) = y
            intro Y
            obtain ⟨y1, y2, y3, y4⟩ := Y
            have done : ∀ (u : Str) (x8 x10 x11 : Option V), NameZ u → ∃ (zs' : List Str) (x8' x10' x11' : Option V), [some (V.ref b), some (.int (m : Int)), some (.str abc), some (.int (way : Int)), some (.int (cut : Int)), some (.int (bg : Int)), some (.int (st : Int)), some (.str z), x8, some (.ref D), x10, x11] = [some (.ref b), some (.int (m : Int)), some (.str abc), some (.int (way : Int)), some (.int (cut : Int)), some (.int (bg : Int)), some (.int (st : Int)), some (.str z), x8', some (.ref D), x10', x11'] ∧
                upd H2 D (.lst (zs.map V.str ++ [.str u])) D = some (.lst (zs'.map V.str)) ∧ zs'.length = i + 1 ∧ (∀ y ∈ zs', NameZ y) ∧ BoxAt (upd H2 D (.lst (zs.map V.str ++ [.str u]))) b (n + 11) ∧ But b H (upd H2 D (.lst (zs.map V.str ++ [.str u]))) := fun u x8 x10 x11 hu => by
              refine ⟨zs ++ [u], x8, x10, x11, rfl, ?_, ?_, fun v hv => ?_, box_upd B2 nD, but_upd k2 fD⟩
              · rw [upd_same, List.map_append]
                rfl
              · rw [List.length_append, hlz]
                rfl
              · rcases List.mem_append.mp hv with hv | hv
                · exact hy v hv
                · rw [List.mem_singleton.mp hv]
                  exact hu
            have room : (zs.map V.str).length < sizeLine := by
              rw [List.length_map]
              exact small1000 (by omega)
            refine ⟨_, rfl, .inl ⟨rfl, _, .of e2⟩, _, rfl, _, _, rfl, rfl, _, rfl, ite2 (fun h26 => ?_) (fun h26 => ?_)⟩
            · exact ⟨_, rfl, D, _, _, rfl, rfl, e2, room, done y _ _ _ ⟨y1, y2, y3⟩⟩
            · have h26' : ¬ ((0 + (i : Int)) < 26) := fun h => h26 (decide_eq_true h)
              have yl := y4 (by omega)
              have hd : (0 + (i : Int)) / 26 = ((i / 26 : Nat) : Int) := by omega
              obtain ⟨c2, hc2, c297⟩ := abc_at (j := i / 26) (by omega)
              refine ⟨_, rfl, _, rfl, _, rfl, _, _, rfl, rfl, ⟨by decide, by decide⟩, _, _, c2, rfl, rfl, by omega, by omega, (show _ < ((26 : Nat) : Int) by omega), (by rw [hd]; exact hc2), _, _, rfl, rfl, ?_, D, _, _, rfl, rfl, e2, room, ?_⟩
              · show y.length + 1 ≤ sizeLine
                exact small_size (by omega)
              · have l2 : (y ++ (⟨#[c2]⟩ : Str)).length = y.length + 1 := app_len y ⟨#[c2]⟩
                exact done (y ++ ⟨#[c2]⟩) _ _ _ ⟨y1.app (low_one c297), by omega, by omega⟩
          · have Y : NameI (cutS z none (some (cut : Int)) ++ lt) i := Y0
            revert Y
            generalize (cutS z none (some (cut : Int)) ++ lt) = y
            intro Y
            obtain ⟨y1, y2, y3, y4⟩ := Y
            have done : ∀ (u : Str) (x8 x10 x11 : Option V), NameZ u → ∃ (zs' : List Str) (x8' x10' x11' : Option V), [some (V.ref b), some (.int (m : Int)), some (.str abc), some (.int (way : Int)), some (.int (cut : Int)), some (.int (bg : Int)), some (.int (st : Int)), some (.str z), x8, some (.ref D), x10, x11] = [some (.ref b), some (.int (m : Int)), some (.str abc), some (.int (way : Int)), some (.int (cut : Int)), some (.int (bg : Int)), some (.int (st : Int)), some (.str z), x8', some (.ref D), x10', x11'] ∧
                upd H2 D (.lst (zs.map V.str ++ [.str u])) D = some (.lst (zs'.map V.str)) ∧ zs'.length = i + 1 ∧ (∀ y ∈ zs', NameZ y) ∧ BoxAt (upd H2 D (.lst (zs.map V.str ++ [.str u]))) b (n + 11) ∧ But b H (upd H2 D (.lst (zs.map V.str ++ [.str u]))) := fun u x8 x10 x11 hu => by
              refine ⟨zs ++ [u], x8, x10, x11, rfl, ?_, ?_, fun v hv => ?_, box_upd B2 nD, but_upd k2 fD⟩
              · rw [upd_same, List.map_append]
                rfl
              · rw [List.length_append, hlz]
                rfl
              · rcases List.mem_append.mp hv with hv | hv
                · exact hy v hv
                · rw [List.mem_singleton.mp hv]
                  exact hu
            have room : (zs.map V.str).length < sizeLine := by
              rw [List.length_map]
              exact small1000 (by omega)
            refine ⟨_, rfl, .inl ⟨rfl, _, .of e2⟩, _, rfl, _, _, rfl, rfl, _, rfl, ite2 (fun h26 => ?_) (fun h26 => ?_)⟩
            · exact ⟨_, rfl, D, _, _, rfl, rfl, e2, room, done y _ _ _ ⟨y1, y2, y3⟩⟩
            · have h26' : ¬ ((0 + (i : Int)) < 26) := fun h => h26 (decide_eq_true h)
              have yl := y4 (by omega)
              have hd : (0 + (i : Int)) / 26 = ((i / 26 : Nat) : Int) := by omega
              obtain ⟨c2, hc2, c297⟩ := abc_at (j := i / 26) (by omega)
              refine ⟨_, rfl, _, rfl, _, rfl, _, _, rfl, rfl, ⟨by decide, by decide⟩, _, _, c2, rfl, rfl, by omega, by omega, (show _ < ((26 : Nat) : Int) by omega), (by rw [hd]; exact hc2), _, _, rfl, rfl, ?_, D, _, _, rfl, rfl, e2, room, ?_⟩
              · show y.length + 1 ≤ sizeLine
                exact small_size (by omega)
              · have l2 : (y ++ (⟨#[c2]⟩ : Str)).length = y.length + 1 := app_len y ⟨#[c2]⟩
                exact done (y ++ ⟨#[c2]⟩) _ _ _ ⟨y1.app (low_one c297), by omega, by omega⟩
        · have Y : NameI (cutS z none (some (cut : Int)) ++ lt) i := Y0
          revert Y
          generalize (cutS z none (some (cut : Int)) ++ lt) = y
          intro Y
          obtain ⟨y1, y2, y3, y4⟩ := Y
          have done : ∀ (u : Str) (x8 x10 x11 : Option V), NameZ u → ∃ (zs' : List Str) (x8' x10' x11' : Option V), [some (V.ref b), some (.int (m : Int)), some (.str abc), some (.int (way : Int)), some (.int (cut : Int)), some (.int (bg : Int)), some (.int (st : Int)), some (.str z), x8, some (.ref D), x10, x11] = [some (.ref b), some (.int (m : Int)), some (.str abc), some (.int (way : Int)), some (.int (cut : Int)), some (.int (bg : Int)), some (.int (st : Int)), some (.str z), x8', some (.ref D), x10', x11'] ∧
              upd H2 D (.lst (zs.map V.str ++ [.str u])) D = some (.lst (zs'.map V.str)) ∧ zs'.length = i + 1 ∧ (∀ y ∈ zs', NameZ y) ∧ BoxAt (upd H2 D (.lst (zs.map V.str ++ [.str u]))) b (n + 11) ∧ But b H (upd H2 D (.lst (zs.map V.str ++ [.str u]))) := fun u x8 x10 x11 hu => by
            refine ⟨zs ++ [u], x8, x10, x11, rfl, ?_, ?_, fun v hv => ?_, box_upd B2 nD, but_upd k2 fD⟩
            · rw [upd_same, List.map_append]
              rfl
            · rw [List.length_append, hlz]
              rfl
            · rcases List.mem_append.mp hv with hv | hv
              · exact hy v hv
              · rw [List.mem_singleton.mp hv]
                exact hu
          have room : (zs.map V.str).length < sizeLine := by
            rw [List.length_map]
            exact small1000 (by omega)
          refine ⟨_, rfl, .inl ⟨rfl, _, .of e2⟩, _, rfl, _, _, rfl, rfl, _, rfl, ite2 (fun h26 => ?_) (fun h26 => ?_)⟩
          · exact ⟨_, rfl, D, _, _, rfl, rfl, e2, room, done y _ _ _ ⟨y1, y2, y3⟩⟩
          · have h26' : ¬ ((0 + (i : Int)) < 26) := fun h => h26 (decide_eq_true h)
            have yl := y4 (by omega)
            have hd : (0 + (i : Int)) / 26 = ((i / 26 : Nat) : Int) := by omega
            obtain ⟨c2, hc2, c297⟩ := abc_at (j := i / 26) (by omega)
            refine ⟨_, rfl, _, rfl, _, rfl, _, _, rfl, rfl, ⟨by decide, by decide⟩, _, _, c2, rfl, rfl, by omega, by omega, (show _ < ((26 : Nat) : Int) by omega), (by rw [hd]; exact hc2), _, _, rfl, rfl, ?_, D, _, _, rfl, rfl, e2, room, ?_⟩
            · show y.length + 1 ≤ sizeLine
              exact small_size (by omega)
            · have l2 : (y ++ (⟨#[c2]⟩ : Str)).length = y.length + 1 := app_len y ⟨#[c2]⟩
              exact done (y ++ ⟨#[c2]⟩) _ _ _ ⟨y1.app (low_one c297), by omega, by omega⟩
      · rintro σ H2 ⟨zs, x8, x10, x11, rfl, e2, hlz, hy, B2, k2⟩
        exact ⟨_, rfl, q D H2 zs hlz hy fD e2 (B2.mono (by omega)) k2⟩
    obtain ⟨tl, pl, ql⟩ : ∃ t, PSs (cxOf CX0 P w K mg base nNames "_law_names" (defScope sNames) f cdv A outer s H E).nox ((defBody sNames).drop 2) t ∧
        ∀ (way cut bg : Nat) (H1 : Hp), cut ≤ 7 → (26 < m → cut ≤ 6) → bg < 26 → BoxAt H1 b (n + 3) → But b H H1 → t { nx := fun _ H' => Q .non H', rt := Q } [some (.ref b), some (.int (m : Int)), some (.str abc), some (.int (way : Int)), some (.int (cut : Int)), some (.int (bg : Int)), none, none, none, none, none, none] H1 := by
      refine ⟨_, pss_cons (ps_asg (pe_tup (pa_cons (pe_ix ix_list (pe_lst (pa_cons pe_int (pa_cons pe_int (pa_cons pe_int (pa_cons pe_int (pa_cons pe_int (pa_cons pe_int (pa_cons pe_int (pa_cons pe_int pa_nil)))))))))
          (pe_call GT hr1 rfl gT T.kp bT .nil pass0 (pa_cons (pv 0) (pa_cons pe_int pa_nil))) (fun _ _ => rfl)) (pa_cons pe_str pa_nil)))
        (pg_tup (by rfl) (pgs_cons (pg_name (i := 6) scNames.nd rfl (.inl rfl)) (pgs_cons (pg_name (i := 7) scNames.nd rfl (.inr rfl)) pgs_nil))))
      (pss_cons (ps_for PassesOwn.never rfl (pi_range1 rfl mr (pa_cons pe_int pa_nil)) (pg_name (i := 8) scNames.nd rfl (.inl rfl))
        (pss_one (ps_set (i := 7) scNames.nd rfl (.inr rfl) (pe_op op_add_str (pv 7) (pe_item_str (pv 2) (pe_call GT hr1 rfl gT T.kp bT .nil pass0 (pa_cons (pv 0) (pa_cons pe_int pa_nil))) (fun _ _ => rfl))))))
      (pss_cons (ps_if (PW.pt (pw_and (pt_cmpR op_eq (pv 3) pe_int (nomark _)) (pw_and1 (pt_cmpR op_lt (pv 1) pe_int (nomark _)))))
        (pss_one (ps_ret (pe_call GM hr rfl gM M.kp bM .nil pass0 (pa_cons (pv 0) (pa_cons (pe_lc (own := [("_law_k", 8)]) (g := gName 8) (tt := tYes) (by rfl) scNames.nd (pi_range1 rfl mr (pa_cons (pv 1) pa_nil))
          (blkOk_by (own := [("_law_k", 8)]) (N := nNames) (sc := defScope sNames) (by decide +kernel)) (fun _ _ _ _ _ => pg_name (i := 8) scNames.nd rfl (.inl rfl)) (fun _ _ _ _ _ => pts_nil)
          (fun _ _ _ _ _ => pe_slice sl_str (pe_op op_add_str (pv 7) (pe_item_str (pv 2) (pv 5) (fun _ _ => rfl))) po_none (po_some (pe_op op_add (pv 8) pe_int)))) pa_nil))))) pss_nil)
      psl)), ?_⟩
      intro way cut bg H1 hcut hcut2 hbg B1 k1
      refine ⟨(by show 8 ≤ sizeLine; decide), fun p1 hp1 => ?_⟩
      have np1 := box_ne B1 hp1
      refine ⟨_, rfl, b, 8, n + 3, rfl, box_new B1 hp1, by omega, by decide, by decide, fun r H2 r0 r1 B2 k2 => ?_⟩
      obtain ⟨j, rfl, hj⟩ := draw_at (n := 8) r0 r1 rfl
      have e2 := k2 _ _ np1 upd_same
      have kk2 : But b H H2 := (k1.trans (But.new hp1)).trans k2
      obtain ⟨st, hst, hst17⟩ : ∃ st : Nat, ([.int 1, .int 3, .int 5, .int 7, .int 9, .int 11, .int 15, .int 17] : List V)[j]? = some (.int (st : Int)) ∧ st ≤ 17 := by
        match j, hj with
        | 0, _ => exact ⟨1, rfl, by decide⟩
        | 1, _ => exact ⟨3, rfl, by decide⟩
        | 2, _ => exact ⟨5, rfl, by decide⟩
        | 3, _ => exact ⟨7, rfl, by decide⟩
        | 4, _ => exact ⟨9, rfl, by decide⟩
        | 5, _ => exact ⟨11, rfl, by decide⟩
        | 6, _ => exact ⟨15, rfl, by decide⟩
        | 7, _ => exact ⟨17, rfl, by decide⟩
      refine ⟨p1, _, _, .int (st : Int), rfl, rfl, .of e2, atI_nat hst, (by show 2 ≤ sizeLine; decide), fun p2 hp2 => ?_⟩
      have np2 := box_ne B2 hp2
      refine ⟨p2, _, rfl, .of upd_same, rfl, _, _, rfl, _, _, rfl, rfl, ?_⟩
      have B3 : BoxAt (upd H2 p2 (.tup [.int (st : Int), .str ""])) b (n + 4) := box_new B2 hp2
      have k3 : But b H (upd H2 p2 (.tup [.int (st : Int), .str ""])) := kk2.trans (But.new hp2)
      generalize upd H2 p2 (.tup [.int (st : Int), .str ""]) = H3 at B3 k3
      -- the stem
      refine ⟨_, rfl, by decide, by decide, ?_⟩
      refine for_range (lo := 0) (n := 7) (fun i σ H4 => ∃ (z : Str) (x8 : Option V), σ = [some (.ref b), some (.int (m : Int)), some (.str abc), some (.int (way : Int)), some (.int (cut : Int)), some (.int (bg : Int)), some (.int (st : Int)), some (.str z), x8, none, none, none] ∧ LowZ z ∧ z.length = i ∧ BoxAt H4 b (n + 4 + i) ∧ But b H H4) ?_ ?_ ?_
      · exact ⟨"", none, rfl, (fun c h => nomatch h), rfl, B3, k3⟩
      · rintro i σ H4 hi ⟨z, x8, rfl, hz, hl, B4, k4⟩
        refine ⟨_, rfl, _, rfl, _, rfl, b, 26, n + 4 + i, rfl, B4, by omega, by decide, by decide, fun r H5 r0 r1 B5 k5 => ?_⟩
        obtain ⟨j, rfl, hj⟩ := draw_at (n := 26) r0 r1 rfl
        obtain ⟨c, hc, c97⟩ := abc_at hj
        refine ⟨_, _, c, rfl, rfl, by omega, by omega, (show ((j : Nat) : Int) < ((26 : Nat) : Int) by omega), hc, ?_⟩
        refine ⟨_, _, rfl, rfl, ?_, ?_⟩
        · show z.length + 1 ≤ sizeLine
          rw [sizeLine_eq]
          omega
        · refine ⟨z ++ ⟨#[c]⟩, _, rfl, hz.app (low_one c97), ?_, B5, k4.trans k5⟩
          rw [app_len, hl]
          rfl
      · rintro σ H4 ⟨z, x8, rfl, hz, hl, B4, k4⟩
        -- from here on two ways
        have namesOf : ∀ (zs : List Str) (qs : List Vd), qs.Perm (zs.map fun z => (V.str z, PyData.str z)) → (∀ z ∈ zs, NameZ z) →
            ∃ ys : List Str, qs.map (·.1) = ys.map V.str ∧ ys.length = zs.length ∧ ∀ y ∈ ys, NameZ y := fun zs qs pm hz => by
          have each : ∀ x ∈ qs, ∃ y, x = (V.str y, PyData.str y) ∧ NameZ y := fun x hx => by
            obtain ⟨y, hy, e⟩ := List.mem_map.mp (pm.mem_iff.mp hx)
            exact ⟨y, e.symm, hz y hy⟩
          have hlen : qs.length = zs.length := by
            rw [pm.length_eq, List.length_map]
          rw [← hlen]
          clear pm hlen
          induction qs with
          | nil => exact ⟨[], rfl, rfl, fun y hy => nomatch hy⟩
          | cons x qs ih =>
            obtain ⟨y, rfl, hy⟩ := each x List.mem_cons_self
            obtain ⟨ys, e1, e2, e3⟩ := ih fun x hx => each x (List.mem_cons_of_mem _ hx)
            refine ⟨y :: ys, ?_, congrArg (· + 1) e2, fun u hu => ?_⟩
            · rw [List.map_cons, e1]
              rfl
            · rcases List.mem_cons.mp hu with rfl | hu
              · exact hy
              · exact e3 u hu
        have mInt : (m : Int).toNat = m := Int.toNat_natCast m
        refine ⟨_, rfl, rfl, _, rfl, ite2 (fun _ => ?_) (fun _ => ?_)⟩
        · refine ⟨_, rfl, _, _, rfl, rfl, _, rfl, ite2 (fun h9 => ?_) (fun _ => ?_)⟩
          · have hm9 : (m : Int) < 9 := of_decide_eq_true h9
            refine ⟨_, rfl, _, rfl, _, rfl, by omega, by omega, fun D hD => ?_⟩
            have nD := box_ne B4 hD
            have fD := free_of k4 nD hD
            rw [mInt]
            refine lc_range (lo := 0) (n := m) (fun i H5 => ∃ ys : List Str, H5 D = some (.lst (ys.map V.str)) ∧ ys.length = i ∧ (∀ y ∈ ys, NameZ y) ∧ BoxAt H5 b (n + 11) ∧ But b H H5) ?_ ?_ ?_
            · exact ⟨[], upd_same, rfl, (fun y h => nomatch h), box_new B4 hD, but_upd k4 fD⟩
            · rintro i H5 hi ⟨ys, e5, hl5, hy, B5, k5⟩
              refine ⟨rfl, ?_⟩
              unfold tYes
              dsimp only
              rw [if_pos rfl]
              obtain ⟨c, hc, c97⟩ := abc_at hbg
              refine ⟨_, rfl, _, rfl, _, rfl, _, _, c, rfl, rfl, by omega, by omega, (show ((bg : Nat) : Int) < ((26 : Nat) : Int) by omega), hc, _, _, rfl, rfl, ?_, ?_⟩
              · show z.length + 1 ≤ sizeLine
                rw [sizeLine_eq]
                omega
              have lz : (z ++ ⟨#[c]⟩).length = 8 := by
                rw [app_len, hl]
                rfl
              refine ⟨_, rfl, _, _, rfl, rfl, _, rfl, _, rfl, small_size (by omega), ?_⟩
              have e0 : (0 + (i : Int) + 1 : Int) = ((i + 1 : Nat) : Int) := by omega
              rw [e0]
              have cl := cut_len (z ++ ⟨#[c]⟩) (i + 1)
              refine ⟨_, e5, ?_, ys ++ [cutS (z ++ ⟨#[c]⟩) none (some ((i + 1 : Nat) : Int))], ?_, ?_, ?_, ?_, ?_⟩
              · rw [List.length_map]
                exact small1000 (by omega)
              · rw [upd_same, List.map_append]
                rfl
              · rw [List.length_append, hl5]
                rfl
              · intro y h
                rcases List.mem_append.mp h with h | h
                · exact hy y h
                · rw [List.mem_singleton.mp h]
                  exact ⟨(hz.app (low_one c97)).cut _ _, by omega, by omega⟩
              · exact box_upd B5 nD
              · exact but_upd k5 fD
            · rintro H5 ⟨ys, e5, hl5, hy, B5, k5⟩
              refine ⟨b, D, n + 11, ys.map fun z => (V.str z, PyData.str z), rfl, B5, ?_, .inl (.of ?_), ?_, fun p H6 qs pm np e6 B6 k6 => ?_⟩
              · rw [List.length_map]
                omega
              · rw [e5, List.map_map]
                rfl
              · intro x hx
                obtain ⟨y, hyy, rfl⟩ := List.mem_map.mp hx
                exact ⟨(hy y hyy).1.lay, fun H' _ => .str y⟩
              · obtain ⟨us, u1, u2, u3⟩ := namesOf ys qs pm hy
                rw [u1] at e6
                rw [List.length_map, hl5] at B6
                exact q p H6 us (u2.trans hl5) u3 (free_of k5 (box_ne B5 np) np) e6 B6 (k5.trans k6)
          · exact qsl way cut bg st z x8 H4 hcut hcut2 hbg hst17 hz hl B4 k4
        · exact qsl way cut bg st z x8 H4 hcut hcut2 hbg hst17 hz hl B4 k4
    refine ⟨_, pss_cons (ps_set (i := 2) scNames.nd rfl (.inr rfl) pe_str)
      (pss_cons (ps_asg (pe_tup (pa_cons (pe_call GT hr1 rfl gT T.kp bT .nil pass0 (pa_cons (pv 0) (pa_cons pe_int pa_nil)))
          (pa_cons (pe_call GT hr1 rfl gT T.kp bT .nil pass0 (pa_cons (pv 0) (pa_cons (pe_ifExp (pt_cmpR op_lt (pv 1) pe_int (nomark _)) pe_int pe_int) pa_nil)))
          (pa_cons (pe_call GT hr1 rfl gT T.kp bT .nil pass0 (pa_cons (pv 0) (pa_cons pe_int pa_nil))) pa_nil))))
        (pg_tup (by rfl) (pgs_cons (pg_name (i := 3) scNames.nd rfl (.inl rfl)) (pgs_cons (pg_name (i := 4) scNames.nd rfl (.inl rfl)) (pgs_cons (pg_name (i := 5) scNames.nd rfl (.inr rfl)) pgs_nil))))) pl), ?_⟩
    refine ⟨_, rfl, b, 4, n, rfl, B, by omega, by decide, by decide, fun way H1 w0 w1 B1 k1 => ?_⟩
    obtain ⟨way, rfl, _⟩ := draw_at (n := 4) w0 w1 rfl
    refine ⟨_, rfl, _, rfl, _, _, rfl, rfl, _, rfl, ite2 (fun hm27 => ?_) (fun hm27 => ?_)⟩
    · refine ⟨b, 8, n + 1, rfl, B1, by omega, by decide, by decide, fun cut H2 c0 c1 B2 k2 => ?_⟩
      obtain ⟨cut, rfl, hcut⟩ := draw_at (n := 8) c0 c1 rfl
      refine ⟨_, rfl, b, 26, n + 2, rfl, B2, by omega, by decide, by decide, fun bg H3 g0 g1 B3 k3 => ?_⟩
      obtain ⟨bg, rfl, hbg⟩ := draw_at (n := 26) g0 g1 rfl
      refine ⟨(by show 3 ≤ sizeLine; decide), fun p hp => ⟨p, _, rfl, .of upd_same, rfl, _, _, rfl, _, _, rfl, _, _, rfl, rfl, ?_⟩⟩
      have hm' : (m : Int) < 27 := of_decide_eq_true hm27
      exact ql way cut bg _ (by omega) (by omega) hbg (box_new B3 hp) (((k1.trans k2).trans k3).trans (But.new hp))
    · refine ⟨b, 7, n + 1, rfl, B1, by omega, by decide, by decide, fun cut H2 c0 c1 B2 k2 => ?_⟩
      obtain ⟨cut, rfl, hcut⟩ := draw_at (n := 7) c0 c1 rfl
      refine ⟨_, rfl, b, 26, n + 2, rfl, B2, by omega, by decide, by decide, fun bg H3 g0 g1 B3 k3 => ?_⟩
      obtain ⟨bg, rfl, hbg⟩ := draw_at (n := 26) g0 g1 rfl
      refine ⟨(by show 3 ≤ sizeLine; decide), fun p hp => ⟨p, _, rfl, .of upd_same, rfl, _, _, rfl, _, _, rfl, _, _, rfl, rfl, ?_⟩⟩
      exact ql way cut bg _ (by omega) (by omega) hbg (box_new B3 hp) (((k1.trans k2).trans k3).trans (But.new hp))
end
end G
set_option Elab.async false
set_option linter.all false
set_option maxRecDepth 100000
set_option maxHeartbeats 2000000
/-! V5: a drawn number, a drawn value of some fields. -/
namespace G
open PySem PySem.Spec PyProof.Rows L2
abbrev sNumber : Stmt := topS 51
abbrev sValue : Stmt := topS 52
theorem scNumber : FnScope ["_law_box_here", "_law_some"] ["_law_box_here"] (defScope sNumber) := ⟨rfl, rfl, rfl, by decide +kernel, rfl, by decide +kernel, by decide +kernel⟩
theorem scValue : FnScope ["_law_box_here", "_law_fields", "_law_found", "_law_part"] ["_law_box_here", "_law_fields"] (defScope sValue) := ⟨rfl, rfl, rfl, by decide +kernel, rfl, by decide +kernel, by decide +kernel⟩
def spNumber : Sp := fun vs H Q _ => ∃ (b : Addr) (n : Nat), vs = [.ref b] ∧ BoxAt H b n ∧ n ≤ 90000 ∧ ∀ (i : Int) (H' : Hp), -999 ≤ i → i ≤ 999 → BoxAt H' b (n + 3) → But b H H' → Q (.int i) H'
/-- some of the fields, each with a number -/
def ValN (zs : List Str) (kvs : List (Key × V)) : Prop := ∀ p ∈ kvs, ∃ z i, p = (Sum.inr z, V.int i) ∧ z ∈ zs ∧ -999 ≤ i ∧ i ≤ 999
def spValue (K : PySem.W.Frag) : Sp := fun vs H Q _ => ∃ (b a : Addr) (n : Nat) (zs : List Str), vs = [.ref b, .ref a] ∧ BoxAt H b n ∧ n ≤ 80000 ∧ H a = some (.lst (zs.map V.str)) ∧ (∀ z ∈ zs, NameZ z) ∧ 1 ≤ zs.length ∧ zs.length ≤ 100 ∧ a ≠ b ∧
  ∀ (p : Addr) (H' : Hp) (kvs : List (Key × V)), H p = none → H' p = some (.dK kvs) → ValN zs kvs → 1 ≤ kvs.length → kvs.length ≤ 6 → kvs.length ≤ zs.length → BoxAt H' b (n + 201 + 3 * 6) → But b H H' → Q (.ref p) H'
/-- an order of texts is made of these texts -/
theorem texts_of : ∀ {zs : List Str} {qs : List Vd}, qs.Perm (zs.map fun z => (V.str z, PyData.str z)) → ∃ ys : List Str, qs.map (·.1) = ys.map V.str ∧ ys.length = zs.length ∧ ∀ y ∈ ys, y ∈ zs := by
  intro zs qs pm
  have each : ∀ x ∈ qs, ∃ y, x = (V.str y, PyData.str y) ∧ y ∈ zs := fun x hx => by
    obtain ⟨y, hy, e⟩ := List.mem_map.mp (pm.mem_iff.mp hx)
    exact ⟨y, e.symm, hy⟩
  have hlen : qs.length = zs.length := by
    rw [pm.length_eq, List.length_map]
  rw [← hlen]
  clear pm hlen
  induction qs with
  | nil => exact ⟨[], rfl, rfl, fun y hy => nomatch hy⟩
  | cons x qs ih =>
    obtain ⟨y, rfl, hy⟩ := each x List.mem_cons_self
    obtain ⟨ys, e1, e2, e3⟩ := ih fun x hx => each x (List.mem_cons_of_mem _ hx)
    refine ⟨y :: ys, ?_, congrArg (· + 1) e2, fun u hu => ?_⟩
    · rw [List.map_cons, e1]
      rfl
    · rcases List.mem_cons.mp hu with rfl | hu
      · exact hy
      · exact e3 u hu
theorem mem_putK {kvs : List (Key × V)} {k : Key} {v : V} {p : Key × V} (h : p ∈ putK kvs k v) : p = (k, v) ∨ p ∈ kvs := by
  unfold putK at h
  split at h
  · obtain ⟨q, hq, e⟩ := List.mem_map.mp h
    by_cases z : q.1 = k
    · rw [if_pos z] at e
      left
      rw [← e, z]
    · rw [if_neg z] at e
      right
      rw [← e]
      exact hq
  · rcases List.mem_append.mp h with h | h
    · exact .inr h
    · exact .inl (List.mem_singleton.mp h)
theorem putK_pos (kvs : List (Key × V)) (k : Key) (v : V) : 1 ≤ (putK kvs k v).length := by
  unfold putK
  split
  · rename_i h
    obtain ⟨x, hx, _⟩ := List.any_eq_true.mp h
    rw [List.length_map]
    exact List.length_pos_of_mem hx
  · rw [List.length_append]
    exact Nat.le_add_left 1 _
theorem ValN.put {zs : List Str} {kvs : List (Key × V)} (h : ValN zs kvs) {z : Str} {i : Int} (hz : z ∈ zs) (h1 : -999 ≤ i) (h2 : i ≤ 999) : ValN zs (putK kvs (Sum.inr z) (.int i)) := fun p hp => by
  rcases mem_putK hp with e | hp
  · exact ⟨z, i, e, hz, h1, h2⟩
  · exact h p hp
theorem cutV_first (xs : List V) (k : Nat) (h : k ≤ xs.length) : cutV xs none (some (k : Int)) = xs.take k := by
  unfold cutV
  rw [HT.sIx_none, HT.sIx_nat, List.drop_zero, Nat.min_eq_left h, Nat.sub_zero]
section
variable {P : Program} {w : World} {K : PySem.W.Frag} {mg : Str → Option Value} {base : Heap}
theorem ok_number {f fT : Addr} {fd fdT : FuncData} (F : Fun K "_law_number" "_law_number" sNumber f fd) (T : Fun K "_law_take" "_law_take" sTake fT fdT) (bT : Binds K fdT ["_law_box_here", "_law_many"] []) (gT : mg "_law_take" = some (.ref fT)) :
    FnOk P w K mg base CX0 2 f fd ["_law_box_here"] spNumber := by
  have GT : FnOk P w K mg base CX0 1 fT fdT ["_law_box_here", "_law_many"] spTake := ok_take T
  refine F.ok scNumber (fun vs H Q E h => ?_) (fun cdv A outer s H vs Q E hr h => ?_)
  · obtain ⟨b, n, rfl, _⟩ := h
    rfl
  · obtain ⟨b, n, rfl, B, hn, q⟩ := h
    refine ⟨_, pss_cons (ps_set (i := 1) scNumber.nd rfl (.inl rfl) (pe_lst (pa_cons pe_int (pa_cons pe_int (pa_cons (pe_un un_neg pe_int) (pa_cons pe_int (pa_cons pe_int (pa_cons (pe_un un_neg pe_int)
        (pa_cons (pe_op op_sub (pe_call GT hr rfl gT T.kp bT .nil pass0 (pa_cons (pv 0) (pa_cons pe_int pa_nil))) pe_int) (pa_cons (pe_op op_sub (pe_call GT hr rfl gT T.kp bT .nil pass0 (pa_cons (pv 0) (pa_cons pe_int pa_nil))) pe_int) pa_nil))))))))))
      (pss_one (ps_ret (pe_ix ix_list (pv 1) (pe_call GT hr rfl gT T.kp bT .nil pass0 (pa_cons (pv 0) (pa_cons pe_int pa_nil))) (fun _ _ => rfl)))), ?_⟩
    refine ⟨_, rfl, _, rfl, _, rfl, b, 21, n, rfl, B, by omega, by decide, by decide, fun r1 H1 a0 a1 B1 k1 => ⟨_, _, rfl, rfl, _, rfl, b, 1999, n + 1, rfl, B1, by omega, by decide, by decide, fun r2 H2 c0 c1 B2 k2 => ⟨_, _, rfl, rfl, (by show 8 ≤ sizeLine; decide), fun p hp => ?_⟩⟩⟩
    have np := box_ne B2 hp
    refine ⟨_, rfl, _, rfl, b, 8, n + 2, rfl, box_new B2 hp, by omega, by decide, by decide, fun r3 H3 d0 d1 B3 k3 => ?_⟩
    obtain ⟨j, rfl, hj⟩ := draw_at (n := 8) d0 d1 rfl
    have e3 := k3 _ _ np upd_same
    obtain ⟨i, hi, h1, h2⟩ : ∃ i : Int, ([.int 0, .int 1, .int (-1), .int 2, .int 999, .int (-999), .int (r1 - 10), .int (r2 - 999)] : List V)[j]? = some (.int i) ∧ -999 ≤ i ∧ i ≤ 999 := by
      match j, hj with
      | 0, _ => exact ⟨0, rfl, by decide, by decide⟩
      | 1, _ => exact ⟨1, rfl, by decide, by decide⟩
      | 2, _ => exact ⟨-1, rfl, by decide, by decide⟩
      | 3, _ => exact ⟨2, rfl, by decide, by decide⟩
      | 4, _ => exact ⟨999, rfl, by decide, by decide⟩
      | 5, _ => exact ⟨-999, rfl, by decide, by decide⟩
      | 6, _ => exact ⟨r1 - 10, rfl, by omega, by omega⟩
      | 7, _ => exact ⟨r2 - 999, rfl, by omega, by omega⟩
    exact ⟨p, _, _, .int i, rfl, rfl, .of e3, atI_nat hi, q i H3 h1 h2 B3 (((k1.trans k2).trans (But.new hp)).trans k3)⟩
theorem ok_value {f fT fM fN : Addr} {fd fdT fdM fdN : FuncData} (F : Fun K "_law_value" "_law_value" sValue f fd) (T : Fun K "_law_take" "_law_take" sTake fT fdT) (bT : Binds K fdT ["_law_box_here", "_law_many"] []) (gT : mg "_law_take" = some (.ref fT))
    (M : Fun K "_law_mixed" "_law_mixed" sMixed fM fdM) (bM : Binds K fdM ["_law_box_here", "_law_some"] []) (gM : mg "_law_mixed" = some (.ref fM))
    (Nm : Fun K "_law_number" "_law_number" sNumber fN fdN) (bN : Binds K fdN ["_law_box_here"] []) (gN : mg "_law_number" = some (.ref fN)) (ml : mg "len" = none) (mL : mg "list" = none) (mm : mg "min" = none) :
    FnOk P w K mg base CX0 3 f fd ["_law_box_here", "_law_fields"] (spValue K) := by
  have GT : FnOk P w K mg base CX0 1 fT fdT ["_law_box_here", "_law_many"] spTake := ok_take T
  have GM : FnOk P w K mg base CX0 2 fM fdM ["_law_box_here", "_law_some"] (spMixed K) := ok_mixed M T bT gT ml mL
  have GN : FnOk P w K mg base CX0 2 fN fdN ["_law_box_here"] spNumber := ok_number Nm T bT gT
  refine F.ok scValue (fun vs H Q E h => ?_) (fun cdv A outer s H vs Q E hr h => ?_)
  · obtain ⟨b, a, n, zs, rfl, _⟩ := h
    rfl
  · obtain ⟨b, a, n, zs, rfl, B, hn, hS, hz, l1, l100, nab, q⟩ := h
    have hr1 := hr.mono (show 1 ≤ 2 by decide)
    have hu := hu_of hr
    refine ⟨_, pss_cons (ps_set (i := 2) scValue.nd rfl (.inl rfl) pe_dnewK)
      (pss_cons (ps_for PassesOwn.never rfl (pi_list (pe_slice sl_list (pe_call GM hr rfl gM M.kp bM .nil pass0 (pa_cons (pv 0) (pa_cons (pv 1) pa_nil))) po_none
          (po_some (pe_op op_add pe_int (pe_call GT hr1 rfl gT T.kp bT .nil pass0 (pa_cons (pv 0) (pa_cons (pe_callB (call_min2 rfl) (by rfl) mm (by decide +kernel) (pa_cons pe_int (pa_cons (pe_callB call_len_seq (by rfl) ml PySem.boot_len (pa_cons (pv 1) pa_nil)) pa_nil))) pa_nil)))))))
        (pg_name (i := 3) scValue.nd rfl (.inl rfl))
        (pss_one (ps_dput hu (pv 2) (pv 3) (pe_call GN hr rfl gN Nm.kp bN .nil pass0 (pa_cons (pv 0) pa_nil)) rfl)))
      (pss_one (ps_ret (pv 2)))), ?_⟩
    intro d hd
    have nd := box_ne B hd
    refine ⟨_, rfl, _, rfl, b, a, n, zs.map fun z => (V.str z, PyData.str z), rfl, box_new B hd, ?_, .inl ?_, ?_, fun p H1 qs pm np e1 B1 k1 => ?_⟩
    · rw [List.length_map]
      omega
    · refine .of ?_
      rw [upd_ne (ne_of_none hS hd), hS, List.map_map]
      rfl
    · intro x hx
      obtain ⟨y, hyy, rfl⟩ := List.mem_map.mp hx
      exact ⟨(hz y hyy).1.lay, fun H' _ => .str y⟩
    · obtain ⟨ys, y1, y2, y3⟩ := texts_of pm
      rw [y1] at e1
      rw [List.length_map] at B1
      have nda : a ≠ d := ne_of_none hS hd
      have ea1 : H1 a = some (.lst (zs.map V.str)) := k1 _ _ nab ((upd_ne nda).trans hS)
      have ed1 : H1 d = some (.dK []) := k1 _ _ nd upd_same
      have kk1 : But b H H1 := (But.new hd).trans k1
      have npb : p ≠ b := by
        obtain ⟨x, y, z, e, _⟩ := B
        exact box_ne (box_new ⟨x, y, z, e, ‹_›⟩ hd) np
      have fp : H p = none := by
        by_cases z : p = d
        · rw [z] at np
          rw [upd_same] at np
          cases np
        · rwa [upd_ne z] at np
      have hmin : ∃ mn : Nat, (if ((List.map V.str zs).length : Int) < 6 then ((List.map V.str zs).length : Int) else 6) = (mn : Int) ∧ 1 ≤ mn ∧ mn ≤ 6 ∧ mn ≤ zs.length := by
        rw [List.length_map]
        by_cases h : (zs.length : Int) < 6
        · exact ⟨zs.length, if_pos h, l1, by omega, Nat.le_refl _⟩
        · exact ⟨6, if_neg h, by decide, by decide, by omega⟩
      obtain ⟨mn, emn, mn1, mn6, mnl⟩ := hmin
      refine ⟨_, rfl, _, rfl, a, _, rfl, .inl (.of ea1), _, _, rfl, ?_⟩
      rw [emn]
      refine ⟨b, mn, n + zs.length, rfl, B1, by omega, by omega, by omega, fun r H2 r0 r1 B2 k2 => ?_⟩
      obtain ⟨j, rfl, hj⟩ := draw_at (n := mn) r0 r1 rfl
      have e2 := k2 _ _ npb e1
      have ed2 := k2 _ _ nd ed1
      refine ⟨_, _, rfl, rfl, _, rfl, p, _, rfl, .of e2, fun p2 np2 => ?_⟩
      have ej : (1 + (j : Int) : Int) = ((1 + j : Nat) : Int) := by omega
      rw [ej, cutV_first _ (1 + j) (by rw [List.length_map]; omega), ← List.map_take]
      have nb2 := box_ne B2 np2
      have nd2 : d ≠ p2 := ne_of_none ed2 np2
      have kk2 : But b H H2 := kk1.trans k2
      have f2 : H p2 = none := free_of kk2 nb2 np2
      refine ⟨p2, rfl, ⟨_, .of upd_same⟩, ?_⟩
      have tl : ((ys.take (1 + j)).map V.str).length = 1 + j := by
        rw [List.length_map, List.length_take]
        omega
      refine for_list (xs := (ys.take (1 + j)).map V.str) (fun i σ H3 => ∃ (kvs : List (Key × V)) (x3 : Option V), σ = [some (.ref b), some (.ref a), some (.ref d), x3] ∧ H3 d = some (.dK kvs) ∧ ValN zs kvs ∧ kvs.length ≤ i ∧ (1 ≤ i → 1 ≤ kvs.length) ∧
        H3 p2 = some (.lst ((ys.take (1 + j)).map V.str)) ∧ BoxAt H3 b (n + zs.length + 1 + 3 * i) ∧ But b H H3) ?_ ?_ ?_ ?_
      · refine ⟨[], none, rfl, (upd_ne nd2).trans ed2, (fun x hx => nomatch hx), Nat.le_refl _, (fun h => absurd h (by decide)), upd_same, box_new B2 np2, but_upd kk2 f2⟩
      · rintro i σ H3 _ ⟨kvs, x3, rfl, _, _, _, _, e3, _, _⟩
        exact .of e3
      · rintro i x σ H3 hx ⟨kvs, x3, rfl, ed3, v3, len3, pos3, e3, B3, k3⟩
        have hi : i < 1 + j := by
          rw [← tl]
          exact (List.getElem?_eq_some_iff.mp hx).1
        rw [List.getElem?_map] at hx
        obtain ⟨y, hy, rfl⟩ := Option.map_eq_some_iff.mp hx
        have hyz : y ∈ zs := y3 y (List.mem_of_mem_take (List.mem_of_getElem? hy))
        refine ⟨_, rfl, b, n + zs.length + 1 + 3 * i, rfl, B3, by omega, fun v H4 v0 v1 B4 k4 => ?_⟩
        have ed4 := k4 _ _ nd ed3
        have e4 := k4 _ _ nb2 e3
        refine ⟨_, rfl, _, rfl, d, _, rfl, DPut.k (k := Sum.inr y) ed4 (small1000 (by omega)), ?_⟩
        refine ⟨putK kvs (Sum.inr y) (.int v), _, rfl, upd_same, v3.put hyz v0 v1, ?_, fun _ => putK_pos _ _ _, (upd_ne nd2.symm).trans e4, (box_upd B4 nd).mono (by omega), but_upd (k3.trans k4) hd⟩
        have := length_putK kvs (Sum.inr y) (.int v)
        omega
      · rintro σ H3 ⟨kvs, x3, rfl, ed3, v3, len3, pos3, e3, B3, k3⟩
        rw [tl] at len3 pos3 B3
        refine ⟨_, rfl, q d H3 kvs hd ed3 v3 (pos3 (by omega)) (by omega) (by omega) (B3.mono (by omega)) k3⟩
end
end G
set_option Elab.async false
set_option linter.all false
set_option maxRecDepth 100000
set_option maxHeartbeats 2000000
/-! P0: isinstance by the kind of a thing. -/
namespace G
open PySem PySem.Spec PyProof.Rows L2
def isI : PyData → Bool
  | .int _ => true
  | .bool _ => true
  | _ => false
def isB : PyData → Bool
  | .bool _ => true
  | _ => false
def isTup : PyData → Bool
  | .tuple _ => true
  | _ => false
def isLst : PyData → Bool
  | .list _ => true
  | _ => false
def isDic : PyData → Bool
  | .dict _ => true
  | _ => false
theorem kit_i {K : PySem.W.Frag} : ∀ d : PyData, PySem.W.kitOne K (.type (tyN d)) (.type "int") = some (isI d)
  | .none => kit_ty (a := "NoneType") (b := "int") (r := false) (by decide +kernel)
  | .bool _ => kit_ty (a := "bool") (b := "int") (r := true) (by decide +kernel)
  | .int _ => kit_ty (a := "int") (b := "int") (r := true) (by decide +kernel)
  | .str _ => kit_ty (a := "str") (b := "int") (r := false) (by decide +kernel)
  | .list _ => kit_ty (a := "list") (b := "int") (r := false) (by decide +kernel)
  | .tuple _ => kit_ty (a := "tuple") (b := "int") (r := false) (by decide +kernel)
  | .dict _ => kit_ty (a := "dict") (b := "int") (r := false) (by decide +kernel)
theorem kit_b {K : PySem.W.Frag} : ∀ d : PyData, PySem.W.kitOne K (.type (tyN d)) (.type "bool") = some (isB d)
  | .none => kit_ty (a := "NoneType") (b := "bool") (r := false) (by decide +kernel)
  | .bool _ => kit_ty (a := "bool") (b := "bool") (r := true) (by decide +kernel)
  | .int _ => kit_ty (a := "int") (b := "bool") (r := false) (by decide +kernel)
  | .str _ => kit_ty (a := "str") (b := "bool") (r := false) (by decide +kernel)
  | .list _ => kit_ty (a := "list") (b := "bool") (r := false) (by decide +kernel)
  | .tuple _ => kit_ty (a := "tuple") (b := "bool") (r := false) (by decide +kernel)
  | .dict _ => kit_ty (a := "dict") (b := "bool") (r := false) (by decide +kernel)
theorem kit_t {K : PySem.W.Frag} : ∀ d : PyData, PySem.W.kitOne K (.type (tyN d)) (.type "tuple") = some (isTup d)
  | .none => kit_ty (a := "NoneType") (b := "tuple") (r := false) (by decide +kernel)
  | .bool _ => kit_ty (a := "bool") (b := "tuple") (r := false) (by decide +kernel)
  | .int _ => kit_ty (a := "int") (b := "tuple") (r := false) (by decide +kernel)
  | .str _ => kit_ty (a := "str") (b := "tuple") (r := false) (by decide +kernel)
  | .list _ => kit_ty (a := "list") (b := "tuple") (r := false) (by decide +kernel)
  | .tuple _ => kit_ty (a := "tuple") (b := "tuple") (r := true) (by decide +kernel)
  | .dict _ => kit_ty (a := "dict") (b := "tuple") (r := false) (by decide +kernel)
theorem kit_l {K : PySem.W.Frag} : ∀ d : PyData, PySem.W.kitOne K (.type (tyN d)) (.type "list") = some (isLst d)
  | .none => kit_ty (a := "NoneType") (b := "list") (r := false) (by decide +kernel)
  | .bool _ => kit_ty (a := "bool") (b := "list") (r := false) (by decide +kernel)
  | .int _ => kit_ty (a := "int") (b := "list") (r := false) (by decide +kernel)
  | .str _ => kit_ty (a := "str") (b := "list") (r := false) (by decide +kernel)
  | .list _ => kit_ty (a := "list") (b := "list") (r := true) (by decide +kernel)
  | .tuple _ => kit_ty (a := "tuple") (b := "list") (r := false) (by decide +kernel)
  | .dict _ => kit_ty (a := "dict") (b := "list") (r := false) (by decide +kernel)
theorem kit_d {K : PySem.W.Frag} : ∀ d : PyData, PySem.W.kitOne K (.type (tyN d)) (.type "dict") = some (isDic d)
  | .none => kit_ty (a := "NoneType") (b := "dict") (r := false) (by decide +kernel)
  | .bool _ => kit_ty (a := "bool") (b := "dict") (r := false) (by decide +kernel)
  | .int _ => kit_ty (a := "int") (b := "dict") (r := false) (by decide +kernel)
  | .str _ => kit_ty (a := "str") (b := "dict") (r := false) (by decide +kernel)
  | .list _ => kit_ty (a := "list") (b := "dict") (r := false) (by decide +kernel)
  | .tuple _ => kit_ty (a := "tuple") (b := "dict") (r := false) (by decide +kernel)
  | .dict _ => kit_ty (a := "dict") (b := "dict") (r := true) (by decide +kernel)
def isS : PyData → Bool
  | .str _ => true
  | _ => false
theorem kit_s {K : PySem.W.Frag} : ∀ d : PyData, PySem.W.kitOne K (.type (tyN d)) (.type "str") = some (isS d)
  | .none => kit_ty (a := "NoneType") (b := "str") (r := false) (by decide +kernel)
  | .bool _ => kit_ty (a := "bool") (b := "str") (r := false) (by decide +kernel)
  | .int _ => kit_ty (a := "int") (b := "str") (r := false) (by decide +kernel)
  | .str _ => kit_ty (a := "str") (b := "str") (r := true) (by decide +kernel)
  | .list _ => kit_ty (a := "list") (b := "str") (r := false) (by decide +kernel)
  | .tuple _ => kit_ty (a := "tuple") (b := "str") (r := false) (by decide +kernel)
  | .dict _ => kit_ty (a := "dict") (b := "str") (r := false) (by decide +kernel)
/-- isinstance(x, int), by name -/
theorem pt_isi {X : Cx} {y : Str} {py : Pos} {te : TE} {n : Str} {p q pos : Pos} (T : String) (he : PE X (.Name y py) te) (hg : Gl X "isinstance" := by rfl) (hm : X.mg "isinstance" = none) (gn : Gl X n := by rfl) (mn : X.mg n = none) (hv : bootBuiltins n = some (.type T) := by decide +kernel)
    (hn : n ≠ "__name__" := by decide) (hd : (n == ("__debug__" : Str)) = false := by decide) :
    PE X (.Call (.Name "isinstance" p) [.Name y py, .Name n q] [] pos) (tCB (rIsi X.K) (tCons te (tCons (tC (.ty T)) tNil))) :=
  pe_callB call_isi hg hm (by decide +kernel) (pa_cons he (pa_cons (pe_bltn gn mn hv rfl hn hd) pa_nil))

end G
set_option Elab.async false
set_option linter.all false
set_option maxRecDepth 100000
set_option maxHeartbeats 2000000
/-! P1: checks that pass; Between made. -/
namespace G
open PySem PySem.Spec PyProof.Rows L2 NdefX
abbrev sIsInt : Stmt := topS 16
abbrev sIsName : Stmt := topS 17
abbrev sNeedInt : Stmt := topS 22
abbrev sNeedName : Stmt := topS 23
abbrev sCondInit : Stmt := inClass (topS 34) 0
abbrev sBtwInit : Stmt := inClass (topS 37) 0
theorem scIsInt : FnScope ["value", "low", "high"] ["value", "low", "high"] (defScope sIsInt) := ⟨rfl, rfl, rfl, by decide +kernel, rfl, by decide +kernel, by decide +kernel⟩
theorem scIsName : FnScope ["value", "letter"] ["value"] (defScope sIsName) := ⟨rfl, rfl, rfl, by decide +kernel, rfl, by decide +kernel, by decide +kernel⟩
theorem scNeedInt : FnScope ["value", "low", "high"] ["value", "low", "high"] (defScope sNeedInt) := ⟨rfl, rfl, rfl, by decide +kernel, rfl, by decide +kernel, by decide +kernel⟩
theorem scNeedName : FnScope ["value"] ["value"] (defScope sNeedName) := ⟨rfl, rfl, rfl, by decide +kernel, rfl, by decide +kernel, by decide +kernel⟩
theorem scCondInit : FnScope ["self", "leaf_count", "height", "name_count"] ["self", "leaf_count", "height", "name_count"] (defScope sCondInit) := ⟨rfl, rfl, rfl, by decide +kernel, rfl, by decide +kernel, by decide +kernel⟩
abbrev nBtw : List Str := ["self", "field", "low", "high", "__class__"]
theorem scBtwInit : NScope nBtw ["self", "field", "low", "high"] ["__class__"] (defScope sBtwInit) := nscope_by (by decide +kernel)

/-- a method of the text that captures __class__, as it stands behind the top -/
structure FunX (K : PySem.W.Frag) (x qual : Str) (st : Stmt) (f cda cc : Addr) (kV : Value) (fd : FuncData) : Prop where
  ex : ∃ (oc : Value) (od : Option Addr) (doc pm : Value) (an : Option Addr) (ct : Value) (osl : Array (Option Value)),
    fd = PySem.W.ksFn x qual (defArgs st) (defBody st) (defScope st) .none kV doc pm an (.ref cda) ct cc ∧ K.lookup f = some ⟨oc, od, .func fd, osl⟩ ∧ PySem.W.codeIn K (.ref cda) qual = true
  cell : ∃ oc od sl v, K.lookup cc = some ⟨oc, od, .cell v, sl⟩
abbrev nfOf (x qual : Str) (st : Stmt) (cda cc : Addr) : NF := ⟨x, qual, defArgs st, defBody st, defScope st, [("__class__", cc)], cda⟩
theorem FunX.ok {P : Program} {w : World} {K : PySem.W.Frag} {mg : Str → Option Value} {base : Heap} {CX : CXT} {x qual : Str} {st : Stmt} {f cda cc : Addr} {kV : Value} {fd : FuncData} {N ps : List Str} {k : Nat} {sp : Sp}
    (F : FunX K x qual st f cda cc kV fd) (S : NScope N ps ["__class__"] (defScope st)) (len : ∀ vs H Q E, sp vs H Q E → vs.length = ps.length)
    (hbody : ∀ (A : Around) (outer : List Env) (s : Shared) (H : Hp) (vs : List V) (Q : VK) (E : XK), Room k (A.deeper (envF (nfOf x qual st cda cc) f s.heap.objs.size)) → sp vs H Q E →
      ∃ t, PSsa (ncx CX P w K mg base N (nfOf x qual st cda cc) f A outer s H E) (defBody st) (defBody st) t ∧ t { nx := fun _ H' => Q .non H', rt := Q } (startF N vs [none]) H) :
    FnOk P w K mg base CX (k + 1) f fd ps sp := by
  obtain ⟨oc, od, doc, pm, an, ct, osl, rfl, lk, hcd⟩ := F.ex
  exact fnx_of lk hcd F.cell S len hbody

def spIsInt : Sp := fun vs H Q _ => ∃ v lo hi : Int, vs = [.int v, .int lo, .int hi] ∧ Q (.bl (decide (lo ≤ v) && decide (v ≤ hi))) H
def spIsName : Sp := fun vs H Q _ => ∃ z : Str, vs = [.str z] ∧ NameZ z ∧ ∀ H', Same H H' → Q (.bl true) H'
def spNeedInt : Sp := fun vs H Q _ => ∃ v lo hi : Int, vs = [.int v, .int lo, .int hi] ∧ lo ≤ v ∧ v ≤ hi ∧ Q .non H
def spNeedName : Sp := fun vs H Q _ => ∃ z : Str, vs = [.str z] ∧ NameZ z ∧ ∀ H', Same H H' → Q .non H'
/-- Condition.__init__, of any class below it -/
def spCond (C : Addr) : Sp := fun vs H Q _ => ∃ (a dx : Addr) (l h k : Int) (fs : List (Str × V)), vs = [.ref a, .int l, .int h, .int k] ∧ H a = some (.ins C dx fs) ∧ fs.length ≤ 500 ∧ l ≤ 6 ∧ h ≤ 5 ∧ k ≤ 8 ∧
  Q .non (upd H a (.ins C dx (putF "name_count" (.int k) (putF "height" (.int h) (putF "leaf_count" (.int l) fs)))))
section
variable {P : Program} {w : World} {K : PySem.W.Frag} {mg : Str → Option Value} {base : Heap}
theorem ok_isint {f : Addr} {fd : FuncData} (F : Fun K "is_integer" "is_integer" sIsInt f fd) (mi : mg "isinstance" = none) (mn : mg "int" = none) (mb : mg "bool" = none) : FnOk P w K mg base CX0 1 f fd ["value", "low", "high"] spIsInt := by
  refine F.ok scIsInt (fun vs H Q E h => ?_) (fun cdv A outer s H vs Q E hr h => ?_)
  · obtain ⟨v, lo, hi, rfl, _⟩ := h
    rfl
  · obtain ⟨v, lo, hi, rfl, q⟩ := h
    refine ⟨_, pss_cons (ps_if (PW.pt (pw_or (pt_not (pt_val (pt_isi "int" (pv 0) (hm := mi) (mn := mn)))) (pw_or1 (pt_val (pt_isi "bool" (pv 0) (hm := mi) (mn := mb)))))) (pss_one (ps_ret pe_bl)) pss_nil)
      (pss_one (ps_ret (pe_chain op_le op_le (pv 1) (pv 0) (pv 2)))), ?_⟩
    have hR : Rp K H (.int v) (.int v) := .int v
    refine ⟨_, rfl, _, _, _, _, _, rfl, .ty _, rp_ty hR, kit_i (.int v), _, rfl, iteF ?_⟩
    refine ⟨_, rfl, _, _, _, _, _, rfl, .ty _, rp_ty hR, kit_b (.int v), _, rfl, iteF ?_⟩
    refine ⟨_, rfl, _, rfl, _, _, rfl, rfl, _, rfl, ?_⟩
    cases e : decide (lo ≤ v) with
    | false =>
      refine iteF ?_
      rw [e] at q
      exact q
    | true =>
      refine iteT ?_
      rw [e] at q
      exact ⟨_, rfl, _, _, rfl, rfl, q⟩
theorem ok_isname {f : Addr} {fd : FuncData} {t1 t2 : Tok} (F : Fun K "is_name" "is_name" sIsName f fd) (gM : mg "MOST_LETTERS" = some (.int 8 t1)) (gL : mg "LETTERS" = some (.str abc t2)) (mi : mg "isinstance" = none) (ms : mg "str" = none) (ml : mg "len" = none) (ma : mg "all" = none) :
    FnOk P w K mg base CX0 1 f fd ["value"] spIsName := by
  refine F.ok scIsName (fun vs H Q E h => ?_) (fun cdv A outer s H vs Q E hr h => ?_)
  · obtain ⟨z, rfl, _⟩ := h
    rfl
  · obtain ⟨z, rfl, ⟨hz, h1, h8⟩, q⟩ := h
    refine ⟨_, pss_cons (ps_if (PW.pt (pw_or (pt_not (pt_val (pt_isi "str" (pv 0) (hm := mi) (mn := ms)))) (pw_or1 (pt_not (pt_chain op_le op_le pe_int (pe_callB call_len_str (by rfl) ml PySem.boot_len (pa_cons (pv 0) pa_nil)) (pe_glob (v := .int 8) rfl gM ⟨_, rfl⟩))))))
        (pss_one (ps_ret pe_bl)) pss_nil)
      (pss_one (ps_ret (pe_callB (cr_all rfl) (by rfl) ma (by decide +kernel) (pa_cons (pe_lc (own := [("letter", 1)]) (g := gName 1) (tt := tYes) (by rfl) scIsName.nd (pi_str (pv 0))
        (blkOk_by (own := [("letter", 1)]) (N := ["value", "letter"]) (sc := defScope sIsName) (by decide +kernel)) (fun _ _ _ _ _ => pg_name (i := 1) scIsName.nd rfl (.inl rfl)) (fun _ _ _ _ _ => pts_nil)
        (fun _ _ _ _ _ => pe_cmpR op_in_sign (pv 1) (pe_glob (v := .str abc) rfl gL ⟨_, rfl⟩) (by rfl))) pa_nil)))), ?_⟩
    have hR : Rp K H (.str z) (.str z) := .str z
    refine ⟨_, rfl, _, _, _, _, _, rfl, .ty _, rp_ty hR, kit_s (.str z), _, rfl, iteF ?_⟩
    refine ⟨_, rfl, z, rfl, small_size (by omega), _, _, rfl, rfl, _, rfl, ?_⟩
    rw [decide_eq_true (show (1 : Int) ≤ (z.length : Int) by omega)]
    refine iteT ⟨_, _, rfl, rfl, _, rfl, ?_⟩
    rw [decide_eq_true (show (z.length : Int) ≤ 8 by omega)]
    refine iteF ?_
    refine ⟨_, rfl, z, rfl, fun D hD => ?_⟩
    refine lc_it walk_str (fun i H2 => Same H H2 ∧ H2 D = some (.lst ((List.replicate i true).map V.bl))) ?_ ?_ ?_ ?_
    · exact ⟨Same.new hD, upd_same⟩
    · exact fun _ _ _ _ => trivial
    · rintro i x H2 H3 hi ⟨s2, e2⟩ ⟨rfl, c, hc, rfl⟩
      have hc2 : (cs z)[i]? = some c := by
        rw [← hc, ← Array.getElem?_toList]
      have hzs : z.cps.size = z.length := rfl
      have c97 := hz c (List.mem_of_getElem? hc2)
      refine ⟨rfl, ?_⟩
      unfold tYes
      dsimp only
      rw [if_pos rfl]
      refine ⟨_, rfl, c, _, rfl, rfl, _, e2, ?_, fun a o e => ?_, ?_⟩
      · rw [List.length_map, List.length_replicate]
        exact Nat.lt_of_lt_of_le hi (small_size (by omega))
      · rw [upd_ne (ne_of_none e hD)]
        exact s2 _ _ e
      · have hin : decide (c ∈ abc.cps.toList) = true := decide_eq_true (by
          have e : abc.cps.toList = (List.range 26).map (97 + ·) := by decide +kernel
          rw [e]
          exact List.mem_map.mpr ⟨c - 97, List.mem_range.mpr (by omega), by omega⟩)
        rw [upd_same, hin, List.replicate_succ', List.map_append]
        rfl
    · rintro H2 ⟨s2, e2⟩
      refine ⟨D, _, rfl, .of e2, ?_⟩
      have ha : (List.replicate z.cps.size true).all id = true := by
        rw [List.all_eq_true]
        intro x hx
        rw [(List.mem_replicate.mp hx).2]
        rfl
      rw [ha]
      exact q H2 s2
theorem ok_needint {f fI : Addr} {fd fdI : FuncData} (F : Fun K "need_integer" "need_integer" sNeedInt f fd) (I : Fun K "is_integer" "is_integer" sIsInt fI fdI) (bI : Binds K fdI ["value", "low", "high"] []) (gI : mg "is_integer" = some (.ref fI))
    (GI : FnOk P w K mg base CX0 1 fI fdI ["value", "low", "high"] spIsInt) : FnOk P w K mg base CX0 2 f fd ["value", "low", "high"] spNeedInt := by
  refine F.ok scNeedInt (fun vs H Q E h => ?_) (fun cdv A outer s H vs Q E hr h => ?_)
  · obtain ⟨v, lo, hi, rfl, _⟩ := h
    rfl
  · obtain ⟨v, lo, hi, rfl, h1, h2, q⟩ := h
    refine ⟨_, pss_one (ps_if (pt_not (pt_val (pe_call GI hr rfl gI I.kp bI .nil pass0 (pa_cons (pv 0) (pa_cons (pv 1) (pa_cons (pv 2) pa_nil)))))) (pss_one ps_never) pss_nil), ?_⟩
    refine ⟨_, rfl, _, rfl, _, rfl, v, lo, hi, rfl, _, rfl, ?_⟩
    rw [decide_eq_true h1, decide_eq_true h2]
    exact iteF q
theorem ok_needname {f fI : Addr} {fd fdI : FuncData} (F : Fun K "need_name" "need_name" sNeedName f fd) (I : Fun K "is_name" "is_name" sIsName fI fdI) (bI : Binds K fdI ["value"] []) (gI : mg "is_name" = some (.ref fI))
    (GI : FnOk P w K mg base CX0 1 fI fdI ["value"] spIsName) : FnOk P w K mg base CX0 2 f fd ["value"] spNeedName := by
  refine F.ok scNeedName (fun vs H Q E h => ?_) (fun cdv A outer s H vs Q E hr h => ?_)
  · obtain ⟨z, rfl, _⟩ := h
    rfl
  · obtain ⟨z, rfl, hz, q⟩ := h
    refine ⟨_, pss_one (ps_if (pt_not (pt_val (pe_call GI hr rfl gI I.kp bI .nil pass0 (pa_cons (pv 0) pa_nil)))) (pss_one ps_never) pss_nil), ?_⟩
    exact ⟨_, rfl, z, rfl, hz, fun H' s' => ⟨_, rfl, iteF (q H' s')⟩⟩
theorem ok_condinit {f C : Addr} {fd : FuncData} {t1 t2 t3 : Tok} (F : Fun K "__init__" "Condition.__init__" sCondInit f fd) (c : Cls K C) (n1 : NoAttr K C "leaf_count") (n2 : NoAttr K C "height") (n3 : NoAttr K C "name_count")
    (g1 : mg "MOST_LEAVES" = some (.int 6 t1)) (g2 : mg "MOST_DEPTH" = some (.int 5 t2)) (g3 : mg "MOST_NAMES" = some (.int 8 t3)) :
    FnOk P w K mg base CX0 1 f fd ["self", "leaf_count", "height", "name_count"] (spCond C) := by
  refine F.ok scCondInit (fun vs H Q E h => ?_) (fun cdv A outer s H vs Q E hr h => ?_)
  · obtain ⟨a, dx, l, h, k, fs, rfl, _⟩ := h
    rfl
  · obtain ⟨a, dx, l, h, k, fs, rfl, ha, hf, h1, h2, h3, q⟩ := h
    refine ⟨_, pss_cons (ps_if (pt_cmpR op_gt (pv 1) (pe_glob (v := .int 6) rfl g1 ⟨_, rfl⟩) (nomark _)) (pss_one ps_never) pss_nil)
      (pss_cons (ps_if (pt_cmpR op_gt (pv 2) (pe_glob (v := .int 5) rfl g2 ⟨_, rfl⟩) (nomark _)) (pss_one ps_never) pss_nil)
      (pss_cons (ps_if (pt_cmpR op_gt (pv 3) (pe_glob (v := .int 8) rfl g3 ⟨_, rfl⟩) (nomark _)) (pss_one ps_never) pss_nil)
      (pss_cons (ps_fld (pv 0) (pv 1) rfl) (pss_cons (ps_fld (pv 0) (pv 2) rfl) (pss_one (ps_fld (pv 0) (pv 3) rfl)))))), ?_⟩
    have l1 := length_putF "leaf_count" (V.int l) fs
    have l2 := length_putF "height" (V.int h) (putF "leaf_count" (V.int l) fs)
    refine ⟨_, rfl, _, _, rfl, rfl, _, rfl, ?_⟩
    rw [decide_eq_false (show ¬ l > 6 by omega)]
    refine iteF ⟨_, rfl, _, _, rfl, rfl, _, rfl, ?_⟩
    rw [decide_eq_false (show ¬ h > 5 by omega)]
    refine iteF ⟨_, rfl, _, _, rfl, rfl, _, rfl, ?_⟩
    rw [decide_eq_false (show ¬ k > 8 by omega)]
    refine iteF ?_
    refine ⟨_, rfl, _, rfl, a, C, dx, fs, rfl, ha, c, n1, by omega, ?_⟩
    refine ⟨_, rfl, _, rfl, a, C, dx, _, rfl, upd_same, c, n2, by omega, ?_⟩
    refine ⟨_, rfl, _, rfl, a, C, dx, _, rfl, upd_same, c, n3, by omega, ?_⟩
    rw [upd_upd, upd_upd]
    exact q
end
end G
set_option Elab.async false
set_option linter.all false
set_option maxRecDepth 100000
set_option maxHeartbeats 2000000
/-! P2: Between made. -/
namespace G
open PySem PySem.Spec PyProof.Rows L2 NdefX
/-- a Between's fields -/
def btwFs (z : Str) (lo hi : Int) : List (Str × V) := [("leaf_count", .int 1), ("height", .int 1), ("name_count", .int 0), ("field_name", .str z), ("lowest", .int lo), ("highest", .int hi)]
def spBtw (C : Addr) : Sp := fun vs H Q _ => ∃ (a dx : Addr) (z : Str) (lo hi : Int), vs = [.ref a, .str z, .int lo, .int hi] ∧ H a = some (.ins C dx []) ∧ NameZ z ∧ -999 ≤ lo ∧ lo ≤ hi ∧ hi ≤ 999 ∧
  ∀ H', Same H H' → Q .non (upd H' a (.ins C dx (btwFs z lo hi)))
section
variable {P : Program} {w : World} {K : PySem.W.Frag} {mg : Str → Option Value} {base : Heap}
theorem ok_btwinit {f cda cc C f2 fN fJ : Addr} {kV : Value} {fd fdN fdJ fdC : FuncData} (F : FunX K "__init__" "Between.__init__" sBtwInit f cda cc kV fd) (S : SupOf P K f cda cc C C f2 "self") (c : Cls K C)
    (n1 : NoAttr K C "field_name") (n2 : NoAttr K C "lowest") (n3 : NoAttr K C "highest")
    (GN : FnOk P w K mg base CX0 2 fN fdN ["value"] spNeedName) (gN : mg "need_name" = some (.ref fN)) (kN : PySem.W.keepIn K (.ref fN) = true) (bN : Binds K fdN ["value"] [])
    (GJ : FnOk P w K mg base CX0 2 fJ fdJ ["value", "low", "high"] spNeedInt) (gJ : mg "need_integer" = some (.ref fJ)) (kJ : PySem.W.keepIn K (.ref fJ) = true) (bJ : Binds K fdJ ["value", "low", "high"] [])
    (GC : FnOk P w K mg base CX0 1 f2 fdC ["self", "leaf_count", "height", "name_count"] (spCond C)) (bC : Binds K fdC ["self", "leaf_count", "height", "name_count"] []) (ms : mg "super" = none) :
    FnOk P w K mg base CX0 3 f fd ["self", "field", "low", "high"] (spBtw C) := by
  refine F.ok scBtwInit (fun vs H Q E h => ?_) (fun A outer s H vs Q E hr h => ?_)
  · obtain ⟨a, dx, z, lo, hi, rfl, _⟩ := h
    rfl
  · obtain ⟨a, dx, z, lo, hi, rfl, ha, hz, h1, h2, h3, q⟩ := h
    have hr1 := hr.mono (show 1 ≤ 2 by decide)
    refine ⟨_, pssa_cons (psa (ps_expr (pe_call GN hr rfl gN kN bN .nil pass0 (pa_cons (pv 1) pa_nil))))
      (pssa_cons (psa (ps_expr (pe_call GJ hr rfl gJ kJ bJ .nil pass0 (pa_cons (pv 2) (pa_cons (pe_un un_neg pe_int) (pa_cons pe_int pa_nil))))))
      (pssa_cons (psa (ps_expr (pe_call GJ hr rfl gJ kJ bJ .nil pass0 (pa_cons (pv 3) (pa_cons (pv 2) (pa_cons pe_int pa_nil))))))
      (pssa_cons (psa_super (i := 0) S (GC.raw bC .nil) hr1 pass0 rfl rfl rfl rfl rfl rfl ms rfl (pa_cons pe_int (pa_cons pe_int (pa_cons pe_int pa_nil))))
      (pssa (pss_cons (ps_fld (pv 0) (pv 1) rfl) (pss_cons (ps_fld (pv 0) (pv 2) rfl) (pss_one (ps_fld (pv 0) (pv 3) rfl)))))))), ?_⟩
    refine ⟨_, rfl, z, rfl, hz, fun H1 s1 => ?_⟩
    have ha1 := s1 _ _ ha
    refine ⟨_, rfl, _, rfl, lo, -999, 999, rfl, h1, by omega, ?_⟩
    refine ⟨_, rfl, _, rfl, hi, lo, 999, rfl, h2, h3, ?_⟩
    refine ⟨a, dx, [], rfl, ha1, a, dx, 1, 1, 0, [], rfl, ha1, by decide, by decide, by decide, by decide, ?_⟩
    refine ⟨_, rfl, _, rfl, a, C, dx, _, rfl, upd_same, c, n1, by decide, ?_⟩
    refine ⟨_, rfl, _, rfl, a, C, dx, _, rfl, upd_same, c, n2, (by show 4 < 1000; decide), ?_⟩
    refine ⟨_, rfl, _, rfl, a, C, dx, _, rfl, upd_same, c, n3, (by show 5 < 1000; decide), ?_⟩
    rw [upd_upd, upd_upd, upd_upd]
    exact q H1 s1
end
end G
set_option Elab.async false
set_option linter.all false
set_option maxRecDepth 100000
set_option maxHeartbeats 2000000
/-! P3: a value of a record is one; a record is one. -/
namespace G
open PySem PySem.Spec PyProof.Rows L2 NdefX
abbrev sIsValue : Stmt := topS 18
abbrev sNeedValue : Stmt := topS 24
abbrev sNeedRecord : Stmt := topS 25
theorem scIsValue : FnScope ["value", "field"] ["value"] (defScope sIsValue) := ⟨rfl, rfl, rfl, by decide +kernel, rfl, by decide +kernel, by decide +kernel⟩
theorem scNeedValue : FnScope ["value"] ["value"] (defScope sNeedValue) := ⟨rfl, rfl, rfl, by decide +kernel, rfl, by decide +kernel, by decide +kernel⟩
theorem scNeedRecord : FnScope ["key", "value"] ["key", "value"] (defScope sNeedRecord) := ⟨rfl, rfl, rfl, by decide +kernel, rfl, by decide +kernel, by decide +kernel⟩
/-- a record's value, of some names -/
structure ValOk (zs : List Str) (kvs : List (Key × V)) : Prop where
  nm : ∀ z ∈ zs, NameZ z
  is : ValN zs kvs
  pos : 1 ≤ kvs.length
  six : kvs.length ≤ 6
theorem valV_of {zs : List Str} {kvs : List (Key × V)} (h : ValN zs kvs) {i : Nat} {k : Key} {v : V} (e : kvs[i]? = some (k, v)) : ∃ (z : Str) (n : Int), k = Sum.inr z ∧ z ∈ zs ∧ valV kvs k = some (.int n) ∧ -999 ≤ n ∧ n ≤ 999 := by
  have hm := List.mem_of_getElem? e
  obtain ⟨z, j, ez, hz, _, _⟩ := h _ hm
  obtain ⟨rfl, _⟩ := Prod.mk.inj ez
  cases q : valV kvs (Sum.inr z) with
  | none =>
    exfalso
    have h2 : (kvs.find? fun kv => decide (kv.1 = (Sum.inr z : Key))) = none := by
      have : Option.map (fun p : Key × V => p.2) (kvs.find? fun kv => decide (kv.1 = (Sum.inr z : Key))) = none := q
      exact Option.map_eq_none_iff.mp this
    have h3 := List.find?_eq_none.mp h2 _ hm
    exact h3 (decide_eq_true rfl)
  | some x =>
    have h2 : Option.map (fun p : Key × V => p.2) (kvs.find? fun kv => decide (kv.1 = (Sum.inr z : Key))) = some x := q
    obtain ⟨p, hp, rfl⟩ := Option.map_eq_some_iff.mp h2
    obtain ⟨z2, n, ep, _, n1, n2⟩ := h p (List.mem_of_find?_eq_some hp)
    rw [ep]
    exact ⟨z, n, rfl, hz, rfl, n1, n2⟩
def spIsValue : Sp := fun vs H Q _ => ∃ (d : Addr) (zs : List Str) (kvs : List (Key × V)), vs = [.ref d] ∧ H d = some (.dK kvs) ∧ ValOk zs kvs ∧ ∀ H', Same H H' → Q (.bl true) H'
def spNeedValue : Sp := fun vs H Q _ => ∃ (d : Addr) (zs : List Str) (kvs : List (Key × V)), vs = [.ref d] ∧ H d = some (.dK kvs) ∧ ValOk zs kvs ∧ ∀ H', Same H H' → Q .non H'
def spNeedRecord : Sp := fun vs H Q _ => ∃ (y : Str) (d : Addr) (zs : List Str) (kvs : List (Key × V)), vs = [.str y, .ref d] ∧ NameZ y ∧ H d = some (.dK kvs) ∧ ValOk zs kvs ∧ ∀ H', Same H H' → Q .non H'
section
variable {P : Program} {w : World} {K : PySem.W.Frag} {mg : Str → Option Value} {base : Heap}
theorem ok_isvalue {f fN fI : Addr} {fd fdN fdI : FuncData} {t1 t2 : Tok} (F : Fun K "is_value" "is_value" sIsValue f fd) (N : Fun K "is_name" "is_name" sIsName fN fdN) (bN : Binds K fdN ["value"] []) (gN : mg "is_name" = some (.ref fN))
    (GN : FnOk P w K mg base CX0 1 fN fdN ["value"] spIsName) (I : Fun K "is_integer" "is_integer" sIsInt fI fdI) (bI : Binds K fdI ["value", "low", "high"] []) (gI : mg "is_integer" = some (.ref fI)) (GI : FnOk P w K mg base CX0 1 fI fdI ["value", "low", "high"] spIsInt)
    (gM : mg "MOST_FIELDS" = some (.int 6 t1)) (gG : mg "GREATEST" = some (.int 999 t2)) (mi : mg "isinstance" = none) (md : mg "dict" = none) (ml : mg "len" = none) (ma : mg "all" = none) :
    FnOk P w K mg base CX0 2 f fd ["value"] spIsValue := by
  refine F.ok scIsValue (fun vs H Q E h => ?_) (fun cdv A outer s H vs Q E hr h => ?_)
  · obtain ⟨d, zs, kvs, rfl, _⟩ := h
    rfl
  · obtain ⟨d, zs, kvs, rfl, hd, hv, q⟩ := h
    have hu := hu_of hr
    refine ⟨_, pss_cons (ps_if (PW.pt (pw_or (pt_not (pt_val (pt_isi "dict" (pv 0) (hm := mi) (mn := md)))) (pw_or1 (pt_not (pt_chain op_le op_le pe_int (pe_callB call_lenD (by rfl) ml PySem.boot_len (pa_cons (pv 0) pa_nil)) (pe_glob (v := .int 6) rfl gM ⟨_, rfl⟩))))))
        (pss_one (ps_ret pe_bl)) pss_nil)
      (pss_one (ps_ret (pe_callB (cr_all rfl) (by rfl) ma (by decide +kernel) (pa_cons (pe_lock (pe_lc (own := [("field", 1)]) (g := gName 1) (tt := tYes) (by rfl) scIsValue.nd (pi_keys (pv 0))
        (blkOk_by (own := [("field", 1)]) (N := ["value", "field"]) (sc := defScope sIsValue) (by decide +kernel)) (fun _ _ _ _ _ => pg_name (i := 1) scIsValue.nd rfl (.inl rfl)) (fun _ _ _ _ _ => pts_nil)
        (fun _ _ _ _ _ => pe_and (pe_call GN hr rfl gN N.kp bN .nil pass0 (pa_cons (pv 1) pa_nil)) (pe_one (pe_call GI hr rfl gI I.kp bI .nil pass0 (pa_cons (pe_dget hu (pv 0) (pv 1) (fun _ _ => rfl))
          (pa_cons (pe_un un_neg (pe_glob (v := .int 999) rfl gG ⟨_, rfl⟩)) (pa_cons (pe_glob (v := .int 999) rfl gG ⟨_, rfl⟩) pa_nil)))))))) pa_nil)))), ?_⟩
    refine ⟨_, rfl, _, _, _, _, _, rfl, .ty _, .base (.dK hd), kit_ty (a := "dict") (b := "dict") (r := true) (by decide +kernel), _, rfl, iteF ?_⟩
    refine ⟨_, rfl, d, kvs, rfl, hd, ?_⟩
    have h1 := hv.pos
    have h6 := hv.six
    refine ⟨_, _, rfl, rfl, _, rfl, ?_⟩
    rw [decide_eq_true (show (1 : Int) ≤ (kvs.length : Int) by omega)]
    refine iteT ⟨_, _, rfl, rfl, _, rfl, ?_⟩
    rw [decide_eq_true (show (kvs.length : Int) ≤ 6 by omega)]
    refine iteF ?_
    refine ⟨d, _, hd, trivial, fun od => ?_⟩
    refine ⟨_, rfl, d, od, rfl, .inl ⟨kvs, upd_same, fun D hD => ?_⟩⟩
    have ndD : d ≠ D := fun z => by
      rw [← z, upd_same] at hD
      cases hD
    have fD : H D = none := (upd_ne ndD.symm).symm.trans hD
    refine lc_it walk_keys (fun i H2 => But d H H2 ∧ H2 d = some (.frz od (.dK kvs)) ∧ H2 D = some (.lst ((List.replicate i true).map V.bl))) ?_ ?_ ?_ ?_
    · exact ⟨but_upd But.upd fD, (upd_ne ndD).trans upd_same, upd_same⟩
    · exact fun _ _ _ h => h.2.1
    · rintro i x H2 H3 hi ⟨b2, d2, e2⟩ ⟨rfl, k, v, hk, rfl⟩
      obtain ⟨z, n, rfl, hz, hn, n1, n2⟩ := valV_of hv.is hk
      refine ⟨rfl, ?_⟩
      unfold tYes
      dsimp only
      rw [if_pos rfl]
      refine ⟨_, rfl, z, rfl, hv.nm z hz, fun H4 s4 => ⟨_, rfl, iteT ?_⟩⟩
      have d4 := s4 _ _ d2
      have e4 := s4 _ _ e2
      refine ⟨_, rfl, _, rfl, d, .int n, rfl, .inl ⟨kvs, Sum.inr z, .inr ⟨od, d4⟩, rfl, hn.symm⟩, _, rfl, n, -999, 999, rfl, ?_⟩
      rw [decide_eq_true n1, decide_eq_true n2]
      refine ⟨_, e4, ?_, ?_, ?_, ?_⟩
      · rw [List.length_map, List.length_replicate]
        exact small1000 (by omega)
      · exact but_upd (b2.trans (But.same s4)) fD
      · exact (upd_ne ndD).trans d4
      · rw [upd_same, List.replicate_succ', List.map_append]
        rfl
    · rintro H2 ⟨b2, d2, e2⟩
      refine ⟨d2, D, _, rfl, .of ((upd_ne ndD.symm).trans e2), ?_⟩
      have ha : (List.replicate kvs.length true).all id = true := by
        rw [List.all_eq_true]
        intro x hx
        rw [(List.mem_replicate.mp hx).2]
        rfl
      rw [ha]
      refine q _ fun c o e => ?_
      by_cases hc : c = d
      · rw [hc] at e ⊢
        rw [hd] at e
        rw [← e]
        exact upd_same
      · rw [upd_ne hc]
        exact b2 c o hc e
theorem ok_needvalue {f fI : Addr} {fd fdI : FuncData} (F : Fun K "need_value" "need_value" sNeedValue f fd) (I : Fun K "is_value" "is_value" sIsValue fI fdI) (bI : Binds K fdI ["value"] []) (gI : mg "is_value" = some (.ref fI))
    (GI : FnOk P w K mg base CX0 2 fI fdI ["value"] spIsValue) : FnOk P w K mg base CX0 3 f fd ["value"] spNeedValue := by
  refine F.ok scNeedValue (fun vs H Q E h => ?_) (fun cdv A outer s H vs Q E hr h => ?_)
  · obtain ⟨d, zs, kvs, rfl, _⟩ := h
    rfl
  · obtain ⟨d, zs, kvs, rfl, hd, hv, q⟩ := h
    refine ⟨_, pss_one (ps_if (pt_not (pt_val (pe_call GI hr rfl gI I.kp bI .nil pass0 (pa_cons (pv 0) pa_nil)))) (pss_one ps_never) pss_nil), ?_⟩
    exact ⟨_, rfl, d, zs, kvs, rfl, hd, hv, fun H' s' => ⟨_, rfl, iteF (q H' s')⟩⟩
theorem ok_needrecord {f fN fV : Addr} {fd fdN fdV : FuncData} (F : Fun K "need_record" "need_record" sNeedRecord f fd) (kN : PySem.W.keepIn K (.ref fN) = true) (bN : Binds K fdN ["value"] []) (gN : mg "need_name" = some (.ref fN)) (GN : FnOk P w K mg base CX0 2 fN fdN ["value"] spNeedName)
    (kV : PySem.W.keepIn K (.ref fV) = true) (bV : Binds K fdV ["value"] []) (gV : mg "need_value" = some (.ref fV)) (GV : FnOk P w K mg base CX0 3 fV fdV ["value"] spNeedValue) : FnOk P w K mg base CX0 4 f fd ["key", "value"] spNeedRecord := by
  refine F.ok scNeedRecord (fun vs H Q E h => ?_) (fun cdv A outer s H vs Q E hr h => ?_)
  · obtain ⟨y, d, zs, kvs, rfl, _⟩ := h
    rfl
  · obtain ⟨y, d, zs, kvs, rfl, hy, hd, hv, q⟩ := h
    refine ⟨_, pss_cons (ps_expr (pe_call GN (hr.mono (by decide)) rfl gN kN bN .nil pass0 (pa_cons (pv 0) pa_nil))) (pss_one (ps_expr (pe_call GV hr rfl gV kV bV .nil pass0 (pa_cons (pv 1) pa_nil)))), ?_⟩
    exact ⟨_, rfl, y, rfl, hy, fun H1 s1 => ⟨_, rfl, d, zs, kvs, rfl, s1 _ _ hd, hv, fun H2 s2 => q H2 (s1.trans s2)⟩⟩
end
end G
set_option Elab.async false
set_option linter.all false
set_option maxRecDepth 100000
set_option maxHeartbeats 2000000
/-! P4: a Between asked. -/
namespace G
open PySem PySem.Spec PyProof.Rows L2 NdefX
abbrev sBtw (j : Nat) : Stmt := inClass (topS 37) j
theorem scOne (j : Nat) (h : FnScope ["self"] ["self"] (defScope (sBtw j))) : FnScope ["self"] ["self"] (defScope (sBtw j)) := h
theorem scBtw1 : FnScope ["self"] ["self"] (defScope (sBtw 1)) := ⟨rfl, rfl, rfl, by decide +kernel, rfl, by decide +kernel, by decide +kernel⟩
theorem scBtw2 : FnScope ["self"] ["self"] (defScope (sBtw 2)) := ⟨rfl, rfl, rfl, by decide +kernel, rfl, by decide +kernel, by decide +kernel⟩
theorem scBtw3 : FnScope ["self"] ["self"] (defScope (sBtw 3)) := ⟨rfl, rfl, rfl, by decide +kernel, rfl, by decide +kernel, by decide +kernel⟩
theorem scBtw4 : FnScope ["self", "key", "value"] ["self", "key", "value"] (defScope (sBtw 4)) := ⟨rfl, rfl, rfl, by decide +kernel, rfl, by decide +kernel, by decide +kernel⟩
theorem scBtw5 : FnScope ["self", "key", "value"] ["self", "key", "value"] (defScope (sBtw 5)) := ⟨rfl, rfl, rfl, by decide +kernel, rfl, by decide +kernel, by decide +kernel⟩
theorem scBtw6 : FnScope ["self"] ["self"] (defScope (sBtw 6)) := ⟨rfl, rfl, rfl, by decide +kernel, rfl, by decide +kernel, by decide +kernel⟩
theorem scBtw7 : FnScope ["self"] ["self"] (defScope (sBtw 7)) := ⟨rfl, rfl, rfl, by decide +kernel, rfl, by decide +kernel, by decide +kernel⟩
/-- at a stands Between(z, low=lo, high=hi) -/
def BtwAt (C : Addr) (H : Hp) (a : Addr) (z : Str) (lo hi : Int) : Prop := ∃ dx, H a = some (.ins C dx (btwFs z lo hi))
/-- whether it holds -/
def btwHolds (z : Str) (lo hi : Int) (kvs : List (Key × V)) : Bool := match valV kvs (Sum.inr z) with
  | some (.int n) => decide (lo ≤ n) && decide (n ≤ hi)
  | _ => false
theorem valV_int {zs : List Str} {kvs : List (Key × V)} (h : ValN zs kvs) (k : Key) : valV kvs k = none ∨ ∃ n, valV kvs k = some (.int n) := by
  cases q : valV kvs k with
  | none => exact .inl rfl
  | some x =>
    have h2 : Option.map (fun p : Key × V => p.2) (kvs.find? fun kv => decide (kv.1 = k)) = some x := q
    obtain ⟨p, hp, rfl⟩ := Option.map_eq_some_iff.mp h2
    obtain ⟨z2, n, ep, _, n1, n2⟩ := h p (List.mem_of_find?_eq_some hp)
    exact .inr ⟨n, by rw [ep]⟩
def spBtwField (C : Addr) : Sp := fun vs H Q _ => ∃ (a : Addr) (z : Str) (lo hi : Int), vs = [.ref a] ∧ BtwAt C H a z lo hi ∧ Q (.str z) H
def spBtwLow (C : Addr) : Sp := fun vs H Q _ => ∃ (a : Addr) (z : Str) (lo hi : Int), vs = [.ref a] ∧ BtwAt C H a z lo hi ∧ Q (.int lo) H
def spBtwHigh (C : Addr) : Sp := fun vs H Q _ => ∃ (a : Addr) (z : Str) (lo hi : Int), vs = [.ref a] ∧ BtwAt C H a z lo hi ∧ Q (.int hi) H
def spBtwOne (C : Addr) : Sp := fun vs H Q _ => ∃ (a : Addr) (z : Str) (lo hi : Int), vs = [.ref a] ∧ BtwAt C H a z lo hi ∧ Q (.int 1) H
def spBtwHolds (C : Addr) : Sp := fun vs H Q _ => ∃ (a d : Addr) (y z : Str) (lo hi : Int) (zs : List Str) (kvs : List (Key × V)), vs = [.ref a, .str y, .ref d] ∧ BtwAt C H a z lo hi ∧ H d = some (.dK kvs) ∧ ValN zs kvs ∧ Q (.bl (btwHolds z lo hi kvs)) H
def spBtwCall (C : Addr) : Sp := fun vs H Q _ => ∃ (a d : Addr) (y z : Str) (lo hi : Int) (zs : List Str) (kvs : List (Key × V)), vs = [.ref a, .str y, .ref d] ∧ BtwAt C H a z lo hi ∧ NameZ y ∧ H d = some (.dK kvs) ∧ ValOk zs kvs ∧
  ∀ H', Same H H' → Q (.bl (btwHolds z lo hi kvs)) H'
section
variable {P : Program} {w : World} {K : PySem.W.Frag} {mg : Str → Option Value} {base : Heap} {f C : Addr} {fd : FuncData}
theorem ok_btwfield (F : Fun K "field" "Between.field" (sBtw 1) f fd) (c : Cls K C) (n : NoAttr K C "field_name") : FnOk P w K mg base CX0 1 f fd ["self"] (spBtwField C) := by
  refine F.ok scBtw1 (fun vs H Q E h => ?_) (fun cdv A outer s H vs Q E hr h => ?_)
  · obtain ⟨a, z, lo, hi, rfl, _⟩ := h
    rfl
  · obtain ⟨a, z, lo, hi, rfl, ⟨dx, ha⟩, q⟩ := h
    exact ⟨_, pss_one (ps_ret (pe_fld (pv 0) rfl)), _, rfl, a, C, dx, _, _, rfl, ha, c, n, rfl, q⟩
theorem ok_btwlow (F : Fun K "low" "Between.low" (sBtw 2) f fd) (c : Cls K C) (n : NoAttr K C "lowest") : FnOk P w K mg base CX0 1 f fd ["self"] (spBtwLow C) := by
  refine F.ok scBtw2 (fun vs H Q E h => ?_) (fun cdv A outer s H vs Q E hr h => ?_)
  · obtain ⟨a, z, lo, hi, rfl, _⟩ := h
    rfl
  · obtain ⟨a, z, lo, hi, rfl, ⟨dx, ha⟩, q⟩ := h
    exact ⟨_, pss_one (ps_ret (pe_fld (pv 0) rfl)), _, rfl, a, C, dx, _, _, rfl, ha, c, n, rfl, q⟩
theorem ok_btwhigh (F : Fun K "high" "Between.high" (sBtw 3) f fd) (c : Cls K C) (n : NoAttr K C "highest") : FnOk P w K mg base CX0 1 f fd ["self"] (spBtwHigh C) := by
  refine F.ok scBtw3 (fun vs H Q E h => ?_) (fun cdv A outer s H vs Q E hr h => ?_)
  · obtain ⟨a, z, lo, hi, rfl, _⟩ := h
    rfl
  · obtain ⟨a, z, lo, hi, rfl, ⟨dx, ha⟩, q⟩ := h
    exact ⟨_, pss_one (ps_ret (pe_fld (pv 0) rfl)), _, rfl, a, C, dx, _, _, rfl, ha, c, n, rfl, q⟩
theorem ok_btwleaves (F : Fun K "leaves" "Between.leaves" (sBtw 6) f fd) (c : Cls K C) (n : NoAttr K C "leaf_count") : FnOk P w K mg base CX0 1 f fd ["self"] (spBtwOne C) := by
  refine F.ok scBtw6 (fun vs H Q E h => ?_) (fun cdv A outer s H vs Q E hr h => ?_)
  · obtain ⟨a, z, lo, hi, rfl, _⟩ := h
    rfl
  · obtain ⟨a, z, lo, hi, rfl, ⟨dx, ha⟩, q⟩ := h
    exact ⟨_, pss_one (ps_ret (pe_fld (pv 0) rfl)), _, rfl, a, C, dx, _, _, rfl, ha, c, n, rfl, q⟩
theorem ok_btwdepth (F : Fun K "depth" "Between.depth" (sBtw 7) f fd) (c : Cls K C) (n : NoAttr K C "height") : FnOk P w K mg base CX0 1 f fd ["self"] (spBtwOne C) := by
  refine F.ok scBtw7 (fun vs H Q E h => ?_) (fun cdv A outer s H vs Q E hr h => ?_)
  · obtain ⟨a, z, lo, hi, rfl, _⟩ := h
    rfl
  · obtain ⟨a, z, lo, hi, rfl, ⟨dx, ha⟩, q⟩ := h
    exact ⟨_, pss_one (ps_ret (pe_fld (pv 0) rfl)), _, rfl, a, C, dx, _, _, rfl, ha, c, n, rfl, q⟩
theorem ok_btwholds (F : Fun K "holds" "Between.holds" (sBtw 5) f fd) (c : Cls K C) (n1 : NoAttr K C "field_name") (n2 : NoAttr K C "lowest") (n3 : NoAttr K C "highest") : FnOk P w K mg base CX0 1 f fd ["self", "key", "value"] (spBtwHolds C) := by
  refine F.ok scBtw5 (fun vs H Q E h => ?_) (fun cdv A outer s H vs Q E hr h => ?_)
  · obtain ⟨a, d, y, z, lo, hi, zs, kvs, rfl, _⟩ := h
    rfl
  · obtain ⟨a, d, y, z, lo, hi, zs, kvs, rfl, ⟨dx, ha⟩, hd, hv, q⟩ := h
    have hu := hu_of hr
    refine ⟨_, pss_one (ps_ret (pe_and (pe_cmp (pc_din hu (pe_fld (pv 0) rfl) (pv 2)) rfl) (pe_one (pe_chain op_le op_le (pe_fld (pv 0) rfl) (pe_dget hu (pv 2) (pe_fld (pv 0) rfl) (fun _ _ => rfl)) (pe_fld (pv 0) rfl))))), ?_⟩
    refine ⟨_, rfl, a, C, dx, _, _, rfl, ha, c, n1, rfl, _, rfl, d, _, rfl, DGet.k (k := Sum.inr z) hd, _, rfl, ?_⟩
    unfold btwHolds at q
    rcases valV_int hv (Sum.inr z) with e | ⟨n, e⟩
    · rw [e] at q ⊢
      exact iteF q
    · rw [e] at q ⊢
      replace q : Q (.bl (decide (lo ≤ n) && decide (n ≤ hi))) H := q
      refine iteT ?_
      refine ⟨_, rfl, a, C, dx, _, _, rfl, ha, c, n2, rfl, _, rfl, _, rfl, a, C, dx, _, _, rfl, ha, c, n1, rfl, d, _, rfl, by rw [← e]; exact DGet.k (k := Sum.inr z) hd, _, _, rfl, rfl, _, rfl, ?_⟩
      cases e2 : decide (lo ≤ n) with
      | false =>
        refine iteF ?_
        rw [e2] at q
        exact q
      | true =>
        refine iteT ?_
        rw [e2] at q
        exact ⟨_, rfl, a, C, dx, _, _, rfl, ha, c, n3, rfl, _, _, rfl, rfl, q⟩
theorem ok_btwcall {fR fH : Addr} {fdR fdH : FuncData} (F : Fun K "__call__" "Between.__call__" (sBtw 4) f fd) (c : Cls K C) (kR : PySem.W.keepIn K (.ref fR) = true) (bR : Binds K fdR ["key", "value"] []) (gR : mg "need_record" = some (.ref fR))
    (GR : FnOk P w K mg base CX0 4 fR fdR ["key", "value"] spNeedRecord) (hm : Meth K C "holds" fH) (bH : Binds K fdH ["self", "key", "value"] []) (GH : FnOk P w K mg base CX0 1 fH fdH ["self", "key", "value"] (spBtwHolds C)) :
    FnOk P w K mg base CX0 5 f fd ["self", "key", "value"] (spBtwCall C) := by
  refine F.ok scBtw4 (fun vs H Q E h => ?_) (fun cdv A outer s H vs Q E hr h => ?_)
  · obtain ⟨a, d, y, z, lo, hi, zs, kvs, rfl, _⟩ := h
    rfl
  · obtain ⟨a, d, y, z, lo, hi, zs, kvs, rfl, ⟨dx, ha⟩, hy, hd, hv, q⟩ := h
    refine ⟨_, pss_cons (ps_expr (pe_call GR hr rfl gR kR bR .nil pass0 (pa_cons (pv 1) (pa_cons (pv 2) pa_nil))))
      (pss_one (ps_ret (pe_meth (pv 0) c hm GH (hr.mono (by decide)) bH .nil pass0 (pa_cons (pv 1) (pa_cons (pv 2) pa_nil))))), ?_⟩
    refine ⟨_, rfl, _, rfl, y, d, zs, kvs, rfl, hy, hd, hv, fun H1 s1 => ?_⟩
    exact ⟨_, rfl, a, dx, _, rfl, s1 _ _ ha, rfl, _, rfl, _, rfl, a, d, y, z, lo, hi, zs, kvs, rfl, ⟨dx, s1 _ _ ha⟩, s1 _ _ hd, hv.is, q H1 s1⟩
end
end G
set_option Elab.async false
set_option linter.all false
set_option maxRecDepth 100000
set_option maxHeartbeats 2000000
/-! P5: a method that captures __class__ and has *names; Named made. -/
namespace G
open PySem PySem.Spec PyProof.Rows L2 NdefX StX
section
variable {CX : CXT} {P : Program} {w : World} {K : PySem.W.Frag} {mg : Str → Option Value} {base : Heap} {k : Nat} {f cda cc : Addr} {name qual : Str} {params : Arguments} {body : List Stmt} {scope : Scope} {dV kV doc pm ct oc : Value} {an od : Option Addr}
  {osl : Array (Option Value)} {N ps : List Str} {sp : Sp}
theorem cell_one {A : Around} {outer : List Env} {s : Shared} {H : Hp} (e0 : Env0 P w K mg base A outer s H) (hcell : ∃ oc od sl v, K.lookup cc = some ⟨oc, od, .cell v, sl⟩) : CellsAt [(("__class__" : Str), cc)] ["__class__"] [none] s.heap H := by
  have inK : K.In s.heap := e0.mod.kin.keeps fun b o e => (e0.bs b o e).1
  obtain ⟨oc3, od3, sl3, v3, lk3⟩ := hcell
  have one : ∀ {y : Str} {c : Addr}, List.lookup y [(("__class__" : Str), cc)] = some c → y = "__class__" ∧ c = cc := fun {y c} z => by
    have z2 := PySem.mem_of_lookup z
    rw [List.mem_singleton] at z2
    exact ⟨congrArg Prod.fst z2, congrArg Prod.snd z2⟩
  refine ⟨rfl, fun y c z => ?_, fun y y' c z z' => (one z).1.trans (one z').1.symm, fun i y z => ?_⟩
  · obtain ⟨_, rfl⟩ := one z
    exact ⟨(e0.bs _ _ (e0.mod.kin _ _ lk3)).2, v3, _, inK _ _ lk3, rfl⟩
  · have hy : y = "__class__" := by
      have z2 := List.mem_of_getElem? z
      rw [List.mem_singleton] at z2
      exact z2
    subst hy
    refine ⟨cc, by simp [List.lookup], fun v z => ?_⟩
    cases i with
    | zero => cases z
    | succ j => cases z
theorem run_bndx {A : Around} {outer : List Env} {s : Shared} {H : Hp} {args : Args} {Q : VK} {E : XK} {G : List V → Hp → Prop} (lk : K.lookup f = some ⟨oc, od, .func (PySem.W.ksFn name qual params body scope dV kV doc pm an (.ref cda) ct cc), osl⟩)
    (hcd : PySem.W.codeIn K (.ref cda) qual = true) (hcell : ∃ oc od sl v, K.lookup cc = some ⟨oc, od, .cell v, sl⟩) (S : NScope N ps ["__class__"] scope) (hr : Room (k + 1) A) (e0 : Env0 P w K mg base A outer s H)
    (hb : Bnd CX P w K mg base (PySem.W.ksFn name qual params body scope dV kV doc pm an (.ref cda) ct cc) args ps A outer s H E G)
    (hbody : ∀ (s2 : Shared) (H2 : Hp) (vs : List V), G vs H2 → Room k (A.deeper (envF ⟨name, qual, params, body, scope, [("__class__", cc)], cda⟩ f s2.heap.objs.size)) →
      ∃ t, PSsa (ncx CX P w K mg base N ⟨name, qual, params, body, scope, [("__class__", cc)], cda⟩ f A outer s2 H2 E) body body t ∧ t { nx := fun _ H' => Q .non H', rt := Q } (startF N vs [none]) H2) :
    codeAny (model P w) A (.call (.ref f) args) (CR CX outer P w H s Q E) s := by
  have inK : K.In s.heap := e0.mod.kin.keeps fun b o e => (e0.bs b o e).1
  refine codeAny_call_function hr.depth (inK _ _ lk) rfl S.co S.gen rfl (PySem.W.codeRec_of inK hcd) ?_
  refine hb _ _ _ fun s2 H2 vs us e2 un ho hx r hl g => ?_
  have lim : s2.heap.NoLimit := e0.mod.nolimit.keeps fun b o e => (e2.bs b o e).1
  refine wpAny_newFunctionEnv (s := s2) S.nocell (fun y hy => S.par y.1 (List.of_mem_zip hy).1) (fun h₁ hns hsb => ⟨lim.fresh _ hsb, ?_⟩) S.kind
  show codeAny _ _ (.func body (envF ⟨name, qual, params, body, scope, [("__class__", cc)], cda⟩ f s2.heap.objs.size)) _ _
  refine ks_codeAny_funcAt ?_
  have kp : ∀ b o, s2.heap.get? b = some o → h₁.get? b = some o := fun b o e => hsb.extBut b o (Nat.ne_of_lt (Heap.lt_size e)) (Heap.get?_push_of_some _ e)
  obtain ⟨t, ht, hq⟩ := hbody s2 H2 vs g (hr.deeper _)
  have I : Inv (ncx CX P w K mg base N ⟨name, qual, params, body, scope, [("__class__", cc)], cda⟩ f A outer s2 H2 E) [] (startF N vs [none]) H2 { s2 with heap := h₁, toks := s2.toks + (ps.zip us).length } := inv_startN S hr.hd e2 hl r (cell_one e2 hcell) hns kp
  refine ks_wpAt_mono (ht.run [] _ _ _ _ I hq) (fun fl s' hs => ?_) fun e s' hs => ?_
  · have fin : ∀ {σ' : L2.St} {H' : Hp} {v' : V} {u' : Value}, Inv (ncx CX P w K mg base N ⟨name, qual, params, body, scope, [("__class__", cc)], cda⟩ f A outer s2 H2 E) [] σ' H' s' → L2.RelV v' u' → Q v' H' → CE outer P w H s Q u' s' :=
      fun {σ' H' v' u'} J rv' q => ⟨v', H', J.os.trans ho, J.bare, un.trans J.base, J.hok, rv', q⟩
    cases fl with
    | ret u' =>
      obtain ⟨v', σ', H', J, rv', q⟩ := hs
      exact fin J rv' q
    | next =>
      obtain ⟨σ', H', J, q⟩ := hs
      exact fin (v' := V.non) (u' := Value.none) J rfl q
    | brk =>
      obtain ⟨_, _, _, q⟩ := hs
      exact False.elim q
    | cont =>
      obtain ⟨_, _, _, q⟩ := hs
      exact False.elim q
  · exact wpAny_mono hs (fun _ s'' z => hx e s'' z) fun e' s'' z => hx e' s'' z
theorem fnx_star {pv : Str} (lk : K.lookup f = some ⟨oc, od, .func (PySem.W.ksFn name qual params body scope dV kV doc pm an (.ref cda) ct cc), osl⟩) (hcd : PySem.W.codeIn K (.ref cda) qual = true) (hcell : ∃ oc od sl v, K.lookup cc = some ⟨oc, od, .cell v, sl⟩)
    (S : NScope N (ps ++ [pv]) ["__class__"] scope) (hCX : CXUp CX)
    (hb : ∀ us rest : List Value, us.length = ps.length → bindArgs (PySem.W.ksFn name qual params body scope dV kV doc pm an (.ref cda) ct cc) ⟨us ++ rest, []⟩ = (newTuple rest >>= fun t => pure (ps.zip us ++ [(pv, t)])))
    (hbody : ∀ (A : Around) (outer : List Env) (s : Shared) (H : Hp) (vs : List V) (Q : VK) (E : XK), Room k (A.deeper (envF ⟨name, qual, params, body, scope, [("__class__", cc)], cda⟩ f s.heap.objs.size)) → sp vs H Q E →
      ∃ t, PSsa (ncx CX P w K mg base N ⟨name, qual, params, body, scope, [("__class__", cc)], cda⟩ f A outer s H E) body body t ∧ t { nx := fun _ H' => Q .non H', rt := Q } (startF N vs [none]) H) :
    FnR P w K mg base CX (k + 1) f (fun vs H Q E => ∃ ws rest, vs = ws ++ rest ∧ ws.length = ps.length ∧ rest.length ≤ sizeLine ∧ ∀ p, H p = Option.none → sp (ws ++ [V.ref p]) (upd H p (.tup rest)) Q E) := by
  intro A outer s H us vs Q E hr e0 r hsp
  obtain ⟨ws, rest, rfl, hl, hz, hq⟩ := hsp
  obtain ⟨u1, u2, rfl, r1, r2⟩ := vals_split r
  have hn : H s.heap.objs.size = Option.none := e0.hok.fresh (Nat.le_refl _)
  have hl1 : u1.length = ps.length := by rw [← r1.length]; exact hl
  have hl2 : u2.length ≤ sizeLine := by rw [← r2.length]; exact hz
  refine run_bndx lk hcd hcell S hr e0 (G := fun xs H2 => ∃ p, H p = Option.none ∧ xs = ws ++ [V.ref p] ∧ H2 = upd H p (.tup rest)) (fun A' Ex Q' h => ?_) fun s2 H2 xs g hr' => ?_
  · rw [hb u1 u2 hl1]
    have new : ObjOk P w (upd H s.heap.objs.size (.tup rest)) (s.heap.push ({ cls := .type "tuple", data := .seq u2.toArray } : Obj)) s.heap.objs.size (.tup rest) := ⟨hz, u2, r2, ⟨_, Heap.get?_push_size _ rfl, rfl, _, rfl⟩⟩
    have un := un_laid (fs := frs outer) (s := s) (o := ({ cls := .type "tuple", data := .seq u2.toArray } : Obj)) (u := .tup rest) hn
    have z := h _ _ (ws ++ [V.ref s.heap.objs.size]) (u1 ++ [Value.ref s.heap.objs.size]) (env0_laid e0 new) un rfl (fun e s' => hCX outer s H _ _ E e s' un (fun b o q => Heap.get?_push_of_some _ q) rfl) (r1.append (.cons rfl .nil))
      (by rw [List.length_append, List.length_append, hl] <;> rfl) ⟨_, hn, rfl, rfl⟩
    rw [List.zip_append hl1.symm] at z
    exact wpAny_bind (wpAny_newTuple (wpAny_pure z) hl2)
  · obtain ⟨p, hp, rfl, rfl⟩ := g
    exact hbody A outer s2 _ _ Q E hr' (hq p hp)
end
/-! ### Named -/
abbrev sNamInit : Stmt := inClass (topS 38) 0
abbrev nNam : List Str := ["self", "names", "__class__", "name"]
theorem scNamInit : NScope nNam ([("self" : Str)] ++ [("names" : Str)]) ["__class__"] (defScope sNamInit) := nscope_by (by decide +kernel)
def namFs (t : Addr) : List (Str × V) := [("leaf_count", .int 1), ("height", .int 1), ("name_count", .int 0), ("accepted_names", .ref t)]
/-- the fields with n names -/
def namF (n : Nat) (t : Addr) : List (Str × V) := [("leaf_count", .int 1), ("height", .int 1), ("name_count", .int (n : Nat)), ("accepted_names", .ref t)]
def spNam (C : Addr) : Sp := fun vs H Q _ => ∃ (a dx t : Addr) (zs : List Str), vs = [.ref a, .ref t] ∧ H a = some (.ins C dx []) ∧ H t = some (.tup (zs.map V.str)) ∧ zs.length ≤ 8 ∧ (∀ z ∈ zs, NameZ z) ∧
  ∀ H', Same (upd H a (.ins C dx [("leaf_count", .int 1), ("height", .int 1), ("name_count", .int (zs.length : Nat))])) H' → Q .non (upd H' a (.ins C dx (namF zs.length t)))
section
variable {P : Program} {w : World} {K : PySem.W.Frag} {mg : Str → Option Value} {base : Heap}
theorem ok_naminit {f cda cc C f2 fN : Addr} {kV : Value} {fd fdN fdC : FuncData} (F : FunX K "__init__" "Named.__init__" sNamInit f cda cc kV fd) (S : SupOf P K f cda cc C C f2 "self") (c : Cls K C) (n1 : NoAttr K C "accepted_names")
    (GN : FnOk P w K mg base CX0 2 fN fdN ["value"] spNeedName) (gN : mg "need_name" = some (.ref fN)) (kN : PySem.W.keepIn K (.ref fN) = true) (bN : Binds K fdN ["value"] [])
    (GC : FnOk P w K mg base CX0 1 f2 fdC ["self", "leaf_count", "height", "name_count"] (spCond C)) (bC : Binds K fdC ["self", "leaf_count", "height", "name_count"] []) (ms : mg "super" = none) (ml : mg "len" = none) :
    FnR P w K mg base CX0 3 f (fun vs H Q E => ∃ ws rest, vs = ws ++ rest ∧ ws.length = ["self"].length ∧ rest.length ≤ sizeLine ∧ ∀ p, H p = Option.none → spNam C (ws ++ [V.ref p]) (upd H p (.tup rest)) Q E) := by
  obtain ⟨oc, od, doc, pm, an, ct, osl, rfl, lk, hcd⟩ := F.ex
  refine fnx_star (ps := ["self"]) (pv := "names") (k := 2) lk hcd F.cell scNamInit cxUp_none (fun us rest hl => match us, rest, hl with | [_], [], _ => rfl | [_], _ :: _, _ => rfl) (fun A outer s H vs Q E hr h => ?_)
  obtain ⟨a, dx, t, zs, rfl, ha, ht, h8, hz, q⟩ := h
  have hr1 := hr.mono (show 1 ≤ 2 by decide)
  refine ⟨_, pssa_cons (psa_super (i := 0) S (GC.raw bC .nil) hr1 pass0 rfl rfl rfl rfl rfl rfl ms rfl (pa_cons pe_int (pa_cons pe_int (pa_cons (pe_callB call_len_seq (by rfl) ml PySem.boot_len (pa_cons (pv 1) pa_nil)) pa_nil))))
    (pssa (pss_cons (ps_for PassesOwn.leaving rfl (pi_tup (pv 1)) (pg_name (i := 3) scNamInit.nd rfl (.inl rfl)) (pss_one (ps_expr (pe_call GN hr rfl gN kN bN .nil pass0 (pa_cons (pv 3) pa_nil)))))
      (pss_one (ps_fld (pv 0) (pv 1) rfl)))), ?_⟩
  have nat : t ≠ a := fun z => by
    rw [z, ha] at ht
    cases ht
  refine ⟨a, dx, [], rfl, ha, _, rfl, t, _, rfl, .inr (.of ht), a, dx, 1, 1, _, [], rfl, ha, by decide, by decide, by decide, by rw [List.length_map]; omega, ?_⟩
  rw [List.length_map]
  have ht1 : (upd H a (.ins C dx (putF "name_count" (.int (zs.length : Nat)) (putF "height" (.int 1) (putF "leaf_count" (.int 1) []))))) t = some (.tup (zs.map V.str)) := (upd_ne nat).trans ht
  refine ⟨_, rfl, t, rfl, ⟨_, .of ht1⟩, ?_⟩
  refine for_tup (xs := zs.map V.str) (fun i σ H2 => ∃ x3 : Option V, σ = [some (.ref a), some (.ref t), none, x3] ∧ Same (upd H a (.ins C dx [("leaf_count", .int 1), ("height", .int 1), ("name_count", .int (zs.length : Nat))])) H2) ?_ ?_ ?_ ?_
  · exact ⟨none, rfl, Same.refl _⟩
  · rintro i σ H2 _ ⟨x3, rfl, s2⟩
    exact .of (s2 _ _ ht1)
  · rintro i x σ H2 hx ⟨x3, rfl, s2⟩
    rw [List.getElem?_map] at hx
    obtain ⟨y, hy, rfl⟩ := Option.map_eq_some_iff.mp hx
    exact ⟨_, rfl, y, rfl, hz y (List.mem_of_getElem? hy), fun H3 s3 => ⟨_, rfl, s2.trans s3⟩⟩
  · rintro σ H2 ⟨x3, rfl, s2⟩
    exact ⟨_, rfl, _, rfl, a, C, dx, _, rfl, s2 _ _ upd_same, c, n1, (by show 3 < 1000; decide), q H2 s2⟩
end
end G
set_option Elab.async false
set_option linter.all false
set_option maxRecDepth 100000
set_option maxHeartbeats 2000000
/-! P6: a Named asked. -/
namespace G
open PySem PySem.Spec PyProof.Rows L2 NdefX
abbrev sNam (j : Nat) : Stmt := inClass (topS 38) j
theorem scNam1 : FnScope ["self"] ["self"] (defScope (sNam 1)) := ⟨rfl, rfl, rfl, by decide +kernel, rfl, by decide +kernel, by decide +kernel⟩
theorem scNam2 : FnScope ["self", "key", "value"] ["self", "key", "value"] (defScope (sNam 2)) := ⟨rfl, rfl, rfl, by decide +kernel, rfl, by decide +kernel, by decide +kernel⟩
theorem scNam3 : FnScope ["self", "key", "value"] ["self", "key", "value"] (defScope (sNam 3)) := ⟨rfl, rfl, rfl, by decide +kernel, rfl, by decide +kernel, by decide +kernel⟩
theorem scNam4 : FnScope ["self"] ["self"] (defScope (sNam 4)) := ⟨rfl, rfl, rfl, by decide +kernel, rfl, by decide +kernel, by decide +kernel⟩
theorem scNam5 : FnScope ["self"] ["self"] (defScope (sNam 5)) := ⟨rfl, rfl, rfl, by decide +kernel, rfl, by decide +kernel, by decide +kernel⟩
/-- at a stands Named(*zs), whose tuple is at t -/
def NamAt (C : Addr) (H : Hp) (a t : Addr) (zs : List Str) : Prop := ∃ dx, H a = some (.ins C dx (namF zs.length t)) ∧ H t = some (.tup (zs.map V.str))
theorem NamAt.same {C a t : Addr} {H H' : Hp} {zs : List Str} (h : NamAt C H a t zs) (s : Same H H') : NamAt C H' a t zs := let ⟨dx, h1, h2⟩ := h; ⟨dx, s _ _ h1, s _ _ h2⟩
def spNamAcc (C : Addr) : Sp := fun vs H Q _ => ∃ (a t : Addr) (zs : List Str), vs = [.ref a] ∧ NamAt C H a t zs ∧ Q (.ref t) H
def spNamOne (C : Addr) : Sp := fun vs H Q _ => ∃ (a t : Addr) (zs : List Str), vs = [.ref a] ∧ NamAt C H a t zs ∧ Q (.int 1) H
def spNamHolds (C : Addr) : Sp := fun vs H Q _ => ∃ (a d t : Addr) (y : Str) (zs : List Str), vs = [.ref a, .str y, .ref d] ∧ NamAt C H a t zs ∧ Q (.bl (inV (.str y) (zs.map V.str))) H
def spNamCall (C : Addr) : Sp := fun vs H Q _ => ∃ (a d t : Addr) (y : Str) (zs ws : List Str) (kvs : List (Key × V)), vs = [.ref a, .str y, .ref d] ∧ NamAt C H a t zs ∧ NameZ y ∧ H d = some (.dK kvs) ∧ ValOk ws kvs ∧
  ∀ H', Same H H' → Q (.bl (inV (.str y) (zs.map V.str))) H'
section
variable {P : Program} {w : World} {K : PySem.W.Frag} {mg : Str → Option Value} {base : Heap} {f C : Addr} {fd : FuncData}
theorem ok_namacc (F : Fun K "accepted" "Named.accepted" (sNam 1) f fd) (c : Cls K C) (n : NoAttr K C "accepted_names") : FnOk P w K mg base CX0 1 f fd ["self"] (spNamAcc C) := by
  refine F.ok scNam1 (fun vs H Q E h => ?_) (fun cdv A outer s H vs Q E hr h => ?_)
  · obtain ⟨a, t, zs, rfl, _⟩ := h
    rfl
  · obtain ⟨a, t, zs, rfl, ⟨dx, ha, _⟩, q⟩ := h
    exact ⟨_, pss_one (ps_ret (pe_fld (pv 0) rfl)), _, rfl, a, C, dx, _, _, rfl, ha, c, n, rfl, q⟩
theorem ok_namleaves (F : Fun K "leaves" "Named.leaves" (sNam 4) f fd) (c : Cls K C) (n : NoAttr K C "leaf_count") : FnOk P w K mg base CX0 1 f fd ["self"] (spNamOne C) := by
  refine F.ok scNam4 (fun vs H Q E h => ?_) (fun cdv A outer s H vs Q E hr h => ?_)
  · obtain ⟨a, t, zs, rfl, _⟩ := h
    rfl
  · obtain ⟨a, t, zs, rfl, ⟨dx, ha, _⟩, q⟩ := h
    exact ⟨_, pss_one (ps_ret (pe_fld (pv 0) rfl)), _, rfl, a, C, dx, _, _, rfl, ha, c, n, rfl, q⟩
theorem ok_namdepth (F : Fun K "depth" "Named.depth" (sNam 5) f fd) (c : Cls K C) (n : NoAttr K C "height") : FnOk P w K mg base CX0 1 f fd ["self"] (spNamOne C) := by
  refine F.ok scNam5 (fun vs H Q E h => ?_) (fun cdv A outer s H vs Q E hr h => ?_)
  · obtain ⟨a, t, zs, rfl, _⟩ := h
    rfl
  · obtain ⟨a, t, zs, rfl, ⟨dx, ha, _⟩, q⟩ := h
    exact ⟨_, pss_one (ps_ret (pe_fld (pv 0) rfl)), _, rfl, a, C, dx, _, _, rfl, ha, c, n, rfl, q⟩
theorem ok_namholds (F : Fun K "holds" "Named.holds" (sNam 3) f fd) (c : Cls K C) (n : NoAttr K C "accepted_names") : FnOk P w K mg base CX0 1 f fd ["self", "key", "value"] (spNamHolds C) := by
  refine F.ok scNam3 (fun vs H Q E h => ?_) (fun cdv A outer s H vs Q E hr h => ?_)
  · obtain ⟨a, d, t, y, zs, rfl, _⟩ := h
    rfl
  · obtain ⟨a, d, t, y, zs, rfl, ⟨dx, ha, ht⟩, q⟩ := h
    refine ⟨_, pss_one (ps_ret (pe_cmpR op_in_seq (pv 1) (pe_fld (pv 0) rfl) (by rfl))), ?_⟩
    refine ⟨_, rfl, _, rfl, a, C, dx, _, _, rfl, ha, c, n, rfl, t, _, rfl, .inr (.of ht), rfl, ?_, q⟩
    rw [List.all_eq_true]
    intro x hx
    obtain ⟨z, _, rfl⟩ := List.mem_map.mp hx
    rfl
theorem ok_namcall {fR fH : Addr} {fdR fdH : FuncData} (F : Fun K "__call__" "Named.__call__" (sNam 2) f fd) (c : Cls K C) (kR : PySem.W.keepIn K (.ref fR) = true) (bR : Binds K fdR ["key", "value"] []) (gR : mg "need_record" = some (.ref fR))
    (GR : FnOk P w K mg base CX0 4 fR fdR ["key", "value"] spNeedRecord) (hm : Meth K C "holds" fH) (bH : Binds K fdH ["self", "key", "value"] []) (GH : FnOk P w K mg base CX0 1 fH fdH ["self", "key", "value"] (spNamHolds C)) :
    FnOk P w K mg base CX0 5 f fd ["self", "key", "value"] (spNamCall C) := by
  refine F.ok scNam2 (fun vs H Q E h => ?_) (fun cdv A outer s H vs Q E hr h => ?_)
  · obtain ⟨a, d, t, y, zs, ws, kvs, rfl, _⟩ := h
    rfl
  · obtain ⟨a, d, t, y, zs, ws, kvs, rfl, hn, hy, hd, hv, q⟩ := h
    refine ⟨_, pss_cons (ps_expr (pe_call GR hr rfl gR kR bR .nil pass0 (pa_cons (pv 1) (pa_cons (pv 2) pa_nil))))
      (pss_one (ps_ret (pe_meth (pv 0) c hm GH (hr.mono (by decide)) bH .nil pass0 (pa_cons (pv 1) (pa_cons (pv 2) pa_nil))))), ?_⟩
    refine ⟨_, rfl, _, rfl, y, d, ws, kvs, rfl, hy, hd, hv, fun H1 s1 => ?_⟩
    obtain ⟨dx, ha, ht⟩ := hn.same s1
    exact ⟨_, rfl, a, dx, _, rfl, ha, rfl, _, rfl, _, rfl, a, d, t, y, zs, rfl, ⟨dx, ha, ht⟩, q H1 s1⟩
end
end G
set_option Elab.async false
set_option linter.all false
set_option maxRecDepth 100000
set_option maxHeartbeats 2000000
/-! P7: an instance called with keywords alone. -/
namespace G
open PySem PySem.Spec PyProof.Rows L2 NdefX StX
theorem callOK_of {M : Model} {A : Around} {E : Value → Shared → Prop} {s : Shared} {a : Addr} {pos : Pos} {Q : Value → Shared → Prop} {args : List (Bool × Sem Value)} {keywords : List (Option Str × Sem Value)}
    (plain : (args.any (·.1) || keywords.any (·.1.isNone)) = false)
    (h : wpAny M A (evalArgs (.ref a) true args keywords) (fun z s₁ => (∃ C ox od, PySem.W.InstAt s₁.heap a ox C od ∧ ox.data = .plain) ∧ wpAny M A (call (.ref a) ([] ++ z.pos) z.kw) Q E s₁) E s) :
    wpAny M A (callWith pos (.ref a) [] args keywords) Q E s := by
  unfold callWith
  refine wpAny_bind (wpAny_holding (wpAny_mono h (fun z s₁ hz => wpAny_bind (wpAny_standAt ?_)) fun _ _ y => y))
  obtain ⟨C, ox, od, J, hd⟩ := hz.1
  simp only [plain]
  refine wpAny_bind ((PySem.W.kco_keeper (M := M) J hd).here ?_)
  have fin : ∀ {t : Sem Value}, wpAny M A t Q E s₁ → wpAny M A (t >>= fun r => holding [r] point >>= fun _ => pure r) Q E s₁ := fun go =>
    wpAny_bind (wpAny_mono go (fun r s₂ hr => wpAny_bind (wpAny_holding (wpAny_point (wpAny_pure hr)))) fun _ _ y => y)
  exact fin (wpAny_operateT hz.2)
/-- x(k = v, ..), x a name that holds an instance of C -/
def tCallOK (X : Cx) (C : Addr) (m : Nat) (sp : Sp) (gV : List V → List V → List V) (E : XK) (tf : TE) (tk : TA) : TE := fun σ H Q => tf σ H fun y H1 => ∃ a, y = V.ref a ∧ tk σ H1 fun zs H2 => zs.length = m ∧ InsC X H2 a C ∧ sp (gV [V.ref a] zs) H2 Q E
theorem pe_callOK {X : Cx} {CX : CXT} {k : Nat} {C g0 : Addr} {fd : FuncData} {ps ks : List Str} {sp : Sp} {E : XK} {x : Str} {p pos : Pos} {kws : List Keyword} {tf : TE} {tk : TA} {g : List Value → List Value → List Value} {gV : List V → List V → List V}
    (hf : PE X (.Name x p) tf) (c : CallO X.K C g0) (F : FnOk X.prog X.w X.K X.mg X.base CX k g0 fd ps sp) (hr : Room k X.A) (hb : KBn X.K fd ps 1 ks g gV) (hx : Passes CX X E) (hkw : PK X kws tk)
    (hall : (backToKw pos (keywordEach kws X.env)).all (·.1.isSome) = true := by rfl) (hks : (backToKw pos (keywordEach kws X.env)).filterMap (·.1) = ks := by rfl)
    (hpl : ((backTo pos (starEach [] X.env)).any (·.1) || (backToKw pos (keywordEach kws X.env)).any (·.1.isNone)) = false := by rfl) :
    PE X (.Call (.Name x p) [] kws pos) (tCallOK X C ks.length sp gV E tf tk) := by
  refine ⟨fun pins s σ H Q I h => ?_⟩
  refine wpAny_Call_Name_kw (thn (hf.run pins s σ H _ I h) fun u s1 ⟨y, H1, I1, ry, a, ey, q⟩ => ?_)
  subst ey
  obtain rfl : u = Value.ref a := ry
  refine callOK_of hpl (evalArgs_kw2_nil hall (thn (hkw.run pos pins s1 σ H1 _ I1 q) fun ws s2 ⟨zs, H2, I2, rz, l2, hi, q2⟩ => ?_))
  obtain ⟨ox, od, J, hd⟩ := insC_at I2 hi
  refine ⟨⟨C, ox, od, J, hd⟩, ?_⟩
  rw [hks]
  have r1 : Vals [V.ref a] [Value.ref a] := .cons rfl .nil
  have r2 := hb.rel r1 rz
  refine wpAny_call (PySem.W.kco_code I2.kIn J hd c.at_ c.fn c.fi (codeAny_mono (F.run X.A X.stack s2 H2 ⟨[.ref a], ks.zip ws⟩ (g [.ref a] ws) (gV [.ref a] zs) Q E hr I2.env0 (hb.to s2 [.ref a] ws I2.kIn rfl (rz.length.symm.trans l2)) r2 q2) fun r s' hq => ?_))
  cases r with
  | error e => exact hx pins σ H2 s2 e s' I2 hq
  | ok fl =>
    cases fl with
    | ret u => exact I2.after hq
    | next => exact False.elim hq
    | brk => exact False.elim hq
    | cont => exact False.elim hq
/-- __call__(value = v, key = k) -/
theorem kb_vk {K : PySem.W.Frag} {qual : Str} {st : Stmt} {f : Addr} {fd : FuncData} (F : Fun K "__call__" qual st f fd)
    (h : ∀ (kV doc pm : Value) (an : Option Addr) (cdv ct : Value) (a v k : Value), bindArgs (PySem.W.fnOf "__call__" qual (defArgs st) (defBody st) (defScope st) .none kV doc pm an cdv ct) ⟨[a], [("value", v), ("key", k)]⟩ = pure [(("self" : Str), a), (("key" : Str), k), (("value" : Str), v)]) :
    KBn K fd ["self", "key", "value"] 1 ["value", "key"] (fun us ws => us ++ ws.reverse) (fun vs zs => vs ++ zs.reverse) := by
  obtain ⟨oc, od, kV, doc, pm, an, cdv, ct, osl, rfl, lk, hcd⟩ := F.ex
  refine ⟨fun s us ws _ hu hw => ?_, fun {vs us zs ws} r1 r2 => ?_⟩
  · match us, ws, hu, hw with
    | [a], [v, k], _, _ => exact .of_eq (h kV doc pm an cdv ct a v k)
  · have rev : ∀ {zs : List V} {ws : List Value}, Vals zs ws → Vals zs.reverse ws.reverse := by
      intro zs ws r
      induction r with
      | nil => exact .nil
      | cons a _ ih =>
        rw [List.reverse_cons, List.reverse_cons]
        exact ih.append (.cons a .nil)
    exact r1.append (rev r2)
end G
set_option Elab.async false
set_option linter.all false
set_option maxRecDepth 100000
set_option maxHeartbeats 2000000
/-! P8: how Between's arguments are bound. -/
namespace G
open PySem PySem.Spec PyProof.Rows L2 NdefX StX
section
variable {K : PySem.W.Frag} {f cda cc D : Addr} {fd : FuncData} {t1 t2 : Tok}
/-- the defaults of low and high -/
structure BtwDef (K : PySem.W.Frag) (D : Addr) : Prop where
  lo : ∃ t, PySem.W.nsIn K D "low" = some (some (.int (-999) t))
  hi : ∃ t, PySem.W.nsIn K D "high" = some (some (.int 999 t))
abbrev psBtw : List Str := ["self", "field", "low", "high"]
theorem btw_b1 (F : FunX K "__init__" "Between.__init__" sBtwInit f cda cc (.ref D) fd) (d : BtwDef K D) : ∃ ds : List Value, Binds K fd psBtw ds ∧ Vals [V.int (-999), V.int 999] ds := by
  obtain ⟨oc, od, doc, pm, an, ct, osl, rfl, lk, hcd⟩ := F.ex
  obtain ⟨tl, hl⟩ := d.lo
  obtain ⟨th, hh⟩ := d.hi
  refine ⟨[.int (-999) tl, .int 999 th], fun s us X hlen => ?_, .cons ⟨tl, rfl⟩ (.cons ⟨th, rfl⟩ .nil)⟩
  have h2 : us.length = 2 := by
    rw [List.length_append] at hlen
    have h3 : us.length + 2 = 4 := hlen
    omega
  match us, h2 with
  | [a, b], _ =>
    refine BindsTo.of_looks fun M => KwChain.looks (l := [("low", .int (-999) tl), ("high", .int 999 th)]) (D := D) X (fun q hq => ?_) ⟨_, _, _, _, _, _, rfl, rfl, _, _, _, _, _, _, rfl, rfl, rfl⟩
    rcases List.mem_cons.mp hq with rfl | hq
    · exact hl
    · rcases List.mem_cons.mp hq with rfl | hq
      · exact hh
      · cases hq
theorem btw_b2 (F : FunX K "__init__" "Between.__init__" sBtwInit f cda cc (.ref D) fd) (d : BtwDef K D) : ∃ t, KBn K fd psBtw 2 ["low"] (fun us ws => us ++ (ws ++ [.int 999 t])) (fun vs zs => vs ++ (zs ++ [.int 999])) := by
  obtain ⟨oc, od, doc, pm, an, ct, osl, rfl, lk, hcd⟩ := F.ex
  obtain ⟨th, hh⟩ := d.hi
  refine ⟨th, fun s us ws X h1 h2 => ?_, fun r1 r2 => r1.append (r2.append (.cons ⟨th, rfl⟩ .nil))⟩
  match us, ws, h1, h2 with
  | [a, b], [c], _, _ =>
    refine BindsTo.of_looks fun M => KwChain.looks (l := [("high", .int 999 th)]) (D := D) X (fun q hq => ?_) ⟨_, _, _, _, _, _, rfl, rfl, rfl⟩
    rcases List.mem_cons.mp hq with rfl | hq
    · exact hh
    · cases hq
theorem btw_b3 (F : FunX K "__init__" "Between.__init__" sBtwInit f cda cc (.ref D) fd) (d : BtwDef K D) : ∃ t, KBn K fd psBtw 1 ["high", "field"] (fun us ws => us ++ (ws.drop 1 ++ ([.int (-999) t] ++ ws.take 1))) (fun vs zs => vs ++ (zs.drop 1 ++ ([.int (-999)] ++ zs.take 1))) := by
  obtain ⟨oc, od, doc, pm, an, ct, osl, rfl, lk, hcd⟩ := F.ex
  obtain ⟨tl, hl⟩ := d.lo
  refine ⟨tl, fun s us ws X h1 h2 => ?_, fun r1 r2 => r1.append ((r2.drop 1).append ((show Vals [V.int (-999)] [Value.int (-999) tl] from .cons ⟨tl, rfl⟩ .nil).append (r2.take 1)))⟩
  match us, ws, h1, h2 with
  | [a], [c, b], _, _ =>
    refine BindsTo.of_looks fun M => KwChain.looks (l := [("low", .int (-999) tl)]) (D := D) X (fun q hq => ?_) ⟨_, _, _, _, _, _, rfl, rfl, rfl⟩
    rcases List.mem_cons.mp hq with rfl | hq
    · exact hl
    · cases hq
theorem btw_b4 (F : FunX K "__init__" "Between.__init__" sBtwInit f cda cc (.ref D) fd) : KBn K fd psBtw 2 ["high", "low"] (fun us ws => us ++ (ws.drop 1 ++ ws.take 1)) (fun vs zs => vs ++ (zs.drop 1 ++ zs.take 1)) := by
  obtain ⟨oc, od, doc, pm, an, ct, osl, rfl, lk, hcd⟩ := F.ex
  refine ⟨fun s us ws X h1 h2 => ?_, fun r1 r2 => r1.append ((r2.drop 1).append (r2.take 1))⟩
  match us, ws, h1, h2 with
  | [a, b], [c, d], _, _ => exact .of_eq rfl
end
end G
set_option Elab.async false
set_option linter.all false
set_option maxRecDepth 100000
set_option maxHeartbeats 2000000
/-! HK: the head's facts by a Hook of our own: methods that capture __class__, properties, instances that are called; the law's end over it. -/
namespace G
open PySem PySem.Spec PyProof.Rows L2 NdefX StX He

/-! ### defs by where they stand -/
/-- a def of the text: where it stands, its names, its statement, the names that it captures -/
structure Dp where
  at_ : PySem.W.Frag → Addr
  name : Str
  qual : Str
  st : Stmt
  clo : List Str
abbrev FnY : Type := Option (Str × Str × Arguments × FuncBody × Scope × Addr × List Str × Addr)
def fnY (K : PySem.W.Frag) (a : Addr) : FnY := match K.lookup a with
  | some ⟨_, _, .func fd, _⟩ => some (fd.name, fd.qualname, fd.params, fd.body, fd.scope, fd.globals, fd.closure.map (·.1), fd.builtins)
  | _ => none
def Dp.val (d : Dp) : FnY := some (d.name, d.qual, defArgs d.st, .stmts (defBody d.st), defScope d.st, mainGlobals, d.clo, builtinsNs)
def noneB : Value → Bool
  | .none => true
  | _ => false
/-- the def's code, no positional defaults -/
def codB (K : PySem.W.Frag) (a : Addr) (q : Str) : Bool := match K.lookup a with
  | some ⟨_, _, .func fd, _⟩ => PySem.W.codeIn K fd.code q && noneB fd.defaults
  | _ => false
def plainB (K : PySem.W.Frag) (a : Addr) (q : Str) : Bool := PySem.W.keepIn K (.ref a) && codB K a q
theorem fun_of {K : PySem.W.Frag} {a : Addr} {d : Dp} (e : fnY K a = d.val) (hc : d.clo = []) (c : plainB K a d.qual = true) : ∃ fd, Fun K d.name d.qual d.st a fd := by
  obtain ⟨kp, c2⟩ := ba c
  unfold fnY Dp.val at e
  rw [hc] at e
  unfold codB at c2
  cases q : K.lookup a with
  | none =>
    rw [q] at c2
    cases c2
  | some o =>
    obtain ⟨oc, od, dt, osl⟩ := o
    rw [q] at c2 e
    cases dt with
    | func fd =>
      obtain ⟨n1, n2, n3, n4, n5, n6, n7, n8, n9, n10, n11, n12, n13, n14, n15⟩ := fd
      have e2 : (some (n1, n2, n3, n4, n5, n6, n7.map (·.1), n15) : FnY) = some (d.name, d.qual, defArgs d.st, .stmts (defBody d.st), defScope d.st, mainGlobals, [], builtinsNs) := e
      simp only [Option.some.injEq, Prod.mk.injEq] at e2
      obtain ⟨h1, h2, h3, h4, h5, h6, h7, h8⟩ := e2
      have h7' : n7 = [] := List.map_eq_nil_iff.mp h7
      subst h1 h2 h3 h4 h5 h6 h7' h8
      have c3 : (PySem.W.codeIn K n13 d.qual && noneB n8) = true := c2
      obtain ⟨k1, k2⟩ := ba c3
      cases n8 with
      | none => exact ⟨_, ⟨oc, od, n9, n10, n11, n12, n13, n14, osl, rfl, q, k1⟩, kp⟩
      | _ => cases k2
    | _ => cases c2
/-- a method that captures __class__ -/
def celC (K : PySem.W.Frag) (cc C : Addr) : Bool := match K.lookup cc with
  | some ⟨_, _, .cell (some (.ref D)), _⟩ => decide (D = C)
  | _ => false
def cloB (K : PySem.W.Frag) (a C : Addr) : Bool := match K.lookup a with
  | some ⟨_, _, .func fd, _⟩ => (match fd.closure with
    | [(_, cc)] => celC K cc C
    | _ => false)
  | _ => false
/-- .. its code object's file -/
def filC (K : PySem.W.Frag) (c : Addr) (file : Str) : Bool := match K.lookup c with
  | some ⟨_, _, .fields vs, _⟩ => (match vs.toList[2]? with
    | some (Value.str fl _) => file == fl
    | _ => false)
  | _ => false
def filV (K : PySem.W.Frag) (v : Value) (file : Str) : Bool := match v with
  | .ref c => filC K c file
  | _ => false
def filB (K : PySem.W.Frag) (a : Addr) (file : Str) : Bool := match K.lookup a with
  | some ⟨_, _, .func fd, _⟩ => filV K fd.code file
  | _ => false
def kwV (K : PySem.W.Frag) (a : Addr) : Value := match K.lookup a with
  | some ⟨_, _, .func fd, _⟩ => fd.kwdefaults
  | _ => .none
/-- what FunX and SupOf want of the def at a, of the class at C -/
structure ClsDef (P : Program) (K : PySem.W.Frag) (d : Dp) (a C : Addr) : Prop where
  ex : ∃ (oc : Value) (od : Option Addr) (doc pm ct : Value) (an : Option Addr) (osl : Array (Option Value)) (cda cc : Addr) (oc3 : Value) (od3 : Option Addr) (sl3 : Array (Option Value)) (oc2 : Value) (od2 : Option Addr) (vs : Array Value) (sl2 : Array (Option Value)) (fl : Str) (tf : Tok),
    K.lookup a = some ⟨oc, od, .func (PySem.W.ksFn d.name d.qual (defArgs d.st) (defBody d.st) (defScope d.st) .none (kwV K a) doc pm an (.ref cda) ct cc), osl⟩ ∧ PySem.W.codeIn K (.ref cda) d.qual = true ∧
    K.lookup cc = some ⟨oc3, od3, .cell (some (.ref C)), sl3⟩ ∧ K.lookup cda = some ⟨oc2, od2, .fields vs, sl2⟩ ∧ vs.toList[2]? = some (Value.str fl tf) ∧ ((P.main.file : Str) == fl) = true
theorem clsdef_of {P : Program} {K : PySem.W.Frag} {a C : Addr} {d : Dp} (e : fnY K a = d.val) (hc : d.clo = [("__class__" : Str)]) (c : (codB K a d.qual && (cloB K a C && filB K a P.main.file)) = true) : ClsDef P K d a C := by
  obtain ⟨c1, c23⟩ := ba c
  obtain ⟨c2, c3⟩ := ba c23
  unfold fnY Dp.val at e
  rw [hc] at e
  unfold codB at c1
  unfold cloB at c2
  unfold filB at c3
  cases q : K.lookup a with
  | none =>
    rw [q] at c1
    cases c1
  | some o =>
    obtain ⟨oc, od, dt, osl⟩ := o
    rw [q] at c1 c2 c3 e
    cases dt with
    | func fd =>
      have ekw : kwV K a = fd.kwdefaults := by
        unfold kwV
        rw [q]
      obtain ⟨n1, n2, n3, n4, n5, n6, n7, n8, n9, n10, n11, n12, n13, n14, n15⟩ := fd
      have e2 : (some (n1, n2, n3, n4, n5, n6, n7.map (·.1), n15) : FnY) = some (d.name, d.qual, defArgs d.st, .stmts (defBody d.st), defScope d.st, mainGlobals, [("__class__" : Str)], builtinsNs) := e
      simp only [Option.some.injEq, Prod.mk.injEq] at e2
      obtain ⟨h1, h2, h3, h4, h5, h6, h7, h8⟩ := e2
      obtain ⟨cc, rfl⟩ : ∃ cc, n7 = [(("__class__" : Str), cc)] := by
        match n7, h7 with
        | [(y, cc)], h7 =>
          have : y = ("__class__" : Str) := by
            have h9 : [y] = [("__class__" : Str)] := h7
            exact List.head_eq_of_cons_eq h9
          exact ⟨cc, by rw [this]⟩
      subst h1 h2 h3 h4 h5 h6 h8
      have c4 : (PySem.W.codeIn K n13 d.qual && noneB n8) = true := c1
      obtain ⟨k1, k2⟩ := ba c4
      have c5 : celC K cc C = true := c2
      unfold celC at c5
      have c6 : filV K n13 P.main.file = true := c3
      obtain ⟨oc3, od3, sl3, hcell⟩ : ∃ oc3 od3 sl3, K.lookup cc = some ⟨oc3, od3, .cell (some (.ref C)), sl3⟩ := by
        split at c5
        · rename_i x1 x2 D x3 ho
          rw [of_decide_eq_true c5] at ho
          exact ⟨_, _, _, ho⟩
        · cases c5
      cases n13 with
      | ref cda =>
        have c7 : filC K cda P.main.file = true := c6
        unfold filC at c7
        obtain ⟨oc2, od2, vs, sl2, fl, tf, w1, w2, w3⟩ : ∃ oc2 od2 vs sl2 fl tf, K.lookup cda = some ⟨oc2, od2, .fields vs, sl2⟩ ∧ vs.toList[2]? = some (Value.str fl tf) ∧ ((P.main.file : Str) == fl) = true := by
          split at c7
          · rename_i x1 x2 vs x3 ho
            split at c7
            · rename_i fl tf hv
              exact ⟨_, _, vs, _, fl, tf, ho, hv, c7⟩
            · cases c7
          · cases c7
        cases n8 with
        | none =>
          refine ⟨oc, od, n10, n11, n14, n12, osl, cda, cc, oc3, od3, sl3, oc2, od2, vs, sl2, fl, tf, ?_, k1, hcell, w1, w2, w3⟩
          rw [ekw]
          exact q
        | _ => cases k2
      | _ => cases c6
    | _ => cases c1
/-- what super() rests on besides -/
def supB (K : PySem.W.Frag) (C f2 : Addr) : Bool := PySem.W.isClsIn K C && (decide (PySem.W.mroIn K C (.ref C) = some true) && (eqO (PySem.W.nsIn K cStatics "thirdparty.any") (some none) && (eqO (PySem.W.ks_superIn K C C "__init__") (some (some (.ref f2))) &&
  (decide (PySem.W.typeIn K (.ref f2) = some (.type "function")) && PySem.W.fnIn K f2))))
/-! ### properties, calls -/
def getr (K : PySem.W.Frag) (p : Addr) : Addr := match PySem.W.recIn K p "property" with
  | some (.ref g :: _) => g
  | _ => 0
def proB (K : PySem.W.Frag) (C : Addr) (f : Str) : Bool := eqO (PySem.W.findIn K (.ref C) f) (some (some (.ref (ma K C f)))) && (eqO (PySem.W.specialIn K (.ref (ma K C f)) "__get__") (some (some (.builtin "property.__get__"))) &&
  (decide (PySem.W.takesIn K (.ref (ma K C f)) = some true) && (match PySem.W.recIn K (ma K C f) "property" with
    | some (.ref _ :: _) => true
    | _ => false)))
theorem pro_ok {K : PySem.W.Frag} {C : Addr} {f : Str} (h : proB K C f = true) : PropOf K C f (ma K C f) (getr K (ma K C f)) := by
  obtain ⟨c1, c⟩ := ba h
  obtain ⟨c2, c⟩ := ba c
  obtain ⟨c3, c4⟩ := ba c
  refine ⟨eqO_ok c1, eqO_ok c2, of_decide_eq_true c3, ?_⟩
  unfold getr
  split at c4
  · rename_i g rest e
    rw [e]
    exact ⟨rest, rfl⟩
  · cases c4
def calB (K : PySem.W.Frag) (C : Addr) : Bool := eqO (PySem.W.findIn K (.ref C) "__call__") (some (some (.ref (ma K C "__call__")))) && (PySem.W.isFn K (.ref (ma K C "__call__")) && PySem.W.fnIn K (ma K C "__call__"))
theorem cal_ok {K : PySem.W.Frag} {C : Addr} (h : calB K C = true) : CallO K C (ma K C "__call__") := by
  obtain ⟨c1, c⟩ := ba h
  obtain ⟨c2, c3⟩ := ba c
  exact ⟨eqO_ok c1, c2, c3⟩
/-! ### the Hook -/
/-- what an object names, as far as the facts ask -/
def refsQ (o : Obj) : List Addr := match o.data with
  | .dict es _ => es.toList.flatMap fun e => refV e.val
  | .func fd => refV fd.code ++ (refV fd.kwdefaults ++ fd.closure.map (·.2))
  | .cls cd => [cd.ns]
  | .fields vs => (match o.cls with
    | .type n => (match decide (n = "property") with
      | true => vs.toList.flatMap refV
      | false => [])
    | _ => [])
  | _ => []
def frL {α : Type} : List Addr → (List Addr → α) → α
  | [], k => k []
  | a :: r, k => HandSHeadRun.frNat a fun a => frL r fun r => k (a :: r)
theorem frL_eq {α : Type} : ∀ (l : List Addr) (k : List Addr → α), frL l k = k l
  | [], _ => rfl
  | a :: r, k => by
    show (HandSHeadRun.frNat a fun a => frL r fun r => k (a :: r)) = _
    rw [HandSHeadRun.frNat_eq, frL_eq r]
def lvl (g : Addr → Option Obj) (as : List Addr) : List Addr := as.flatMap fun a => match g a with
  | some o => refsQ o
  | none => []
def asQ {α : Type} (g : Addr → Option Obj) : Nat → List Addr → List Addr → (List Addr → α) → α
  | 0, fr, acc, k => k (acc ++ fr)
  | n + 1, fr, acc, k => frL (lvl g fr) fun f2 => asQ g n f2 (acc ++ fr) k
theorem asQ_ex {g : Addr → Option Obj} : ∀ (n : Nat) (fr acc : List Addr), ∃ as : List Addr, ∀ (α : Type) (k : List Addr → α), asQ g n fr acc k = k as
  | 0, fr, acc => ⟨acc ++ fr, fun _ _ => rfl⟩
  | n + 1, fr, acc => by
    obtain ⟨as, h⟩ := asQ_ex (g := g) n (lvl g fr) (acc ++ fr)
    refine ⟨as, fun α k => ?_⟩
    show (frL (lvl g fr) fun f2 => asQ g n f2 (acc ++ fr) k) = _
    rw [frL_eq]
    exact h α k
def frK {α : Type} (g : Addr → Option Obj) : List Addr → (PySem.W.Frag → α) → α
  | [], k => k []
  | a :: r, k => match g a with
    | some o => frK g r fun K => k ((a, o) :: K)
    | none => frK g r k
theorem frK_eq {α : Type} {g : Addr → Option Obj} : ∀ (as : List Addr) (k : PySem.W.Frag → α), frK g as k = k (frG g as)
  | [], _ => rfl
  | a :: r, k => by
    unfold frK frG
    rw [List.filterMap_cons]
    cases g a with
    | some o =>
      show (frK g r fun K => k ((a, o) :: K)) = _
      rw [frK_eq r]
      rfl
    | none =>
      show frK g r k = _
      rw [frK_eq r]
      rfl
abbrev AlP : Type := Bool × List FnY
abbrev Ck : Type := PySem.W.Frag → Bool
def obsP (cs : List Ck) (fn : List Dp) (K : PySem.W.Frag) : AlP := (cs.all fun c => c K, fn.map fun d => fnY K (d.at_ K))
def valP (fn : List Dp) : AlP := (true, fn.map Dp.val)
def SaysP (cs : List Ck) (fn : List Dp) (K : PySem.W.Frag) : Prop := obsP cs fn K = valP fn
def obsPG (n : Nat) (cs : List Ck) (fn : List Dp) (g : Addr → Option Obj) : AlP := asQ g n [mainGlobals, cStatics] [] fun as => frK g as fun K => obsP cs fn K
theorem obsPG_ex (n : Nat) (cs : List Ck) (fn : List Dp) (g : Addr → Option Obj) : ∃ as, obsPG n cs fn g = obsP cs fn (frG g as) := by
  obtain ⟨as, h⟩ := asQ_ex (g := g) n [mainGlobals, cStatics] []
  refine ⟨as, ?_⟩
  unfold obsPG
  rw [h, frK_eq]
def hookP (n : Nat) (cs : List Ck) (fn : List Dp) : PySem.W.Hook where
  α := AlP
  obs := fun s => obsPG n cs fn s.heap.get?
  val := fun _ => valP fn
  says := fun _ h => ∃ K : PySem.W.Frag, K.In h ∧ SaysP cs fn K
  of := fun _ s e => by
    obtain ⟨as, h⟩ := obsPG_ex n cs fn s.heap.get?
    rw [h] at e
    exact ⟨_, frG_in, e⟩
  keeps := fun _ _ _ ⟨K, hK, c⟩ k => ⟨K, PySem.W.Frag.In.keeps hK k, c⟩
theorem obsPG_eq {n : Nat} {cs : List Ck} {fn : List Dp} {g : Addr → Option Obj} {s : Shared} (h : ∀ a, g a = s.heap.get? a) : obsPG n cs fn g = (hookP n cs fn).obs s := by
  have e : g = s.heap.get? := funext h
  rw [e] <;> rfl
section
variable {cs : List Ck} {fn : List Dp} {K : PySem.W.Frag}
theorem SaysP.ck (c : SaysP cs fn K) (i : Nat) {f : Ck} (h : cs[i]? = some f := by rfl) : f K = true :=
  List.all_eq_true.mp (show (cs.all fun c => c K) = true from congrArg (fun z : AlP => z.1) c) f (List.mem_of_getElem? h)
theorem SaysP.at_ (c : SaysP cs fn K) (i : Nat) {d : Dp} (h : fn[i]? = some d := by rfl) : fnY K (d.at_ K) = d.val := by
  have e : fn.map (fun d => fnY K (d.at_ K)) = fn.map Dp.val := congrArg (fun z : AlP => z.2) c
  have e2 : (fn.map fun d => fnY K (d.at_ K))[i]? = (fn.map Dp.val)[i]? := by rw [e]
  rw [List.getElem?_map, List.getElem?_map, h] at e2
  exact Option.some.inj e2
end
/-! ### the law's end -/
theorem walk_goE {l : PySem.W.OpenLaw} {n k : Nat} {q : Program} {loose : List Str} {XP : (Str → Option Value) → Heap → Prop} {YP : World → Heap → Prop} {d : DefRec} {x : Str}
    (most : l.most = some n) (few : n ≤ sizeLine) (nodf : d.params.defaults = []) (hr : Room k callerA)
    (F : ∀ (w : World) (mg : Str → Option Value) (fa : Addr) (h : Heap), YP w h → h.Ns mainGlobals mg → mg d.name = some (.ref fa) →
      ∃ (K : PySem.W.Frag) (fd : FuncData) (sp : Sp), K.In h ∧ (∀ (s : Shared) (u : Value), BindsTo s fd ⟨[u], []⟩ [(x, u)]) ∧
        (∀ (H : Hp) (a : Addr) (ns : List Int), ns.length ≤ n → Only H → SqL K H a (ns.map V.int) → sp [.ref a] H (fun v _ => v = .bl true) fun _ _ _ => False) ∧
        ∀ base : Heap, K.In base → base.Ns mainGlobals mg → FnG l.prog w K mg base CX0 k fa fd [x] sp) :
    PySem.W.WalkO q loose XP YP l.row.toRowW d [] (fun f vs => PySem.call f vs) := by
  refine Att.attach_call most nodf
    fun w _ s₁ mg mb fa _ _ _ _ a vs ns top Y _ _ _ atF obj allInt len noG => ?_
  obtain ⟨K, fd, sp, inK, binds, hsp, keeps⟩ := F w mg fa _ Y top.T.g atF
  exact law_go inK top.T.g top.T.b top.T.builtins top.T.nolimit noG obj allInt (Nat.le_trans len few) hr keeps binds
    fun H hO hS => hsp H a ns len hO hS
end G
set_option Elab.async false
set_option linter.all false
set_option maxRecDepth 100000
set_option maxHeartbeats 2000000
/-! HK2: FunX and SupOf by the Hook. -/
namespace G
open PySem PySem.Spec PyProof.Rows L2 NdefX StX He
theorem funx_of {P : Program} {K : PySem.W.Frag} {d : Dp} {a C f2 : Addr} {x : Str} (D : ClsDef P K d a C) (hx : ∃ ar, ((defArgs d.st).posonlyargs ++ (defArgs d.st).args).head? = some ar ∧ ar.arg = x) (s : supB K C f2 = true)
    (top : (P.main.scope.names.lookup ("super" : Str)).isSome = false) :
    ∃ cda cc fd, FunX K d.name d.qual d.st a cda cc (kwV K a) fd ∧ SupOf P K a cda cc C C f2 x := by
  obtain ⟨oc, od, doc, pm, ct, an, osl, cda, cc, oc3, od3, sl3, oc2, od2, vs, sl2, fl, tf, h1, h2, h3, h4, h5, h6⟩ := D.ex
  obtain ⟨s1, s⟩ := ba s
  obtain ⟨s2, s⟩ := ba s
  obtain ⟨s3, s⟩ := ba s
  obtain ⟨s4, s⟩ := ba s
  obtain ⟨s5, s6⟩ := ba s
  obtain ⟨cd, hcd⟩ := Option.isSome_iff_exists.mp s1
  obtain ⟨ar, e1, e2⟩ := hx
  rw [Array.getElem?_toList] at h5
  exact ⟨cda, cc, _, ⟨⟨oc, od, doc, pm, an, ct, osl, rfl, h1, h2⟩, ⟨oc3, od3, sl3, _, h3⟩⟩,
    ⟨⟨oc, od, _, osl, ar, h1, e1, e2⟩, ⟨oc2, od2, vs, sl2, fl, tf, h4, h5, h6⟩, ⟨oc3, od3, sl3, h3⟩, ⟨cd, hcd⟩, ⟨cd, hcd⟩, of_decide_eq_true s2, eqO_ok s3, eqO_ok s4, of_decide_eq_true s5, s6, top⟩⟩
def intB (K : PySem.W.Frag) (D : Addr) (x : Str) (i : Int) : Bool := match PySem.W.nsIn K D x with
  | some (some (Value.int j _)) => decide (j = i)
  | _ => false
theorem int_of {K : PySem.W.Frag} {D : Addr} {x : Str} {i : Int} (h : intB K D x i = true) : ∃ t, PySem.W.nsIn K D x = some (some (.int i t)) := by
  unfold intB at h
  split at h
  · rename_i j t e
    rw [of_decide_eq_true h] at e
    exact ⟨t, e⟩
  · cases h
def btwDefB (K : PySem.W.Frag) (v : Value) : Bool := match v with
  | .ref D => intB K D "low" (-999) && intB K D "high" 999
  | _ => false
theorem btwDef_of {K : PySem.W.Frag} {v : Value} (h : btwDefB K v = true) : ∃ D, v = .ref D ∧ BtwDef K D := by
  unfold btwDefB at h
  split at h
  · rename_i D
    obtain ⟨h1, h2⟩ := ba h
    exact ⟨D, rfl, int_of h1, int_of h2⟩
  · cases h
end G
set_option Elab.async false
set_option linter.all false
set_option maxRecDepth 100000
set_option maxHeartbeats 4000000
/-! P9: a Named of none to eight names. -/
namespace G
open PySem PySem.Spec PyProof.Rows L2 NdefX StX
abbrev sNamed : Stmt := topS 53
theorem scNamed : FnScope ["_law_some", "_law_many", "_law_rest", "_law_one", "_law_two", "_law_three", "_law_four", "_law_five", "_law_six", "_law_seven", "_law_eight"] ["_law_some"] (defScope sNamed) := ⟨rfl, rfl, rfl, by decide +kernel, rfl, by decide +kernel, by decide +kernel⟩
/-- C() by a positional promise -/
theorem pe_makeR0 {X : Cx} {CX : CXT} {k : Nat} {f C : Addr} {sp : Sp} {E : XK} {x : Str} {p pos : Pos} (M : Mk X.K C f) (F : FnR X.prog X.w X.K X.mg X.base CX k f sp) (hr : Room (k + 1) X.A) (hg : Gl X x) (hm : X.mg x = some (.ref C)) (hx : Passes CX X E) (hdb : (x == ("__debug__" : Str)) = false := by decide) :
    PE X (.Call (.Name x p) [] [] pos) (tMakeR C sp E tNil) := by
  refine ⟨fun pins s σ H Q I h => ?_⟩
  refine wpAny_Call_Name_kw (ld_glob I hg hm ?_ hdb)
  exact PySem.W.callWith_K0 I.kIn M.kp (run_makeR (us := []) M F hr hx I .nil h)
abbrev spNamR (C : Addr) : Sp := fun vs H Q E => ∃ ws rest, vs = ws ++ rest ∧ ws.length = ["self"].length ∧ rest.length ≤ sizeLine ∧ ∀ p, H p = Option.none → spNam C (ws ++ [V.ref p]) (upd H p (.tup rest)) Q E
/-- a Named is made -/
theorem nam_made {C : Addr} {H1 : Hp} {Q : VK} {E : XK} {zs : List Str} (h8 : zs.length ≤ 8) (hz : ∀ z ∈ zs, NameZ z) (q : ∀ (a t : Addr) (H' : Hp), NamAt C H' a t zs → Same H1 H' → Q (.ref a) H') :
    ∀ x dx, H1 x = Option.none → H1 dx = Option.none → dx ≠ x → spNamR C (V.ref x :: zs.map V.str) (upd (upd H1 dx (.own x)) x (.ins C dx [])) (fun v H2 => v = .non ∧ Q (.ref x) H2) E := by
  intro x dx hx hdx hne
  refine ⟨[V.ref x], zs.map V.str, rfl, rfl, by rw [List.length_map]; exact small_size (by omega), fun p hp => ?_⟩
  have npx : p ≠ x := fun z => by
    rw [z, upd_same] at hp
    cases hp
  rw [upd_ne npx] at hp
  have npd : p ≠ dx := fun z => by
    rw [z, upd_same] at hp
    cases hp
  rw [upd_ne npd] at hp
  refine ⟨x, dx, p, zs, rfl, ?_, upd_same, h8, hz, fun H' s' => ⟨rfl, ?_⟩⟩
  · rw [upd_ne npx.symm, upd_same]
  · refine q x p _ ⟨dx, upd_same, ?_⟩ fun c o e => ?_
    · rw [upd_ne npx]
      exact s' p _ ((upd_ne npx).trans upd_same)
    · have n1 := ne_of_none e hx
      rw [upd_ne n1]
      refine s' c o ?_
      rw [upd_ne n1, upd_ne (ne_of_none e hp), upd_ne n1, upd_ne (ne_of_none e hdx)]
      exact e
def spMkNam (C : Addr) : Sp := fun vs H Q _ => ∃ (p : Addr) (zs : List Str), vs = [.ref p] ∧ H p = some (.lst (zs.map V.str)) ∧ zs.length ≤ 8 ∧ (∀ z ∈ zs, NameZ z) ∧ ∀ (a t : Addr) (H' : Hp), NamAt C H' a t zs → Same H H' → Q (.ref a) H'
section
variable {P : Program} {w : World} {K : PySem.W.Frag} {mg : Str → Option Value} {base : Heap}
theorem ok_named {f C fI : Addr} {fd : FuncData} (F : Fun K "_law_named" "_law_named" sNamed f fd) (M : Mk K C fI) (G : FnR P w K mg base CX0 3 fI (spNamR C)) (gC : mg "Named" = some (.ref C)) (ml : mg "len" = none) (mL : mg "list" = none) :
    FnOk P w K mg base CX0 5 f fd ["_law_some"] (spMkNam C) := by
  refine F.ok scNamed (fun vs H Q E h => ?_) (fun cdv A outer s H vs Q E hr h => ?_)
  · obtain ⟨p, zs, rfl, _⟩ := h
    rfl
  · obtain ⟨p, zs, rfl, hS, h8, hz, q⟩ := h
    refine ⟨_, pss_cons (ps_par (i := 1) (j := 2) (by rfl) scNamed.nd rfl rfl (by decide) rfl rfl (pa_cons (pe_callB call_len_seq (by rfl) ml PySem.boot_len (pa_cons (pv 0) pa_nil))
        (pa_cons (pe_op op_cat (pe_callTy call_list_of (by rfl) mL (by decide +kernel) (pa_cons (pv 0) pa_nil)) (pe_op op_rep (pe_lst (pa_cons pe_non pa_nil)) pe_int)) pa_nil)) (by rfl))
      (pss_cons (ps_asg (pe_slice sl_list (pv 2) po_none (po_some pe_int)) (pg_unl (by rfl) (pgs_cons (pg_name (i := 3) scNamed.nd rfl (.inl rfl)) (pgs_cons (pg_name (i := 4) scNamed.nd rfl (.inl rfl)) (pgs_cons (pg_name (i := 5) scNamed.nd rfl (.inl rfl)) (pgs_cons (pg_name (i := 6) scNamed.nd rfl (.inl rfl)) (pgs_cons (pg_name (i := 7) scNamed.nd rfl (.inl rfl)) (pgs_cons (pg_name (i := 8) scNamed.nd rfl (.inl rfl)) (pgs_cons (pg_name (i := 9) scNamed.nd rfl (.inl rfl)) (pgs_cons (pg_name (i := 10) scNamed.nd rfl (.inl rfl)) pgs_nil))))))))))
      (pss_cons (ps_if (pt_cmpR op_eq (pv 1) pe_int (nomark _)) (pss_one (ps_ret (pe_makeR0 M G hr rfl gC pass0))) pss_nil)
      (pss_cons (ps_if (pt_cmpR op_eq (pv 1) pe_int (nomark _)) (pss_one (ps_ret (pe_makeR M G hr rfl gC pass0 (pa_cons (pv 3) pa_nil)))) pss_nil)
      (pss_cons (ps_if (pt_cmpR op_eq (pv 1) pe_int (nomark _)) (pss_one (ps_ret (pe_makeR M G hr rfl gC pass0 (pa_cons (pv 3) (pa_cons (pv 4) pa_nil))))) pss_nil)
      (pss_cons (ps_if (pt_cmpR op_eq (pv 1) pe_int (nomark _)) (pss_one (ps_ret (pe_makeR M G hr rfl gC pass0 (pa_cons (pv 3) (pa_cons (pv 4) (pa_cons (pv 5) pa_nil)))))) pss_nil)
      (pss_cons (ps_if (pt_cmpR op_eq (pv 1) pe_int (nomark _)) (pss_one (ps_ret (pe_makeR M G hr rfl gC pass0 (pa_cons (pv 3) (pa_cons (pv 4) (pa_cons (pv 5) (pa_cons (pv 6) pa_nil))))))) pss_nil)
      (pss_cons (ps_if (pt_cmpR op_eq (pv 1) pe_int (nomark _)) (pss_one (ps_ret (pe_makeR M G hr rfl gC pass0 (pa_cons (pv 3) (pa_cons (pv 4) (pa_cons (pv 5) (pa_cons (pv 6) (pa_cons (pv 7) pa_nil)))))))) pss_nil)
      (pss_cons (ps_if (pt_cmpR op_eq (pv 1) pe_int (nomark _)) (pss_one (ps_ret (pe_makeR M G hr rfl gC pass0 (pa_cons (pv 3) (pa_cons (pv 4) (pa_cons (pv 5) (pa_cons (pv 6) (pa_cons (pv 7) (pa_cons (pv 8) pa_nil))))))))) pss_nil)
      (pss_cons (ps_if (pt_cmpR op_eq (pv 1) pe_int (nomark _)) (pss_one (ps_ret (pe_makeR M G hr rfl gC pass0 (pa_cons (pv 3) (pa_cons (pv 4) (pa_cons (pv 5) (pa_cons (pv 6) (pa_cons (pv 7) (pa_cons (pv 8) (pa_cons (pv 9) pa_nil)))))))))) pss_nil)
      (pss_cons (ps_if (pt_cmpR op_eq (pv 1) pe_int (nomark _)) (pss_one (ps_ret (pe_makeR M G hr rfl gC pass0 (pa_cons (pv 3) (pa_cons (pv 4) (pa_cons (pv 5) (pa_cons (pv 6) (pa_cons (pv 7) (pa_cons (pv 8) (pa_cons (pv 9) (pa_cons (pv 10) pa_nil))))))))))) pss_nil)
      (pss_one ps_never))))))))))), ?_⟩
    refine ⟨_, rfl, p, _, rfl, .inl (.of hS), _, rfl, p, _, rfl, .inl (.of hS), fun l hl => ⟨by decide, fun u hu => ?_⟩⟩
    have nlu : l ≠ u := fun z => by
      rw [z, upd_same] at hu
      cases hu
    refine ⟨_, _, _, rfl, rfl, upd_same, by decide, by decide, by decide, fun v hv => ?_⟩
    have nuv : u ≠ v := fun z => by
      rw [z, upd_same] at hv
      cases hv
    have nlv : l ≠ v := fun z => by
      rw [← z, upd_ne nlu, upd_same] at hv
      cases hv
    have l9 : ((List.replicate (9 : Int).toNat [V.non]).flatten).length = 9 := rfl
    refine ⟨l, v, zs.map V.str, (List.replicate (9 : Int).toNat [V.non]).flatten, rfl, rfl, ?_, upd_same, ?_, fun p2 hp2 => ?_⟩
    · rw [upd_ne nlv, upd_ne nlu, upd_same]
    · rw [l9, List.length_map]
      exact small_size (by omega)
    refine ⟨_, _, rfl, ?_⟩
    refine ⟨_, rfl, _, rfl, p2, _, rfl, .of upd_same, fun p3 hp3 => ?_⟩
    rw [show ((8 : Int)) = ((8 : Nat) : Int) from rfl, cutV_first _ 8 (by rw [List.length_append, l9]; omega)]
    have same : Same H (upd (upd (upd (upd (upd H l (.lst (zs.map V.str))) u (.lst [.non])) v (.lst (List.replicate (9 : Int).toNat [V.non]).flatten)) p2 (.lst (zs.map V.str ++ (List.replicate (9 : Int).toNat [V.non]).flatten))) p3 (.lst ((zs.map V.str ++ (List.replicate (9 : Int).toNat [V.non]).flatten).take 8))) := ((((Same.new hl).trans (Same.new hu)).trans (Same.new hv)).trans (Same.new hp2)).trans (Same.new hp3)
    have mk := nam_made (C := C) (H1 := upd (upd (upd (upd (upd H l (.lst (zs.map V.str))) u (.lst [.non])) v (.lst (List.replicate (9 : Int).toNat [V.non]).flatten)) p2 (.lst (zs.map V.str ++ (List.replicate (9 : Int).toNat [V.non]).flatten))) p3 (.lst ((zs.map V.str ++ (List.replicate (9 : Int).toNat [V.non]).flatten).take 8))) (Q := Q) (E := E0) h8 hz fun a t H' n s => q a t H' n (same.trans s)
    clear same
    match zs, h8, hz, hS, q, mk with
    | [], h8, hz, hS, q, mk =>
      refine ⟨p3, _, rfl, .of upd_same, rfl, _, _, rfl, _, _, rfl, _, _, rfl, _, _, rfl, _, _, rfl, _, _, rfl, _, _, rfl, _, _, rfl, rfl, ?_⟩
      refine ⟨_, rfl, rfl, _, rfl, iteT ?_⟩
      exact mk
    | [a0], h8, hz, hS, q, mk =>
      refine ⟨p3, _, rfl, .of upd_same, rfl, _, _, rfl, _, _, rfl, _, _, rfl, _, _, rfl, _, _, rfl, _, _, rfl, _, _, rfl, _, _, rfl, rfl, ?_⟩
      refine ⟨_, rfl, rfl, _, rfl, iteF ?_⟩
      refine ⟨_, rfl, rfl, _, rfl, iteT ?_⟩
      exact ⟨_, rfl, mk⟩
    | [a0, a1], h8, hz, hS, q, mk =>
      refine ⟨p3, _, rfl, .of upd_same, rfl, _, _, rfl, _, _, rfl, _, _, rfl, _, _, rfl, _, _, rfl, _, _, rfl, _, _, rfl, _, _, rfl, rfl, ?_⟩
      refine ⟨_, rfl, rfl, _, rfl, iteF ?_⟩
      refine ⟨_, rfl, rfl, _, rfl, iteF ?_⟩
      refine ⟨_, rfl, rfl, _, rfl, iteT ?_⟩
      exact ⟨_, rfl, _, rfl, mk⟩
    | [a0, a1, a2], h8, hz, hS, q, mk =>
      refine ⟨p3, _, rfl, .of upd_same, rfl, _, _, rfl, _, _, rfl, _, _, rfl, _, _, rfl, _, _, rfl, _, _, rfl, _, _, rfl, _, _, rfl, rfl, ?_⟩
      refine ⟨_, rfl, rfl, _, rfl, iteF ?_⟩
      refine ⟨_, rfl, rfl, _, rfl, iteF ?_⟩
      refine ⟨_, rfl, rfl, _, rfl, iteF ?_⟩
      refine ⟨_, rfl, rfl, _, rfl, iteT ?_⟩
      exact ⟨_, rfl, _, rfl, _, rfl, mk⟩
    | [a0, a1, a2, a3], h8, hz, hS, q, mk =>
      refine ⟨p3, _, rfl, .of upd_same, rfl, _, _, rfl, _, _, rfl, _, _, rfl, _, _, rfl, _, _, rfl, _, _, rfl, _, _, rfl, _, _, rfl, rfl, ?_⟩
      refine ⟨_, rfl, rfl, _, rfl, iteF ?_⟩
      refine ⟨_, rfl, rfl, _, rfl, iteF ?_⟩
      refine ⟨_, rfl, rfl, _, rfl, iteF ?_⟩
      refine ⟨_, rfl, rfl, _, rfl, iteF ?_⟩
      refine ⟨_, rfl, rfl, _, rfl, iteT ?_⟩
      exact ⟨_, rfl, _, rfl, _, rfl, _, rfl, mk⟩
    | [a0, a1, a2, a3, a4], h8, hz, hS, q, mk =>
      refine ⟨p3, _, rfl, .of upd_same, rfl, _, _, rfl, _, _, rfl, _, _, rfl, _, _, rfl, _, _, rfl, _, _, rfl, _, _, rfl, _, _, rfl, rfl, ?_⟩
      refine ⟨_, rfl, rfl, _, rfl, iteF ?_⟩
      refine ⟨_, rfl, rfl, _, rfl, iteF ?_⟩
      refine ⟨_, rfl, rfl, _, rfl, iteF ?_⟩
      refine ⟨_, rfl, rfl, _, rfl, iteF ?_⟩
      refine ⟨_, rfl, rfl, _, rfl, iteF ?_⟩
      refine ⟨_, rfl, rfl, _, rfl, iteT ?_⟩
      exact ⟨_, rfl, _, rfl, _, rfl, _, rfl, _, rfl, mk⟩
    | [a0, a1, a2, a3, a4, a5], h8, hz, hS, q, mk =>
      refine ⟨p3, _, rfl, .of upd_same, rfl, _, _, rfl, _, _, rfl, _, _, rfl, _, _, rfl, _, _, rfl, _, _, rfl, _, _, rfl, _, _, rfl, rfl, ?_⟩
      refine ⟨_, rfl, rfl, _, rfl, iteF ?_⟩
      refine ⟨_, rfl, rfl, _, rfl, iteF ?_⟩
      refine ⟨_, rfl, rfl, _, rfl, iteF ?_⟩
      refine ⟨_, rfl, rfl, _, rfl, iteF ?_⟩
      refine ⟨_, rfl, rfl, _, rfl, iteF ?_⟩
      refine ⟨_, rfl, rfl, _, rfl, iteF ?_⟩
      refine ⟨_, rfl, rfl, _, rfl, iteT ?_⟩
      exact ⟨_, rfl, _, rfl, _, rfl, _, rfl, _, rfl, _, rfl, mk⟩
    | [a0, a1, a2, a3, a4, a5, a6], h8, hz, hS, q, mk =>
      refine ⟨p3, _, rfl, .of upd_same, rfl, _, _, rfl, _, _, rfl, _, _, rfl, _, _, rfl, _, _, rfl, _, _, rfl, _, _, rfl, _, _, rfl, rfl, ?_⟩
      refine ⟨_, rfl, rfl, _, rfl, iteF ?_⟩
      refine ⟨_, rfl, rfl, _, rfl, iteF ?_⟩
      refine ⟨_, rfl, rfl, _, rfl, iteF ?_⟩
      refine ⟨_, rfl, rfl, _, rfl, iteF ?_⟩
      refine ⟨_, rfl, rfl, _, rfl, iteF ?_⟩
      refine ⟨_, rfl, rfl, _, rfl, iteF ?_⟩
      refine ⟨_, rfl, rfl, _, rfl, iteF ?_⟩
      refine ⟨_, rfl, rfl, _, rfl, iteT ?_⟩
      exact ⟨_, rfl, _, rfl, _, rfl, _, rfl, _, rfl, _, rfl, _, rfl, mk⟩
    | [a0, a1, a2, a3, a4, a5, a6, a7], h8, hz, hS, q, mk =>
      refine ⟨p3, _, rfl, .of upd_same, rfl, _, _, rfl, _, _, rfl, _, _, rfl, _, _, rfl, _, _, rfl, _, _, rfl, _, _, rfl, _, _, rfl, rfl, ?_⟩
      refine ⟨_, rfl, rfl, _, rfl, iteF ?_⟩
      refine ⟨_, rfl, rfl, _, rfl, iteF ?_⟩
      refine ⟨_, rfl, rfl, _, rfl, iteF ?_⟩
      refine ⟨_, rfl, rfl, _, rfl, iteF ?_⟩
      refine ⟨_, rfl, rfl, _, rfl, iteF ?_⟩
      refine ⟨_, rfl, rfl, _, rfl, iteF ?_⟩
      refine ⟨_, rfl, rfl, _, rfl, iteF ?_⟩
      refine ⟨_, rfl, rfl, _, rfl, iteF ?_⟩
      refine ⟨_, rfl, rfl, _, rfl, iteT ?_⟩
      exact ⟨_, rfl, _, rfl, _, rfl, _, rfl, _, rfl, _, rfl, _, rfl, _, rfl, mk⟩
    | _ :: _ :: _ :: _ :: _ :: _ :: _ :: _ :: _ :: _, h8, _, _, _, _ => exact absurd h8 (by simp)
end
end G
set_option Elab.async false
set_option linter.all false
set_option maxRecDepth 100000
set_option maxHeartbeats 2000000
/-! PA: repr of a dict, of a truth value. -/
namespace G
open PySem PySem.Spec PyProof.Rows L2
/-- repr(d), d a dict (or a tuple) without lists in it -/
def rReprD (K : PySem.W.Frag) : List V → Hp → VK → Prop := fun vs H Q => ∃ (a : Addr) (d : PyData), vs = [.ref a] ∧ Rp K H (.ref a) d ∧ d.showable = true ∧ okS d = true ∧ d.depth ≤ 20 ∧ mass d ≤ sizeLine ∧ Q (.str d.shown) H
theorem call_reprD {X : Cx} (hg : X.A.guards = some []) (hu : X.A.units + 64 < cLine) : CallR X (.builtin "repr") (rReprD X.K) := by
  intro pins s σ H xs us Q I r h
  obtain ⟨a, d, rfl, hr, hs, ho, hp, hm, q⟩ := h
  obtain rfl := Vals.ref1 r
  obtain ⟨as, q1, z1⟩ := rp_reads I d _ _ hr (show RelV (.ref a) (.ref a) from rfl)
  exact repr_of_reads' q1 hs (fun _ => z1 ho) hg (by omega) (fun _ _ e => e) (fun h' u tk k => ⟨.str _, H, I.kept k, ⟨u, rfl⟩, q⟩) (Nat.le_trans (shown_le d hs) hm)
/-- repr(b), b a truth value -/
def rReprB : List V → Hp → VK → Prop := fun vs H Q => ∃ b : Bool, vs = [.bl b] ∧ Q (.str (if b then "True" else "False")) H
theorem call_reprB {X : Cx} : CallR X (.builtin "repr") rReprB := by
  intro pins s σ H xs us Q I r h
  obtain ⟨b, rfl, q⟩ := h
  obtain ⟨u, rfl, ru⟩ := vals1 r
  obtain rfl : u = Value.bool b := ru
  exact PySem.P.repr_of_bool ⟨.str _, H, I.tok _, ⟨_, rfl⟩, q⟩
end G
set_option Elab.async false
set_option linter.all false
set_option maxRecDepth 100000
set_option maxHeartbeats 4000000
/-! PB: the law's Betweens: the four are made, one is taken. (The rest of the def is not here yet.) -/
namespace G
open PySem PySem.Spec PyProof.Rows L2 NdefX StX
abbrev sBR : Stmt := topS 54
abbrev nBR : List Str := ["_law_box_here", "_law_fields", "_law_name", "_law_one", "_law_small", "_law_great", "_law_way", "_law_some", "_law_leaf", "_law_number_here", "_law_worth", "_law_stood", "_law_due", "_law_told"]
theorem scBR : FnScope nBR ["_law_box_here", "_law_fields", "_law_name"] (defScope sBR) := ⟨rfl, rfl, rfl, by decide +kernel, rfl, by decide +kernel, by decide +kernel⟩
theorem BtwAt.same {C a : Addr} {H H' : Hp} {z : Str} {lo hi : Int} (h : BtwAt C H a z lo hi) (s : Same H H') : BtwAt C H' a z lo hi := let ⟨dx, e⟩ := h; ⟨dx, s _ _ e⟩
/-- what a Between just made is -/
theorem btw_got {C x dx : Addr} {H1 H' : Hp} {z : Str} {lo hi : Int} (hx : H1 x = Option.none) (hdx : H1 dx = Option.none) (s' : Same (upd (upd H1 dx (.own x)) x (.ins C dx [])) H') :
    BtwAt C (upd H' x (.ins C dx (btwFs z lo hi))) x z lo hi ∧ Same H1 (upd H' x (.ins C dx (btwFs z lo hi))) := by
  refine ⟨⟨dx, upd_same⟩, fun c o e => ?_⟩
  have n1 := ne_of_none e hx
  rw [upd_ne n1]
  refine s' c o ?_
  rw [upd_ne n1, upd_ne (ne_of_none e hdx)]
  exact e
section
variable {P : Program} {w : World} {K : PySem.W.Frag} {mg : Str → Option Value} {base : Heap}
/-- the first five statements of _law_between_right, whatever the rest tl asks -/
theorem br_front {fT fN fB C D cda cc : Addr} {fdT fdN fdB : FuncData} {cdv : Value} {A : Around} {outer : List Env} {s : Shared} {H : Hp} {E : XK} {f : Addr}
    (T : Fun K "_law_take" "_law_take" sTake fT fdT) (bT : Binds K fdT ["_law_box_here", "_law_many"] []) (gT : mg "_law_take" = some (.ref fT))
    (Nm : Fun K "_law_number" "_law_number" sNumber fN fdN) (bN : Binds K fdN ["_law_box_here"] []) (gN : mg "_law_number" = some (.ref fN))
    (M : Mk K C fB) (FB : FunX K "__init__" "Between.__init__" sBtwInit fB cda cc (.ref D) fdB) (dB : BtwDef K D) (GB : FnOk P w K mg base CX0 3 fB fdB psBtw (spBtw C)) (gB : mg "Between" = some (.ref C)) (mmn : mg "min" = none) (mmx : mg "max" = none)
    (hr : Room 5 (A.deeper (envOfC "_law_between_right" (defScope sBR) s.heap.objs.size f cdv)))
    {tl : TS} (pl : PSs (cxOf CX0 P w K mg base nBR "_law_between_right" (defScope sBR) f cdv A outer s H E).nox ((defBody sBR).drop 5) tl) :
    ∃ t, PSs (cxOf CX0 P w K mg base nBR "_law_between_right" (defScope sBR) f cdv A outer s H E).nox (defBody sBR) t ∧
      ∀ (De : Ends) (b fl : Addr) (n : Nat) (z y : Str) (zs : List Str) (H0 : Hp), BoxAt H0 b n → n ≤ 80000 → H0 fl = some (.lst ((z :: zs).map V.str)) → NameZ z →
        (∀ (a p : Addr) (lo hi : Int) (way : V) (H' : Hp), BtwAt C H' a z lo hi → -999 ≤ lo → lo ≤ hi → hi ≤ 999 → BoxAt H' b (n + 7) → But b H0 H' →
          tl De [some (.ref b), some (.ref fl), some (.str y), some (.str z), some (.int lo), some (.int hi), some way, some (.ref p), some (.ref a), none, none, none, none, none] H') →
        t De [some (.ref b), some (.ref fl), some (.str y), none, none, none, none, none, none, none, none, none, none, none] H0 := by
  have GT : FnOk P w K mg base CX0 1 fT fdT ["_law_box_here", "_law_many"] spTake := ok_take T
  have GN : FnOk P w K mg base CX0 2 fN fdN ["_law_box_here"] spNumber := ok_number Nm T bT gT
  have hr1 := hr.mono (show 1 ≤ 5 by decide)
  have hr2 := hr.mono (show 2 ≤ 5 by decide)
  have hr4 := hr.mono (show 3 + 1 ≤ 5 by decide)
  obtain ⟨ds, b1, v1⟩ := btw_b1 FB dB
  obtain ⟨t2, b2⟩ := btw_b2 FB dB
  obtain ⟨t3, b3⟩ := btw_b3 FB dB
  have b4 := btw_b4 FB
  refine ⟨_, pss_cons (ps_par3 (i := 3) (j := 4) (l := 5) (by rfl) scBR.nd rfl rfl rfl (by decide) (by decide) (by decide) rfl rfl rfl (pa_cons (pe_ix ix_list (pv 1) pe_int (fun _ _ => rfl))
      (pa_cons (pe_call GN hr2 rfl gN Nm.kp bN .nil pass0 (pa_cons (pv 0) pa_nil)) (pa_cons (pe_call GN hr2 rfl gN Nm.kp bN .nil pass0 (pa_cons (pv 0) pa_nil)) pa_nil))) (by rfl))
    (pss_cons (ps_par3 (i := 4) (j := 5) (l := 6) (by rfl) scBR.nd rfl rfl rfl (by decide) (by decide) (by decide) rfl rfl rfl (pa_cons (pe_callB (call_min2 rfl) (by rfl) mmn (by decide +kernel) (pa_cons (pv 4) (pa_cons (pv 5) pa_nil)))
      (pa_cons (pe_callB (call_max2 rfl) (by rfl) mmx (by decide +kernel) (pa_cons (pv 4) (pa_cons (pv 5) pa_nil))) (pa_cons (pe_call GT hr1 rfl gT T.kp bT .nil pass0 (pa_cons (pv 0) (pa_cons pe_int pa_nil))) pa_nil))) (by rfl))
    (pss_cons (ps_set (i := 7) scBR.nd rfl (.inl rfl) (pe_lst (pa_cons (pe_make M GB hr4 rfl gB b1 v1 pass0 (pa_cons (pv 3) pa_nil))
      (pa_cons (pe_makeK (n := 1) M GB hr4 rfl gB b2 pass0 (pa_cons (pv 3) pa_nil) (pk_cons (pv 4) pk_nil))
      (pa_cons (pe_makeK0 M GB hr4 rfl gB b3 pass0 (pk_cons (pv 5) (pk_cons (pv 3) pk_nil))) pa_nil)))))
    (pss_cons (ps_expr (pe_bm PySem.F.plainAttrs_list PySem.F.slot_list_append PySem.F.type_list_append mt_append (pv 7) (pa_cons (pe_makeK (n := 1) M GB hr4 rfl gB b4 pass0 (pa_cons (pv 3) pa_nil) (pk_cons (pv 5) (pk_cons (pv 4) pk_nil))) pa_nil)))
    (pss_cons (ps_par3 (i := 8) (j := 4) (l := 5) (by rfl) scBR.nd rfl rfl rfl (by decide) (by decide) (by decide) rfl rfl rfl (pa_cons (pe_ix ix_list (pv 7) (pv 6) (fun _ _ => rfl))
      (pa_cons (pe_ix ix_list (pe_lst (pa_cons (pe_un un_neg pe_int) (pa_cons (pv 4) (pa_cons (pe_un un_neg pe_int) (pa_cons (pv 4) pa_nil))))) (pv 6) (fun _ _ => rfl))
      (pa_cons (pe_ix ix_list (pe_lst (pa_cons pe_int (pa_cons pe_int (pa_cons (pv 5) (pa_cons (pv 5) pa_nil))))) (pv 6) (fun _ _ => rfl)) pa_nil))) (by rfl)) pl)))), ?_⟩
  intro De b fl n z y zs H0 B hn hfl hz q
  refine ⟨_, rfl, fl, (z :: zs).map V.str, ((0 : Nat) : Int), .str z, rfl, rfl, .of hfl, atI_nat (j := 0) rfl, ?_⟩
  refine ⟨_, rfl, b, n, rfl, B, by omega, fun s1 H1 s10 s11 B1 k1 => ⟨_, rfl, b, n + 3, rfl, B1, by omega, fun s2 H2 s20 s21 B2 k2 => ⟨_, _, _, rfl, ?_⟩⟩⟩
  refine ⟨_, rfl, _, rfl, _, _, rfl, _, rfl, _, rfl, _, _, rfl, _, rfl, b, 4, n + 6, rfl, B2, by omega, by decide, by decide, fun way H3 w0 w1 B3 k3 => ⟨_, _, _, rfl, ?_⟩⟩
  obtain ⟨j, rfl, hj⟩ := draw_at (n := 4) w0 w1 rfl
  have kk3 : But b H0 H3 := (k1.trans k2).trans k3
  obtain ⟨lo, hi, el, eh, l1, l2, l3⟩ : ∃ lo hi : Int, (if s2 < s1 then s2 else s1) = lo ∧ (if s2 > s1 then s2 else s1) = hi ∧ -999 ≤ lo ∧ lo ≤ hi ∧ hi ≤ 999 := by
    refine ⟨_, _, rfl, rfl, ?_, ?_, ?_⟩ <;> split <;> (try split) <;> omega
  rw [el, eh]
  refine ⟨_, rfl, fun a1 dx hx hdx _ => ⟨a1, dx, z, (-999), 999, rfl, upd_same, hz, by decide, by decide, by decide, fun H' s' => ⟨rfl, ?_⟩⟩⟩
  obtain ⟨A1, u4⟩ := btw_got (z := z) (lo := (-999)) (hi := 999) hx hdx s'
  generalize upd H' a1 (.ins C dx (btwFs z (-999) 999)) = H4 at A1 u4 ⊢
  clear hx hdx s'
  refine ⟨_, rfl, _, rfl, rfl, rfl, fun a2 dx hx hdx _ => ⟨a2, dx, z, lo, 999, rfl, upd_same, hz, l1, by omega, by decide, fun H' s' => ⟨rfl, ?_⟩⟩⟩
  obtain ⟨A2, u5⟩ := btw_got (z := z) (lo := lo) (hi := 999) hx hdx s'
  generalize upd H' a2 (.ins C dx (btwFs z lo 999)) = H5 at A2 u5 ⊢
  clear hx hdx s'
  refine ⟨_, rfl, _, rfl, rfl, rfl, fun a3 dx hx hdx _ => ⟨a3, dx, z, (-999), hi, rfl, upd_same, hz, by decide, by omega, l3, fun H' s' => ⟨rfl, ?_⟩⟩⟩
  obtain ⟨A3, u6⟩ := btw_got (z := z) (lo := (-999)) (hi := hi) hx hdx s'
  generalize upd H' a3 (.ins C dx (btwFs z (-999) hi)) = H6 at A3 u6 ⊢
  clear hx hdx s'
  refine ⟨(by show 3 ≤ sizeLine; decide), fun p hp => ?_⟩
  have u7 : Same H6 (upd H6 p (.lst [.ref a1, .ref a2, .ref a3])) := Same.new hp
  refine ⟨_, rfl, .inl ⟨rfl, _, .of upd_same⟩, _, rfl, _, rfl, _, rfl, rfl, rfl, fun a4 dx hx hdx _ => ⟨a4, dx, z, lo, hi, rfl, upd_same, hz, l1, l2, l3, fun H' s' => ⟨rfl, ?_⟩⟩⟩
  obtain ⟨A4, u8⟩ := btw_got (z := z) (lo := lo) (hi := hi) hx hdx s'
  generalize upd H' a4 (.ins C dx (btwFs z lo hi)) = H8 at A4 u8 ⊢
  clear hx hdx s'
  have ep := u8 _ _ (upd_same (H := H6) (a := p))
  refine ⟨p, _, _, rfl, rfl, ep, small1000 (show 3 ≤ 1000 by decide), ?_⟩
  -- what stands then
  have u36 : Same H3 H6 := (u4.trans u5).trans u6
  have u38 : Same H3 H8 := (u36.trans u7).trans u8
  have B6 : BoxAt H6 b (n + 7) := B3.keep fun o e => u36 _ _ e
  have B8 : BoxAt H8 b (n + 7) := B3.keep fun o e => u38 _ _ e
  have npb := box_ne B6 hp
  have k6 : But b H0 H6 := kk3.trans (But.same u36)
  have k8 : But b H0 H8 := kk3.trans (But.same u38)
  have fp : H0 p = none := free_of k6 npb hp
  have A1' := ((A1.same (u5.trans u6)).same u7).same u8
  have A2' := ((A2.same u6).same u7).same u8
  have A3' := (A3.same u7).same u8
  have B9 : BoxAt (upd H8 p (.lst ([.ref a1, .ref a2, .ref a3] ++ [.ref a4]))) b (n + 7) := box_upd B8 npb
  have k9 : But b H0 (upd H8 p (.lst ([.ref a1, .ref a2, .ref a3] ++ [.ref a4]))) := but_upd k8 fp
  obtain ⟨a, lo', hi', e1, e2, e3, A0, m1, m2, m3⟩ : ∃ (a : Addr) (lo' hi' : Int), ([.ref a1, .ref a2, .ref a3] ++ [.ref a4] : List V)[j]? = some (.ref a) ∧ ([.int (-999), .int lo, .int (-999), .int lo] : List V)[j]? = some (.int lo') ∧
      ([.int 999, .int 999, .int hi, .int hi] : List V)[j]? = some (.int hi') ∧ BtwAt C H8 a z lo' hi' ∧ -999 ≤ lo' ∧ lo' ≤ hi' ∧ hi' ≤ 999 := by
    match j, hj with
    | 0, _ => exact ⟨a1, -999, 999, rfl, rfl, rfl, A1', by decide, by decide, by decide⟩
    | 1, _ => exact ⟨a2, lo, 999, rfl, rfl, rfl, A2', l1, by omega, by decide⟩
    | 2, _ => exact ⟨a3, -999, hi, rfl, rfl, rfl, A3', by decide, by omega, l3⟩
    | 3, _ => exact ⟨a4, lo, hi, rfl, rfl, rfl, A4, l1, l2, l3⟩
  have A9 : BtwAt C (upd H8 p (.lst ([.ref a1, .ref a2, .ref a3] ++ [.ref a4]))) a z lo' hi' := by
    obtain ⟨dx, ea⟩ := A0
    refine ⟨dx, (upd_ne fun zz => ?_).trans ea⟩
    rw [zz, ep] at ea
    cases ea
  have e9 : upd H8 p (.lst ([.ref a1, .ref a2, .ref a3] ++ [.ref a4])) p = some (.lst ([.ref a1, .ref a2, .ref a3] ++ [.ref a4])) := upd_same
  generalize upd H8 p (.lst ([.ref a1, .ref a2, .ref a3] ++ [.ref a4])) = H9 at B9 k9 A9 e9 ⊢
  refine ⟨_, rfl, _, rfl, p, _, _, .ref a, rfl, rfl, .of e9, atI_nat e1, ?_⟩
  refine ⟨_, rfl, _, rfl, _, rfl, _, rfl, (by show 4 ≤ sizeLine; exact small_size (by decide)), fun p2 hp2 => ⟨_, rfl, p2, _, _, .int lo', rfl, rfl, .of upd_same, atI_nat e2, ?_⟩⟩
  have s10 : Same H9 (upd H9 p2 (.lst [.int (-999), .int lo, .int (-999), .int lo])) := Same.new hp2
  refine ⟨_, rfl, _, rfl, (by show 4 ≤ sizeLine; exact small_size (by decide)), fun p3 hp3 => ⟨_, rfl, p3, _, _, .int hi', rfl, rfl, .of upd_same, atI_nat e3, ⟨_, _, _, rfl, ?_⟩⟩⟩
  have s11 := s10.trans (Same.new (o := .lst [.int 999, .int 999, .int hi, .int hi]) hp3)
  exact q a p lo' hi' (.int j) _ (A9.same s11) m1 m2 m3 (B9.keep fun o e => s11 _ _ e) (k9.trans (But.same s11))
end
end G
set_option Elab.async false
set_option linter.all false
set_option maxRecDepth 100000
set_option maxHeartbeats 4000000
/-! PC: the law's look at a Between's fields. -/
namespace G
open PySem PySem.Spec PyProof.Rows L2 NdefX StX
theorem small_log {i : Int} (h1 : -999 ≤ i) (h2 : i ≤ 999) : decide (i.natAbs.log2 < 1920) = true := by
  refine decide_eq_true ?_
  have h : i.natAbs < 2 ^ 10 := by omega
  by_cases z : i.natAbs = 0
  · rw [z]
    decide
  · exact Nat.lt_trans ((Nat.log2_lt z).mpr h) (by decide)
theorem name_repr {z : Str} (h : NameZ z) : (reprText z).length ≤ 200 := by
  have h1 := StrLaws.reprText_len z fun c hc => Nat.lt_of_le_of_lt (h.1 c hc).2 (by decide)
  have := h.2.2
  omega
theorem five_show {z : Str} {lo hi : Int} (hz : NameZ z) (h1 : -999 ≤ lo) (h2 : lo ≤ hi) (h3 : hi ≤ 999) :
    PyData.showableAll [.str z, .int lo, .int hi, .int 1, .int 1] = true ∧ 3 + massAll [.str z, .int lo, .int hi, .int 1, .int 1] ≤ sizeLine := by
  refine ⟨?_, ?_⟩
  · simp only [PyData.showableAll, PyData.showable, Bool.and_true, Bool.true_and]
    rw [small_log h1 (by omega), small_log (by omega) h3]
    decide
  · have := name_repr hz
    simp only [massAll, mass]
    rw [sizeLine_eq]
    omega
section
variable {P : Program} {w : World} {K : PySem.W.Frag} {mg : Str → Option Value} {base : Heap}
/-- the sixth statement -/
theorem br_look {f1 f2 f3 f4 f5 p1 p2 p3 C : Addr} {fd1 fd2 fd3 fd4 fd5 : FuncData} {cdv : Value} {A : Around} {outer : List Env} {s : Shared} {H : Hp} {E : XK} {f : Addr} (c : Cls K C)
    (P1 : PropOf K C "field" p1 f1) (G1 : FnOk P w K mg base CX0 1 f1 fd1 ["self"] (spBtwField C)) (b1 : Binds K fd1 ["self"] []) (P2 : PropOf K C "low" p2 f2) (G2 : FnOk P w K mg base CX0 1 f2 fd2 ["self"] (spBtwLow C)) (b2 : Binds K fd2 ["self"] [])
    (P3 : PropOf K C "high" p3 f3) (G3 : FnOk P w K mg base CX0 1 f3 fd3 ["self"] (spBtwHigh C)) (b3 : Binds K fd3 ["self"] []) (M4 : Meth K C "leaves" f4) (G4 : FnOk P w K mg base CX0 1 f4 fd4 ["self"] (spBtwOne C)) (b4 : Binds K fd4 ["self"] [])
    (M5 : Meth K C "depth" f5) (G5 : FnOk P w K mg base CX0 1 f5 fd5 ["self"] (spBtwOne C)) (b5 : Binds K fd5 ["self"] []) (mr : mg "repr" = none)
    (hg : (A.deeper (envOfC "_law_between_right" (defScope sBR) s.heap.objs.size f cdv)).guards = some []) (hr : Room 5 (A.deeper (envOfC "_law_between_right" (defScope sBR) s.heap.objs.size f cdv)))
    {tl : TS} (pl : PSs (cxOf CX0 P w K mg base nBR "_law_between_right" (defScope sBR) f cdv A outer s H E).nox ((defBody sBR).drop 6) tl) :
    ∃ t, PSs (cxOf CX0 P w K mg base nBR "_law_between_right" (defScope sBR) f cdv A outer s H E).nox ((defBody sBR).drop 5) t ∧
      ∀ (De : Ends) (x0 x1 x2 x6 x7 : Option V) (z : Str) (a : Addr) (lo hi : Int) (H0 : Hp), NameZ z → -999 ≤ lo → lo ≤ hi → hi ≤ 999 → BtwAt C H0 a z lo hi →
        (∀ H', Same H0 H' → tl De [x0, x1, x2, some (.str z), some (.int lo), some (.int hi), x6, x7, some (.ref a), none, none, none, none, none] H') →
        t De [x0, x1, x2, some (.str z), some (.int lo), some (.int hi), x6, x7, some (.ref a), none, none, none, none, none] H0 := by
  have hr1 := hr.mono (show 1 ≤ 5 by decide)
  have hr2 := hr.mono (show 1 + 1 ≤ 5 by decide)
  refine ⟨_, pss_cons (ps_if (pt_cmpR op_ne (pe_callB (call_repr hg hr.units) (by rfl) mr (by decide +kernel) (pa_cons (pe_lst (pa_cons (pe_prop (pv 8) c P1 G1 hr2 b1 .nil pass0 rfl) (pa_cons (pe_prop (pv 8) c P2 G2 hr2 b2 .nil pass0 rfl)
      (pa_cons (pe_prop (pv 8) c P3 G3 hr2 b3 .nil pass0 rfl) (pa_cons (pe_meth0 (pv 8) c M4 G4 hr1 b4 .nil pass0) (pa_cons (pe_meth0 (pv 8) c M5 G5 hr1 b5 .nil pass0) pa_nil)))))) pa_nil))
      (pe_callB (call_repr hg hr.units) (by rfl) mr (by decide +kernel) (pa_cons (pe_lst (pa_cons (pv 3) (pa_cons (pv 4) (pa_cons (pv 5) (pa_cons pe_int (pa_cons pe_int pa_nil)))))) pa_nil)) (nomark _)) (pss_one (ps_ret pe_bl)) pss_nil) pl, ?_⟩
  intro De x0 x1 x2 x6 x7 z a lo hi H0 hz h1 h2 h3 hA q
  obtain ⟨dx, ea⟩ := hA
  obtain ⟨q1, q2⟩ := five_show hz h1 h2 h3
  have rp : ∀ Hx : Hp, RpAll K Hx [.str z, .int lo, .int hi, .int 1, .int 1] [.str z, .int lo, .int hi, .int 1, .int 1] := fun Hx => .cons (.str _) (.cons (.int _) (.cons (.int _) (.cons (.int _) (.cons (.int _) .nil))))
  have hB : ∃ dx, H0 a = some (.ins C dx (btwFs z lo hi)) := ⟨dx, ea⟩
  refine ⟨_, rfl, a, dx, _, rfl, ea, a, z, lo, hi, rfl, hB, _, rfl, a, dx, _, rfl, ea, a, z, lo, hi, rfl, hB, _, rfl, a, dx, _, rfl, ea, a, z, lo, hi, rfl, hB, _, rfl, a, dx, _, rfl, ea, rfl, a, z, lo, hi, rfl, hB, _, rfl, a, dx, _, rfl, ea, rfl, a, z, lo, hi, rfl, hB,
    (by show 5 ≤ sizeLine; exact small_size (by decide)), fun p hp => ?_⟩
  refine ⟨p, _, _, rfl, upd_same, rp _, q1, (fun hh => by simp [PyData.hasDictAll, PyData.hasDict] at hh), (by show (1 : Nat) ≤ 20; decide), q2, ?_⟩
  refine ⟨_, rfl, _, rfl, _, rfl, (by show 5 ≤ sizeLine; exact small_size (by decide)), fun p2 hp2 => ⟨p2, _, _, rfl, upd_same, rp _, q1, (fun hh => by simp [PyData.hasDictAll, PyData.hasDict] at hh), (by show (1 : Nat) ≤ 20; decide), q2, rfl, _, rfl, ?_⟩⟩
  rw [decide_eq_true rfl]
  exact iteF (q _ ((Same.new hp).trans (Same.new hp2)))
end
end G
set_option Elab.async false
set_option linter.all false
set_option maxRecDepth 100000
set_option maxHeartbeats 4000000
/-! PD: a record's value as data: what repr asks of it. -/
namespace G
open PySem PySem.Spec PyProof.Rows L2 NdefX StX
def keyD : Key → PyData
  | .inl i => .int i
  | .inr z => .str z
def worthD : V → PyData
  | .int i => .int i
  | _ => .none
abbrev valD (kvs : List (Key × V)) : List (PyData × PyData) := kvs.map fun p => (keyD p.1, worthD p.2)
theorem val_all {K : PySem.W.Frag} {H : Hp} {zs : List Str} : ∀ {kvs : List (Key × V)}, (∀ z ∈ zs, NameZ z) → ValN zs kvs →
    RpAll K H (kvs.map fun p => kV p.1) ((valD kvs).map (·.1)) ∧ RpAll K H (kvs.map (·.2)) ((valD kvs).map (·.2)) ∧ PyData.showableKv (valD kvs) = true ∧ okSKv (valD kvs) = true ∧ PyData.depthKv (valD kvs) = 0 ∧ massKv (valD kvs) ≤ 2200 * kvs.length
  | [], _, _ => ⟨.nil, .nil, rfl, rfl, rfl, Nat.le_refl _⟩
  | p :: kvs, hz, h => by
    obtain ⟨z, n, rfl, hm, n1, n2⟩ := h p List.mem_cons_self
    obtain ⟨r1, r2, r3, r4, r5, r6⟩ := val_all (K := K) (H := H) (kvs := kvs) hz fun q hq => h q (List.mem_cons_of_mem _ hq)
    have m := name_repr (hz z hm)
    refine ⟨.cons (.str z) r1, .cons (.int n) r2, ?_, ?_, ?_, ?_⟩
    · show (PyData.showable (.str z) && PyData.showable (.int n) && PyData.showableKv (valD kvs)) = true
      rw [r3]
      have e := small_log n1 n2
      show (true && decide (n.natAbs.log2 < 1920) && true) = true
      rw [e]
      rfl
    · show (okS (.str z) && okS (.int n) && okSKv (valD kvs)) = true
      rw [r4]
      rfl
    · show max (max 0 0) (PyData.depthKv (valD kvs)) = 0
      rw [r5]
      rfl
    · show (reprText z).length + 1921 + 4 + massKv (valD kvs) ≤ 2200 * (kvs.length + 1)
      omega
/-- repr of such a dict can be asked -/
theorem val_repr {K : PySem.W.Frag} {H : Hp} {zs : List Str} {kvs : List (Key × V)} {d : Addr} (v : ValOk zs kvs) (hd : H d = some (.dK kvs)) :
    Rp K H (.ref d) (.dict (valD kvs)) ∧ (PyData.dict (valD kvs)).showable = true ∧ okS (.dict (valD kvs)) = true ∧ (PyData.dict (valD kvs)).depth ≤ 20 ∧ mass (.dict (valD kvs)) ≤ sizeLine := by
  obtain ⟨r1, r2, r3, r4, r5, r6⟩ := val_all (K := K) (H := H) v.nm v.is
  have h6 := v.six
  refine ⟨.dic hd r1 r2, r3, r4, ?_, ?_⟩
  · show PyData.depthKv (valD kvs) + 1 ≤ 20
    omega
  · show 3 + massKv (valD kvs) ≤ sizeLine
    rw [sizeLine_eq]
    omega
end G
set_option Elab.async false
set_option linter.all false
set_option maxRecDepth 100000
set_option maxHeartbeats 4000000
/-! PE: a Between asked by the law, both ways. -/
namespace G
open PySem PySem.Spec PyProof.Rows L2 NdefX StX
def forBody : Stmt → List Stmt
  | .For _ _ b _ _ => b
  | _ => []
abbrev turnBR : List Stmt := forBody ((defBody sBR).getD 6 (.Pass ⟨0, 0, 0, 0⟩))
section
variable {P : Program} {w : World} {K : PySem.W.Frag} {mg : Str → Option Value} {base : Heap}
/-- the turn from told on -/
theorem br_told {fC C : Addr} {fdC : FuncData} {cdv : Value} {A : Around} {outer : List Env} {s : Shared} {H : Hp} {E : XK} {f : Addr}
    (FC : Fun K "__call__" "Between.__call__" (sBtw 4) fC fdC) (bC : Binds K fdC ["self", "key", "value"] []) (cO : CallO K C fC) (GC : FnOk P w K mg base CX0 5 fC fdC ["self", "key", "value"] (spBtwCall C)) (mr : mg "repr" = none)
    (hg : (A.deeper (envOfC "_law_between_right" (defScope sBR) s.heap.objs.size f cdv)).guards = some []) (hr : Room 5 (A.deeper (envOfC "_law_between_right" (defScope sBR) s.heap.objs.size f cdv))) :
    ∃ t, PSs (cxOf CX0 P w K mg base nBR "_law_between_right" (defScope sBR) f cdv A outer s H E).nox (turnBR.drop 4) t ∧
      ∀ (De : Ends) (x0 x1 x6 x7 x9 x13 : Option V) (y z : Str) (a d : Addr) (lo hi : Int) (ws : List Str) (kvs : List (Key × V)) (H0 : Hp), NameZ y → BtwAt C H0 a z lo hi → H0 d = some (.dK kvs) → ValOk ws kvs →
        (∀ (x13 : V) (H' : Hp), Same H0 H' → De.nx [x0, x1, some (.str y), some (.str z), some (.int lo), some (.int hi), x6, x7, some (.ref a), x9, some (.ref d), some (.str (PyData.dict (valD kvs)).shown), some (.bl (btwHolds z lo hi kvs)), some x13] H') →
        t De [x0, x1, some (.str y), some (.str z), some (.int lo), some (.int hi), x6, x7, some (.ref a), x9, some (.ref d), some (.str (PyData.dict (valD kvs)).shown), some (.bl (btwHolds z lo hi kvs)), x13] H0 := by
  refine ⟨_, pss_cons (ps_set (i := 13) scBR.nd rfl (.inl rfl) (pe_lst (pa_cons (pe_callO (pv 8) cO (GC.raw bC .nil) hr pass0 (pa_cons (pv 2) (pa_cons (pv 10) pa_nil)))
      (pa_cons (pe_callOK (pv 8) cO GC hr (kb_vk FC fun _ _ _ _ _ _ _ _ _ => rfl) pass0 (pk_cons (pv 10) (pk_cons (pv 2) pk_nil))) pa_nil))))
    (pss_one (ps_if (PW.pt (pw_or (pt_cmpR op_ne (pe_callB (call_repr hg hr.units) (by rfl) mr (by decide +kernel) (pa_cons (pv 13) pa_nil)) (pe_callB (call_repr hg hr.units) (by rfl) mr (by decide +kernel) (pa_cons (pe_lst (pa_cons (pv 12) (pa_cons (pv 12) pa_nil))) pa_nil)) (nomark _))
      (pw_or1 (pt_cmpR op_ne (pe_callB (call_reprD hg hr.units) (by rfl) mr (by decide +kernel) (pa_cons (pv 10) pa_nil)) (pv 11) (nomark _))))) (pss_one (ps_ret pe_bl)) pss_nil)), ?_⟩
  intro De x0 x1 x6 x7 x9 x13 y z a d lo hi ws kvs H0 hy hA hd hv q
  have ins : ∀ {Hx : Hp}, Same H0 Hx → ∃ dx fs, Hx a = some (.ins C dx fs) := fun {Hx} sx => let ⟨dx, e⟩ := hA; ⟨dx, _, sx _ _ e⟩
  refine ⟨_, rfl, a, rfl, _, rfl, _, rfl, .inr (ins (Same.refl _)), a, d, y, z, lo, hi, ws, kvs, rfl, hA, hy, hd, hv, fun H1 s1 => ?_⟩
  refine ⟨_, rfl, a, rfl, _, rfl, _, rfl, rfl, .inr (ins s1), a, d, y, z, lo, hi, ws, kvs, rfl, hA.same s1, hy, s1 _ _ hd, hv, fun H2 s2 => ⟨(by show 2 ≤ sizeLine; exact small_size (by decide)), fun p hp => ?_⟩⟩
  have s3 := (s1.trans s2).trans (Same.new (o := .lst [.bl (btwHolds z lo hi kvs), .bl (btwHolds z lo hi kvs)]) hp)
  have ep : (upd H2 p (.lst [.bl (btwHolds z lo hi kvs), .bl (btwHolds z lo hi kvs)])) p = some (.lst [.bl (btwHolds z lo hi kvs), .bl (btwHolds z lo hi kvs)]) := upd_same
  generalize upd H2 p (.lst [.bl (btwHolds z lo hi kvs), .bl (btwHolds z lo hi kvs)]) = H3 at s3 ep ⊢
  have rp : ∀ Hx : Hp, RpAll K Hx [.bl (btwHolds z lo hi kvs), .bl (btwHolds z lo hi kvs)] [.bool (btwHolds z lo hi kvs), .bool (btwHolds z lo hi kvs)] := fun Hx => .cons (.bl _) (.cons (.bl _) .nil)
  have sz : 3 + massAll [.bool (btwHolds z lo hi kvs), .bool (btwHolds z lo hi kvs)] ≤ sizeLine := small_size (by show 3 + (5 + 2 + (5 + 2 + 0)) ≤ 7000; decide)
  refine ⟨_, rfl, p, _, _, rfl, ep, rp _, rfl, (fun hh => by simp [PyData.hasDictAll, PyData.hasDict] at hh), (by show (1 : Nat) ≤ 20; decide), sz, ?_⟩
  refine ⟨_, rfl, _, rfl, (by show 2 ≤ sizeLine; exact small_size (by decide)), fun p2 hp2 => ⟨p2, _, _, rfl, upd_same, rp _, rfl, (fun hh => by simp [PyData.hasDictAll, PyData.hasDict] at hh), (by show (1 : Nat) ≤ 20; decide), sz, rfl, _, rfl, ?_⟩⟩
  rw [decide_eq_true rfl]
  refine iteF ?_
  have s4 := s3.trans (Same.new (o := .lst [.bl (btwHolds z lo hi kvs), .bl (btwHolds z lo hi kvs)]) hp2)
  obtain ⟨r1, r2, r3, r4, r5⟩ := val_repr (K := K) hv (s4 _ _ hd)
  refine ⟨_, rfl, d, _, rfl, r1, r2, r3, r4, r5, _, rfl, rfl, _, rfl, ?_⟩
  rw [decide_eq_true rfl]
  exact iteF (q _ _ s4)
end
end G
set_option Elab.async false
set_option linter.all false
set_option maxRecDepth 100000
set_option maxHeartbeats 4000000
/-! PF: the law's turn for one number. -/
namespace G
open PySem PySem.Spec PyProof.Rows L2 NdefX StX
section
variable {P : Program} {w : World} {K : PySem.W.Frag} {mg : Str → Option Value} {base : Heap}
/-- the turn from stood on -/
theorem br_due {cdv : Value} {A : Around} {outer : List Env} {s : Shared} {H : Hp} {E : XK} {f : Addr} (mr : mg "repr" = none)
    (hg : (A.deeper (envOfC "_law_between_right" (defScope sBR) s.heap.objs.size f cdv)).guards = some []) (hr : Room 5 (A.deeper (envOfC "_law_between_right" (defScope sBR) s.heap.objs.size f cdv)))
    {tl : TS} (pl : PSs (cxOf CX0 P w K mg base nBR "_law_between_right" (defScope sBR) f cdv A outer s H E).nox (turnBR.drop 4) tl) :
    ∃ t, PSs (cxOf CX0 P w K mg base nBR "_law_between_right" (defScope sBR) f cdv A outer s H E).nox (turnBR.drop 2) t ∧
      ∀ (De : Ends) (x0 x1 x2 x6 x7 x8 x9 x11 x12 x13 : Option V) (z : Str) (d : Addr) (lo hi : Int) (ws : List Str) (kvs : List (Key × V)) (H0 : Hp), H0 d = some (.dK kvs) → ValOk ws kvs →
        tl De [x0, x1, x2, some (.str z), some (.int lo), some (.int hi), x6, x7, x8, x9, some (.ref d), some (.str (PyData.dict (valD kvs)).shown), some (.bl (btwHolds z lo hi kvs)), x13] H0 →
        t De [x0, x1, x2, some (.str z), some (.int lo), some (.int hi), x6, x7, x8, x9, some (.ref d), x11, x12, x13] H0 := by
  have hu := hu_of hr
  refine ⟨_, pss_cons (ps_set (i := 11) scBR.nd rfl (.inl rfl) (pe_callB (call_reprD hg hr.units) (by rfl) mr (by decide +kernel) (pa_cons (pv 10) pa_nil)))
    (pss_cons (ps_set (i := 12) scBR.nd rfl (.inl rfl) (pe_and (pe_cmp (pc_din hu (pv 3) (pv 10)) rfl) (pe_one (pe_chain op_le op_le (pv 4) (pe_dget hu (pv 10) (pv 3) (fun _ _ => rfl)) (pv 5))))) pl), ?_⟩
  intro De x0 x1 x2 x6 x7 x8 x9 x11 x12 x13 z d lo hi ws kvs H0 hd hv q
  obtain ⟨r1, r2, r3, r4, r5⟩ := val_repr (K := K) hv hd
  refine ⟨_, rfl, d, _, rfl, r1, r2, r3, r4, r5, ?_⟩
  refine ⟨_, rfl, _, rfl, d, _, rfl, DGet.k (k := Sum.inr z) hd, _, rfl, ?_⟩
  rcases valV_int hv.is (Sum.inr z) with e | ⟨n, e⟩
  · have e0 : btwHolds z lo hi kvs = false := by
      unfold btwHolds
      rw [e]
    rw [e0] at q
    rw [e]
    exact iteF q
  · have e0 : btwHolds z lo hi kvs = (decide (lo ≤ n) && decide (n ≤ hi)) := by
      unfold btwHolds
      rw [e]
    rw [e0] at q
    rw [e]
    refine iteT ?_
    refine ⟨_, rfl, _, rfl, _, rfl, d, _, rfl, by rw [← e]; exact DGet.k (k := Sum.inr z) hd, _, _, rfl, rfl, _, rfl, ?_⟩
    cases e2 : decide (lo ≤ n) with
    | false =>
      rw [e2] at q
      exact iteF q
    | true =>
      rw [e2] at q
      exact iteT ⟨_, rfl, _, _, rfl, rfl, q⟩
theorem ValN.more {z : Str} {zs : List Str} {kvs : List (Key × V)} (h : ValN zs kvs) : ValN (z :: zs) kvs := fun p hp => let ⟨y, i, e, hy, r⟩ := h p hp; ⟨y, i, e, List.mem_cons_of_mem _ hy, r⟩
theorem cut_six {x : V} {xs : List V} (h : xs.length = 5) : cutV (x :: xs) (some ((1 : Nat) : Int)) (some ((6 : Nat) : Int)) = xs := by
  unfold cutV
  rw [HT.sIx_nat, HT.sIx_nat, List.length_cons, h]
  show (xs.take 5) = xs
  exact List.take_of_length_le (by omega)
/-- the whole turn -/
theorem br_turn {fV : Addr} {fdV : FuncData} {cdv : Value} {A : Around} {outer : List Env} {s : Shared} {H : Hp} {E : XK} {f : Addr}
    (GV : FnOk P w K mg base CX0 3 fV fdV ["_law_box_here", "_law_fields"] (spValue K)) (gV : mg "_law_value" = some (.ref fV)) (kV : PySem.W.keepIn K (.ref fV) = true) (bV : Binds K fdV ["_law_box_here", "_law_fields"] [])
    (hr : Room 5 (A.deeper (envOfC "_law_between_right" (defScope sBR) s.heap.objs.size f cdv)))
    {tl : TS} (pl : PSs (cxOf CX0 P w K mg base nBR "_law_between_right" (defScope sBR) f cdv A outer s H E).nox (turnBR.drop 2) tl) :
    ∃ t, PSs (cxOf CX0 P w K mg base nBR "_law_between_right" (defScope sBR) f cdv A outer s H E).nox turnBR t ∧
      ∀ (De : Ends) (b fl : Addr) (n : Nat) (x2 x4 x5 x6 x7 x8 x10 x11 x12 x13 : Option V) (x : V) (z : Str) (zs : List Str) (H0 : Hp), BoxAt H0 b n → n ≤ 80000 → H0 fl = some (.lst ((z :: zs).map V.str)) → zs.length = 5 → (∀ y ∈ z :: zs, NameZ y) → (x = .non ∨ ∃ k, x = .int k) →
        (∀ (d : Addr) (kvs : List (Key × V)) (H' : Hp), H' d = some (.dK kvs) → ValOk (z :: zs) kvs → BoxAt H' b (n + 219) → But b H0 H' →
          tl De [some (.ref b), some (.ref fl), x2, some (.str z), x4, x5, x6, x7, x8, some x, some (.ref d), x11, x12, x13] H') →
        t De [some (.ref b), some (.ref fl), x2, some (.str z), x4, x5, x6, x7, x8, some x, x10, x11, x12, x13] H0 := by
  have hu := hu_of hr
  refine ⟨_, pss_cons (ps_set (i := 10) scBR.nd rfl (.inl rfl) (pe_call GV (hr.mono (by decide)) rfl gV kV bV .nil pass0 (pa_cons (pv 0) (pa_cons (pe_slice sl_list (pv 1) (po_some pe_int) (po_some pe_int)) pa_nil))))
    (pss_cons (ps_if (PW.pt (pw_and (pt_cmpR op_notN (pv 9) pe_non (nomark _)) (pw_and1 (pt_chain op_lt op_lt (pe_un un_neg pe_int) (pv 9) pe_int)))) (pss_one (ps_dput hu (pv 10) (pv 3) (pv 9) rfl)) pss_nil) pl), ?_⟩
  intro De b fl n x2 x4 x5 x6 x7 x8 x10 x11 x12 x13 x z zs H0 B hn hfl h5 hz hx q
  refine ⟨_, rfl, _, rfl, _, rfl, _, rfl, fl, _, rfl, .of hfl, fun p hp => ?_⟩
  have ec : cutV ((z :: zs).map V.str) (some 1) (some 6) = zs.map V.str := cut_six (by rw [List.length_map]; exact h5)
  rw [ec]
  have npb := box_ne B hp
  refine ⟨b, p, n, zs, rfl, box_new B hp, hn, upd_same, (fun y hy => hz y (List.mem_cons_of_mem _ hy)), by omega, by omega, npb, fun d H1 kvs nd ed v1 v2 v3 v4 B1 k1 => ?_⟩
  have kk : But b H0 H1 := (But.new hp).trans k1
  have ok1 : ValOk (z :: zs) kvs := ⟨hz, v1.more, v2, v3⟩
  have fd : H0 d = none := by
    refine free_of (But.new hp) (box_ne (box_new B hp) nd) nd
  have ndb : d ≠ b := box_ne B fd
  rcases hx with rfl | ⟨k, rfl⟩
  · refine ⟨_, rfl, rfl, _, rfl, ?_⟩
    exact iteF (q d kvs H1 ed ok1 B1 kk)
  · refine ⟨_, rfl, rfl, _, rfl, ?_⟩
    refine iteT ⟨_, rfl, _, rfl, _, _, rfl, rfl, _, rfl, ?_⟩
    refine ite2 (fun hlo => ?_) (fun _ => ⟨false, rfl, iteF (q d kvs H1 ed ok1 B1 kk)⟩)
    have h1 : (-1000 : Int) < k := of_decide_eq_true hlo
    refine ⟨_, _, rfl, rfl, _, rfl, ite2 (fun hhi => ?_) (fun _ => q d kvs H1 ed ok1 B1 kk)⟩
    have h2 : k < (1000 : Int) := of_decide_eq_true hhi
    have lp := length_putK kvs (Sum.inr z) (.int k)
    refine ⟨_, rfl, _, rfl, _, rfl, d, _, rfl, DPut.k (k := Sum.inr z) ed (small1000 (by omega)), ?_⟩
    exact q d (putK kvs (Sum.inr z) (.int k)) _ upd_same ⟨hz, v1.more.put List.mem_cons_self (by omega) (by omega), putK_pos _ _ _, by omega⟩ (box_upd B1 ndb) (but_upd kk fd)
end
end G
set_option Elab.async false
set_option linter.all false
set_option maxRecDepth 100000
set_option maxHeartbeats 4000000
/-! PG: _law_between_right, whole. -/
namespace G
open PySem PySem.Spec PyProof.Rows L2 NdefX StX
def spBR : Sp := fun vs H Q _ => ∃ (b fl : Addr) (n : Nat) (y z : Str) (zs : List Str), vs = [.ref b, .ref fl, .str y] ∧ BoxAt H b n ∧ n ≤ 70000 ∧ H fl = some (.lst ((z :: zs).map V.str)) ∧ zs.length = 5 ∧ (∀ u ∈ z :: zs, NameZ u) ∧ NameZ y ∧
  ∀ H', BoxAt H' b (n + 2000) → But b H H' → Q (.bl true) H'
theorem ne_box {H : Hp} {b fl : Addr} {n : Nat} {z : Str} {l : List V} (B : BoxAt H b n) (h : H fl = some (.lst (V.str z :: l))) : fl ≠ b := fun e => by
  obtain ⟨x, y, u, hb, _⟩ := B
  rw [e, hb] at h
  cases h
section
variable {P : Program} {w : World} {K : PySem.W.Frag} {mg : Str → Option Value} {base : Heap}
theorem br_loop {fN : Addr} {fdN : FuncData} {cdv : Value} {A : Around} {outer : List Env} {s : Shared} {H : Hp} {E : XK} {f C : Addr}
    (GN : FnOk P w K mg base CX0 2 fN fdN ["_law_box_here"] spNumber) (gN : mg "_law_number" = some (.ref fN)) (kN : PySem.W.keepIn K (.ref fN) = true) (bN : Binds K fdN ["_law_box_here"] [])
    (hr : Room 5 (A.deeper (envOfC "_law_between_right" (defScope sBR) s.heap.objs.size f cdv)))
    {tt : TS} (pt : PSs (cxOf CX0 P w K mg base nBR "_law_between_right" (defScope sBR) f cdv A outer s H E).nox turnBR tt) :
    ∃ t, PSs (cxOf CX0 P w K mg base nBR "_law_between_right" (defScope sBR) f cdv A outer s H E).nox ((defBody sBR).drop 6) t ∧
      ∀ (De : Ends) (b fl a : Addr) (n : Nat) (x6 x7 x9 : Option V) (y z : Str) (lo hi : Int) (zs : List Str) (H0 : Hp), BoxAt H0 b n → n ≤ 78000 → H0 fl = some (.lst ((z :: zs).map V.str)) → BtwAt C H0 a z lo hi →
        (∀ (De' : Ends) (x : V) (n' : Nat) (x9 x10 x11 x12 x13 : Option V) (H1 : Hp), (x = .non ∨ ∃ k, x = .int k) → BoxAt H1 b n' → n' ≤ 80000 → H1 fl = some (.lst ((z :: zs).map V.str)) → BtwAt C H1 a z lo hi →
          (∀ (x10 x11 x12 x13 : Option V) (H' : Hp), BoxAt H' b (n' + 219) → But b H1 H' → De'.nx [some (.ref b), some (.ref fl), some (.str y), some (.str z), some (.int lo), some (.int hi), x6, x7, some (.ref a), some x, x10, x11, x12, x13] H') →
          tt De' [some (.ref b), some (.ref fl), some (.str y), some (.str z), some (.int lo), some (.int hi), x6, x7, some (.ref a), some x, x10, x11, x12, x13] H1) →
        (∀ H', BoxAt H' b (n + 1500) → But b H0 H' → De.rt (.bl true) H') →
        t De [some (.ref b), some (.ref fl), some (.str y), some (.str z), some (.int lo), some (.int hi), x6, x7, some (.ref a), x9, none, none, none, none] H0 := by
  refine ⟨_, pss_cons (ps_for PassesOwn.never rfl (pi_list (pe_lst (pa_cons (pv 4) (pa_cons (pv 5) (pa_cons (pe_op op_sub (pv 4) pe_int) (pa_cons (pe_op op_add (pv 5) pe_int) (pa_cons (pe_call GN (hr.mono (by decide)) rfl gN kN bN .nil pass0 (pa_cons (pv 0) pa_nil)) (pa_cons pe_non pa_nil))))))))
      (pg_name (i := 9) scBR.nd rfl (.inl rfl)) pt) (pss_one (ps_ret pe_bl)), ?_⟩
  intro De b fl a n x6 x7 x9 y z lo hi zs H0 B hn hfl hA turn q
  refine ⟨_, rfl, _, rfl, _, rfl, _, _, rfl, rfl, _, rfl, _, _, rfl, rfl, _, rfl, b, n, rfl, B, by omega, fun r H1 _ _ B1 k1 => ⟨(by show 6 ≤ sizeLine; exact small_size (by decide)), fun p hp => ?_⟩⟩
  have nfl := ne_box B hfl
  have nab : a ≠ b := fun e => by
    obtain ⟨dx, ea⟩ := hA
    obtain ⟨_, _, _, eb, _⟩ := B
    rw [e, eb] at ea
    cases ea
  have npb := box_ne B1 hp
  have fp : H0 p = none := free_of k1 npb hp
  refine ⟨p, rfl, ⟨_, .of upd_same⟩, ?_⟩
  refine for_list (xs := [.int lo, .int hi, .int (lo - 1), .int (hi + 1), .int r, .non]) (fun i σ H2 => i ≤ 6 ∧ ∃ x9 x10 x11 x12 x13 : Option V, σ = [some (.ref b), some (.ref fl), some (.str y), some (.str z), some (.int lo), some (.int hi), x6, x7, some (.ref a), x9, x10, x11, x12, x13] ∧
    H2 p = some (.lst [.int lo, .int hi, .int (lo - 1), .int (hi + 1), .int r, .non]) ∧ BoxAt H2 b (n + 3 + 219 * i) ∧ But b H0 H2) ?_ ?_ ?_ ?_
  · exact ⟨Nat.zero_le _, x9, none, none, none, none, rfl, upd_same, box_new B1 hp, but_upd k1 fp⟩
  · rintro i σ H2 _ ⟨_, _, _, _, _, _, rfl, e2, _, _⟩
    exact .of e2
  · rintro i x σ H2 hx ⟨_, y9, y10, y11, y12, y13, rfl, e2, B2, k2⟩
    have hi6 : i < 6 := (List.getElem?_eq_some_iff.mp hx).1
    have kind : x = .non ∨ ∃ k, x = .int k := by
      match i, hi6, hx with
      | 0, _, hx => exact .inr ⟨_, (Option.some.inj hx).symm⟩
      | 1, _, hx => exact .inr ⟨_, (Option.some.inj hx).symm⟩
      | 2, _, hx => exact .inr ⟨_, (Option.some.inj hx).symm⟩
      | 3, _, hx => exact .inr ⟨_, (Option.some.inj hx).symm⟩
      | 4, _, hx => exact .inr ⟨_, (Option.some.inj hx).symm⟩
      | 5, _, hx => exact .inl (Option.some.inj hx).symm
    obtain ⟨dx, ea⟩ := hA
    refine turn _ x (n + 3 + 219 * i) y9 y10 y11 y12 y13 H2 kind B2 (by omega) (k2 _ _ nfl hfl) ⟨dx, k2 _ _ nab ea⟩ fun z10 z11 z12 z13 H3 B3 k3 => ?_
    exact ⟨hi6, some x, z10, z11, z12, z13, rfl, k3 _ _ npb e2, B3.mono (by omega), k2.trans k3⟩
  · rintro σ H2 ⟨_, y9, y10, y11, y12, y13, rfl, e2, B2, k2⟩
    exact q H2 (B2.mono (by show n + 3 + 219 * 6 ≤ n + 1500; omega)) k2
end
end G
set_option Elab.async false
set_option linter.all false
set_option maxRecDepth 100000
set_option maxHeartbeats 4000000
/-! PH: _law_between_right keeps its promise. -/
namespace G
open PySem PySem.Spec PyProof.Rows L2 NdefX StX
theorem BtwAt.but {C a b : Addr} {H H' : Hp} {n : Nat} {z : Str} {lo hi : Int} (h : BtwAt C H a z lo hi) (B : BoxAt H b n) (k : But b H H') : BtwAt C H' a z lo hi := by
  obtain ⟨dx, e⟩ := h
  refine ⟨dx, k _ _ (fun q => ?_) e⟩
  obtain ⟨_, _, _, eb, _⟩ := B
  rw [q, eb] at e
  cases e
section
variable {P : Program} {w : World} {K : PySem.W.Frag} {mg : Str → Option Value} {base : Heap}
theorem ok_br {f fT fN fV fB fC f1 f2 f3 f4 f5 p1 p2 p3 C D cda cc : Addr} {fd fdT fdN fdV fdB fdC fd1 fd2 fd3 fd4 fd5 : FuncData} (F : Fun K "_law_between_right" "_law_between_right" sBR f fd)
    (T : Fun K "_law_take" "_law_take" sTake fT fdT) (bT : Binds K fdT ["_law_box_here", "_law_many"] []) (gT : mg "_law_take" = some (.ref fT))
    (Nm : Fun K "_law_number" "_law_number" sNumber fN fdN) (bN : Binds K fdN ["_law_box_here"] []) (gN : mg "_law_number" = some (.ref fN))
    (GV : FnOk P w K mg base CX0 3 fV fdV ["_law_box_here", "_law_fields"] (spValue K)) (gV : mg "_law_value" = some (.ref fV)) (kV : PySem.W.keepIn K (.ref fV) = true) (bV : Binds K fdV ["_law_box_here", "_law_fields"] [])
    (M : Mk K C fB) (FB : FunX K "__init__" "Between.__init__" sBtwInit fB cda cc (.ref D) fdB) (dB : BtwDef K D) (GB : FnOk P w K mg base CX0 3 fB fdB psBtw (spBtw C)) (gB : mg "Between" = some (.ref C)) (c : Cls K C)
    (P1 : PropOf K C "field" p1 f1) (G1 : FnOk P w K mg base CX0 1 f1 fd1 ["self"] (spBtwField C)) (b1 : Binds K fd1 ["self"] []) (P2 : PropOf K C "low" p2 f2) (G2 : FnOk P w K mg base CX0 1 f2 fd2 ["self"] (spBtwLow C)) (b2 : Binds K fd2 ["self"] [])
    (P3 : PropOf K C "high" p3 f3) (G3 : FnOk P w K mg base CX0 1 f3 fd3 ["self"] (spBtwHigh C)) (b3 : Binds K fd3 ["self"] []) (M4 : Meth K C "leaves" f4) (G4 : FnOk P w K mg base CX0 1 f4 fd4 ["self"] (spBtwOne C)) (b4 : Binds K fd4 ["self"] [])
    (M5 : Meth K C "depth" f5) (G5 : FnOk P w K mg base CX0 1 f5 fd5 ["self"] (spBtwOne C)) (b5 : Binds K fd5 ["self"] [])
    (FC : Fun K "__call__" "Between.__call__" (sBtw 4) fC fdC) (bC : Binds K fdC ["self", "key", "value"] []) (cO : CallO K C fC) (GC : FnOk P w K mg base CX0 5 fC fdC ["self", "key", "value"] (spBtwCall C))
    (mr : mg "repr" = none) (mmn : mg "min" = none) (mmx : mg "max" = none) : FnG P w K mg base CX0 6 f fd ["_law_box_here", "_law_fields", "_law_name"] spBR := by
  refine FnG.of_body F scBR (fun vs H Q E h => ?_) (fun cdv A outer s H vs Q E hg hr h => ?_)
  · obtain ⟨b, fl, n, y, z, zs, rfl, _⟩ := h
    rfl
  · obtain ⟨b, fl, n, y, z, zs, rfl, B, hn, hfl, h5, hzs, hy, q⟩ := h
    have hz := hzs z List.mem_cons_self
    have GN : FnOk P w K mg base CX0 2 fN fdN ["_law_box_here"] spNumber := ok_number Nm T bT gT
    obtain ⟨t4, pr4, q4⟩ := br_told (outer := outer) (H := H) (E := E) FC bC cO GC mr hg hr
    obtain ⟨t2, pr2, q2⟩ := br_due (outer := outer) (H := H) (E := E) mr hg hr pr4
    obtain ⟨t0, pr0, q0⟩ := br_turn (outer := outer) (H := H) (E := E) GV gV kV bV hr pr2
    obtain ⟨t6, pr6, q6⟩ := br_loop (outer := outer) (H := H) (E := E) (C := C) GN gN Nm.kp bN hr pr0
    obtain ⟨t5, pr5, q5⟩ := br_look (outer := outer) (H := H) (E := E) c P1 G1 b1 P2 G2 b2 P3 G3 b3 M4 G4 b4 M5 G5 b5 mr hg hr pr6
    obtain ⟨tt, prt, qq⟩ := br_front (outer := outer) (H := H) (E := E) T bT gT Nm bN gN M FB dB GB gB mmn mmx hr pr5
    refine ⟨tt, prt, ?_⟩
    refine qq _ b fl n z y zs H B (by omega) hfl hz fun a p lo hi way H1 A1 m1 m2 m3 B1 k1 => ?_
    refine q5 _ _ _ _ _ _ z a lo hi H1 hz m1 m2 m3 A1 fun H2 s2 => ?_
    refine q6 _ b fl a (n + 7) _ _ _ y z lo hi zs H2 (B1.keep fun o e => s2 _ _ e) (by omega) (s2 _ _ (k1 _ _ (ne_box B hfl) hfl)) (A1.same s2) (fun De' x n' x9 x10 x11 x12 x13 H3 hx B3 hn' hfl3 A3 nx => ?_)
      fun H' B' k' => q H' (B'.mono (by omega)) ((k1.trans (But.same s2)).trans k')
    refine q0 De' b fl n' _ _ _ _ _ _ _ _ _ _ x z zs H3 B3 hn' hfl3 h5 hzs hx fun d kvs H4 ed ok4 B4 k4 => ?_
    refine q2 De' _ _ _ _ _ _ _ _ _ _ z d lo hi (z :: zs) kvs H4 ed ok4 ?_
    refine q4 De' _ _ _ _ _ _ y z a d lo hi (z :: zs) kvs H4 hy (A3.but B3 k4) ed ok4 fun y13 H5 s5 => ?_
    exact nx _ _ _ _ H5 (B4.keep fun o e => s5 _ _ e) (k4.trans (But.same s5))
end
end G
set_option Elab.async false
set_option linter.all false
set_option maxRecDepth 100000
set_option maxHeartbeats 4000000
/-! PI: the law's Named: drawn and made. (The rest of the def is not here yet.) -/
namespace G
open PySem PySem.Spec PyProof.Rows L2 NdefX StX
abbrev sNR : Stmt := topS 55
abbrev nNR : List Str := ["_law_box_here", "_law_fields", "_law_names_here", "_law_some", "_law_leaf", "_law_name"]
theorem scNR : FnScope nNR ["_law_box_here", "_law_fields", "_law_names_here"] (defScope sNR) := ⟨rfl, rfl, rfl, by decide +kernel, rfl, by decide +kernel, by decide +kernel⟩
section
variable {P : Program} {w : World} {K : PySem.W.Frag} {mg : Str → Option Value} {base : Heap}
/-- its first three statements -/
theorem nr_front {fT fM fL C : Addr} {fdT fdM fdL : FuncData} {cdv : Value} {A : Around} {outer : List Env} {s : Shared} {H : Hp} {E : XK} {f : Addr}
    (T : Fun K "_law_take" "_law_take" sTake fT fdT) (bT : Binds K fdT ["_law_box_here", "_law_many"] []) (gT : mg "_law_take" = some (.ref fT))
    (M : Fun K "_law_mixed" "_law_mixed" sMixed fM fdM) (bM : Binds K fdM ["_law_box_here", "_law_some"] []) (gM : mg "_law_mixed" = some (.ref fM))
    (GL : FnOk P w K mg base CX0 5 fL fdL ["_law_some"] (spMkNam C)) (gL : mg "_law_named" = some (.ref fL)) (kL : PySem.W.keepIn K (.ref fL) = true) (bL : Binds K fdL ["_law_some"] []) (ml : mg "len" = none) (mL : mg "list" = none) (mr : mg "range" = none)
    (hr : Room 5 (A.deeper (envOfC "_law_named_right" (defScope sNR) s.heap.objs.size f cdv)))
    {tl : TS} (pl : PSs (cxOf CX0 P w K mg base nNR "_law_named_right" (defScope sNR) f cdv A outer s H E).nox ((defBody sNR).drop 3) tl) :
    ∃ t, PSs (cxOf CX0 P w K mg base nNR "_law_named_right" (defScope sNR) f cdv A outer s H E).nox (defBody sNR) t ∧
      ∀ (De : Ends) (b nl : Addr) (n : Nat) (x1 : Option V) (ns : List Str) (H0 : Hp), BoxAt H0 b n → n ≤ 80000 → H0 nl = some (.lst (ns.map V.str)) → ns.length = 9 → (∀ u ∈ ns, NameZ u) →
        (∀ (p a t : Addr) (zs : List Str) (H' : Hp), H' p = some (.lst (zs.map V.str)) → zs.length ≤ 8 → (∀ u ∈ zs, NameZ u) → NamAt C H' a t zs → BoxAt H' b (n + 12) → But b H0 H' → H0 p = none →
          tl De [some (.ref b), x1, some (.ref nl), some (.ref p), some (.ref a), none] H') →
        t De [some (.ref b), x1, some (.ref nl), none, none, none] H0 := by
  have GT : FnOk P w K mg base CX0 1 fT fdT ["_law_box_here", "_law_many"] spTake := ok_take T
  have GM : FnOk P w K mg base CX0 2 fM fdM ["_law_box_here", "_law_some"] (spMixed K) := ok_mixed M T bT gT ml mL
  have hr1 := hr.mono (show 1 ≤ 5 by decide)
  have hr2 := hr.mono (show 2 ≤ 5 by decide)
  -- the third statement, and the rest
  obtain ⟨t3, p3, q3⟩ : ∃ t, PSs (cxOf CX0 P w K mg base nNR "_law_named_right" (defScope sNR) f cdv A outer s H E).nox ((defBody sNR).drop 2) t ∧
      ∀ (De : Ends) (x0 x1 x2 : Option V) (p : Addr) (zs : List Str) (H0 : Hp), H0 p = some (.lst (zs.map V.str)) → zs.length ≤ 8 → (∀ u ∈ zs, NameZ u) →
        (∀ (a t : Addr) (H' : Hp), NamAt C H' a t zs → Same H0 H' → tl De [x0, x1, x2, some (.ref p), some (.ref a), none] H') → t De [x0, x1, x2, some (.ref p), none, none] H0 := by
    refine ⟨_, pss_cons (ps_set (i := 4) scNR.nd rfl (.inl rfl) (pe_call GL hr rfl gL kL bL .nil pass0 (pa_cons (pv 3) pa_nil))) pl, ?_⟩
    intro De x0 x1 x2 p zs H0 hp h8 hz q
    exact ⟨_, rfl, p, zs, rfl, hp, h8, hz, fun a t H' nm sm => q a t H' nm sm⟩
  refine ⟨_, pss_cons (ps_set (i := 3) scNR.nd rfl (.inl rfl) (pe_slice sl_list (pe_call GM hr2 rfl gM M.kp bM .nil pass0 (pa_cons (pv 0) (pa_cons (pv 2) pa_nil))) po_none (po_some (pe_call GT hr1 rfl gT T.kp bT .nil pass0 (pa_cons (pv 0) (pa_cons pe_int pa_nil))))))
    (pss_cons (ps_if (PW.pt (pw_and (pt_cmpR op_in_rng (pe_callB call_len_seq (by rfl) ml PySem.boot_len (pa_cons (pv 3) pa_nil)) (pe_callTy cr_range2 (by rfl) mr (by decide +kernel) (pa_cons pe_int (pa_cons pe_int pa_nil))) (by rfl))
        (pw_and1 (pt_cmpR op_eq (pe_call GT hr1 rfl gT T.kp bT .nil pass0 (pa_cons (pv 0) (pa_cons pe_int pa_nil))) pe_int (nomark _)))))
      (pss_one (ps_expr (pe_bm PySem.F.plainAttrs_list PySem.F.slot_list_append PySem.F.type_list_append mt_append (pv 3) (pa_cons (pe_ix ix_list (pv 3)
        (pe_call GT hr1 rfl gT T.kp bT .nil pass0 (pa_cons (pv 0) (pa_cons (pe_callB call_len_seq (by rfl) ml PySem.boot_len (pa_cons (pv 3) pa_nil)) pa_nil))) (fun _ _ => rfl)) pa_nil)))) pss_nil) p3), ?_⟩
  intro De b nl n x1 ns H0 B hn hnl h9 hns q
  have bnl : nl ≠ b := by
    match ns, h9 with
    | _ :: _, _ => exact ne_box B hnl
  refine ⟨_, rfl, _, rfl, b, nl, n, ns.map fun z => (V.str z, PyData.str z), rfl, B, by rw [List.length_map]; omega, .inl (.of (by rw [hnl, List.map_map]; rfl)), (fun x hx => ?_), fun m H1 qs pm nm em B1 k1 => ?_⟩
  · obtain ⟨y, hyy, rfl⟩ := List.mem_map.mp hx
    exact ⟨(hns y hyy).1.lay, fun H' _ => .str y⟩
  obtain ⟨ys, y1, y2, y3⟩ := texts_of pm
  rw [y1] at em
  rw [List.length_map, h9] at B1
  refine ⟨_, rfl, b, 9, n + 9, rfl, B1, by omega, by decide, by decide, fun r H2 r0 r1 B2 k2 => ?_⟩
  obtain ⟨j, rfl, hj⟩ := draw_at (n := 9) r0 r1 rfl
  have nmb := box_ne B nm
  have em2 := k2 _ _ nmb em
  refine ⟨_, rfl, m, _, rfl, .of em2, fun p hp => ?_⟩
  rw [cutV_first _ j (by rw [List.length_map]; omega), ← List.map_take]
  have k12 : But b H0 H2 := k1.trans k2
  have npb := box_ne B2 hp
  have fp : H0 p = none := free_of k12 npb hp
  have zl : (ys.take j).length = j := by
    rw [List.length_take]
    omega
  have zn : ∀ u ∈ ys.take j, NameZ u := fun u hu => hns u (y3 u (List.mem_of_mem_take hu))
  generalize ys.take j = zs at zl zn ⊢
  have B3 : BoxAt (upd H2 p (.lst (zs.map V.str))) b (n + 10) := box_new B2 hp
  have k3 : But b H0 (upd H2 p (.lst (zs.map V.str))) := but_upd k12 fp
  have e3 : upd H2 p (.lst (zs.map V.str)) p = some (.lst (zs.map V.str)) := upd_same
  generalize upd H2 p (.lst (zs.map V.str)) = H3 at B3 k3 e3 ⊢
  have go : ∀ (zs' : List Str) (H' : Hp), H' p = some (.lst (zs'.map V.str)) → zs'.length ≤ 8 → (∀ u ∈ zs', NameZ u) → BoxAt H' b (n + 12) → But b H0 H' → t3 De [some (.ref b), x1, some (.ref nl), some (.ref p), none, none] H' := fun zs' H' e' l' z' B' k' =>
    q3 De _ _ _ p zs' H' e' l' z' fun a t H'' na sm => q p a t zs' H'' (sm _ _ e') l' z' na (B'.keep fun o e => sm _ _ e) (k'.trans (But.same sm)) fp
  refine ⟨_, rfl, p, _, rfl, .inl (.of e3), _, _, rfl, fun u hu => ⟨_, u, _, _, rfl, rfl, upd_same, _, rfl, ?_⟩⟩
  have npu : p ≠ u := ne_of_none e3 hu
  have e4 : upd H3 u (.rng 1 8) p = some (.lst (zs.map V.str)) := (upd_ne npu).trans e3
  have B4 : BoxAt (upd H3 u (.rng 1 8)) b (n + 10) := box_new B3 hu
  have k4 : But b H0 (upd H3 u (.rng 1 8)) := k3.trans (But.new hu)
  generalize upd H3 u (.rng 1 8) = H4 at e4 B4 k4 ⊢
  refine ite2 (fun hin => ?_) (fun _ => go zs H4 e4 (by omega) zn (B4.mono (by omega)) k4)
  have hin2 := of_decide_eq_true hin
  rw [List.length_map] at hin2
  refine ⟨_, rfl, b, 3, n + 10, rfl, B4, by omega, by decide, by decide, fun r3 H5 _ _ B5 k5 => ⟨rfl, _, rfl, ?_⟩⟩
  have e5 := k5 _ _ npb e4
  refine ite2 (fun _ => ?_) (fun _ => go zs H5 e5 (by omega) zn (B5.mono (by omega)) (k4.trans k5))
  refine ⟨_, rfl, .inl ⟨rfl, _, .of e5⟩, _, rfl, _, rfl, _, rfl, p, _, rfl, .inl (.of e5), b, _, n + 11, rfl, B5, by omega, ?_, ?_, fun r6 H6 g0 g1 B6 k6 => ?_⟩
  · rw [List.length_map]
    omega
  · rw [List.length_map]
    omega
  · obtain ⟨i, rfl, hi⟩ := draw_at (n := zs.length) g0 g1 (by rw [List.length_map])
    have e6 := k6 _ _ npb e5
    refine ⟨p, _, _, .str zs[i], rfl, rfl, .of e6, atI_nat (by rw [List.getElem?_map, List.getElem?_eq_getElem hi] <;> rfl), p, _, _, rfl, rfl, e6, ?_, ?_⟩
    · rw [List.length_map]
      exact small1000 (by omega)
    · refine go (zs ++ [zs[i]]) _ ?_ ?_ (fun v hv => ?_) (box_upd B6 npb) (but_upd ((k4.trans k5).trans k6) fp)
      · rw [upd_same, List.map_append]
        rfl
      · rw [List.length_append]
        show zs.length + 1 ≤ 8
        omega
      · rcases List.mem_append.mp hv with hv | hv
        · exact zn v hv
        · rw [List.mem_singleton.mp hv]
          exact zn _ (List.getElem_mem hi)
end
end G
set_option Elab.async false
set_option linter.all false
set_option maxRecDepth 100000
set_option maxHeartbeats 4000000
/-! PJ: _law_named_right: the rest. -/
namespace G
open PySem PySem.Spec PyProof.Rows L2 NdefX StX
theorem dp_strs {K : PySem.W.Frag} {H : Hp} : ∀ zs : List Str, DpAll K H (zs.map V.str) (zs.map PyData.str)
  | [] => .nil
  | z :: zs => .cons (.str z) (dp_strs zs)
theorem flat_strs (zs : List Str) : (zs.map V.str).all flatV = true := by
  rw [List.all_eq_true]
  intro x hx
  obtain ⟨z, _, rfl⟩ := List.mem_map.mp hx
  rfl
theorem NamAt.but {C a t b : Addr} {H H' : Hp} {n : Nat} {zs : List Str} (h : NamAt C H a t zs) (B : BoxAt H b n) (k : But b H H') : NamAt C H' a t zs := by
  obtain ⟨dx, e1, e2⟩ := h
  obtain ⟨_, _, _, eb, _⟩ := B
  refine ⟨dx, k _ _ (fun q => ?_) e1, k _ _ (fun q => ?_) e2⟩
  · rw [q, eb] at e1
    cases e1
  · rw [q, eb] at e2
    cases e2
section
variable {P : Program} {w : World} {K : PySem.W.Frag} {mg : Str → Option Value} {base : Heap}
/-- the fourth statement -/
theorem nr_look {f1 f4 f5 p1 C : Addr} {fd1 fd4 fd5 : FuncData} {cdv : Value} {A : Around} {outer : List Env} {s : Shared} {H : Hp} {E : XK} {f : Addr} (c : Cls K C)
    (P1 : PropOf K C "accepted" p1 f1) (G1 : FnOk P w K mg base CX0 1 f1 fd1 ["self"] (spNamAcc C)) (b1 : Binds K fd1 ["self"] []) (M4 : Meth K C "leaves" f4) (G4 : FnOk P w K mg base CX0 1 f4 fd4 ["self"] (spNamOne C)) (b4 : Binds K fd4 ["self"] [])
    (M5 : Meth K C "depth" f5) (G5 : FnOk P w K mg base CX0 1 f5 fd5 ["self"] (spNamOne C)) (b5 : Binds K fd5 ["self"] []) (mr : mg "repr" = none) (mt : mg "tuple" = none)
    (hg : (A.deeper (envOfC "_law_named_right" (defScope sNR) s.heap.objs.size f cdv)).guards = some []) (hr : Room 5 (A.deeper (envOfC "_law_named_right" (defScope sNR) s.heap.objs.size f cdv)))
    {tl : TS} (pl : PSs (cxOf CX0 P w K mg base nNR "_law_named_right" (defScope sNR) f cdv A outer s H E).nox ((defBody sNR).drop 4) tl) :
    ∃ t, PSs (cxOf CX0 P w K mg base nNR "_law_named_right" (defScope sNR) f cdv A outer s H E).nox ((defBody sNR).drop 3) t ∧
      ∀ (De : Ends) (x0 x1 x2 : Option V) (p a tt : Addr) (zs : List Str) (H0 : Hp), H0 p = some (.lst (zs.map V.str)) → (∀ u ∈ zs, NameZ u) → NamAt C H0 a tt zs →
        (∀ H', Same H0 H' → tl De [x0, x1, x2, some (.ref p), some (.ref a), none] H') → t De [x0, x1, x2, some (.ref p), some (.ref a), none] H0 := by
  have hr1 := hr.mono (show 1 ≤ 5 by decide)
  have hr2 := hr.mono (show 1 + 1 ≤ 5 by decide)
  refine ⟨_, pss_cons (ps_if (PW.pt (pw_or (pt_cmpR (op_neD hr.units) (pe_prop (pv 4) c P1 G1 hr2 b1 .nil pass0 rfl) (pe_callTy call_tuple_of (by rfl) mt (by decide +kernel) (pa_cons (pv 3) pa_nil)) (nomark _))
      (pw_or1 (pt_cmpR op_ne (pe_callB (call_repr hg hr.units) (by rfl) mr (by decide +kernel) (pa_cons (pe_lst (pa_cons (pe_meth0 (pv 4) c M4 G4 hr1 b4 .nil pass0) (pa_cons (pe_meth0 (pv 4) c M5 G5 hr1 b5 .nil pass0) pa_nil))) pa_nil)) pe_str (nomark _)))))
    (pss_one (ps_ret pe_bl)) pss_nil) pl, ?_⟩
  intro De x0 x1 x2 p a tt zs H0 hp hz hN q
  obtain ⟨dx, ea, et⟩ := id hN
  refine ⟨_, rfl, a, dx, _, rfl, ea, a, tt, zs, rfl, hN, _, rfl, p, _, rfl, .inl ⟨.of hp, fun l hl => ?_⟩⟩
  have s1 : Same H0 (upd H0 l (.tup (zs.map V.str))) := Same.new hl
  have sh : SeqAt.shaped (.tuple (zs.map PyData.str)) = true := lay_list (ds := zs.map PyData.str) fun d hd => by
    obtain ⟨u, hu, rfl⟩ := List.mem_map.mp hd
    exact (hz u hu).1.lay
  refine ⟨.tuple (zs.map PyData.str), .tuple (zs.map PyData.str), .tup (.of (s1 _ _ et)) (dp_strs zs), .tup (.of upd_same) (dp_strs zs), sh, sh, _, rfl, ?_⟩
  rw [SeqAt.eqv_refl _ (SeqAt.canLay_of_shaped sh)]
  refine iteF ?_
  generalize upd H0 l (.tup (zs.map V.str)) = H1 at s1 ⊢
  refine ⟨_, rfl, a, dx, _, rfl, s1 _ _ ea, rfl, a, tt, zs, rfl, hN.same s1, _, rfl, a, dx, _, rfl, s1 _ _ ea, rfl, a, tt, zs, rfl, hN.same s1, (by show 2 ≤ sizeLine; exact small_size (by decide)), fun p2 hp2 => ?_⟩
  refine ⟨p2, _, [.int 1, .int 1], rfl, upd_same, .cons (.int 1) (.cons (.int 1) .nil), by decide +kernel, (fun hh => by simp [PyData.hasDictAll, PyData.hasDict] at hh), by decide, small_size (by decide), rfl, _, rfl, ?_⟩
  rw [show listText (PyData.shownAll [.int 1, .int 1]) = ("[1, 1]" : Str) by decide +kernel, decide_eq_true rfl]
  exact iteF (q _ (s1.trans (Same.new hp2)))
end
end G
set_option Elab.async false
set_option linter.all false
set_option maxRecDepth 100000
set_option maxHeartbeats 4000000
/-! PK: _law_named_right keeps its promise. -/
namespace G
open PySem PySem.Spec PyProof.Rows L2 NdefX StX
def spNR : Sp := fun vs H Q _ => ∃ (b fl nl : Addr) (n : Nat) (fs ns : List Str), vs = [.ref b, .ref fl, .ref nl] ∧ BoxAt H b n ∧ n ≤ 70000 ∧ H fl = some (.lst (fs.map V.str)) ∧ 1 ≤ fs.length ∧ fs.length ≤ 100 ∧ (∀ u ∈ fs, NameZ u) ∧
  H nl = some (.lst (ns.map V.str)) ∧ ns.length = 9 ∧ (∀ u ∈ ns, NameZ u) ∧ fl ≠ b ∧ nl ≠ b ∧ ∀ H', BoxAt H' b (n + 3000) → But b H H' → Q (.bl true) H'
theorem nameA1 : NameZ "a" := ⟨fun c hc => by
  have e : cs ("a" : Str) = [97] := rfl
  rw [e] at hc
  rw [List.mem_singleton.mp hc]
  decide, by decide, by decide⟩
theorem nameZ8 : NameZ "zzzzzzzz" := ⟨fun c hc => by
  have e : cs ("zzzzzzzz" : Str) = List.replicate 8 122 := rfl
  rw [e] at hc
  rw [(List.mem_replicate.mp hc).2]
  decide, by decide, by decide⟩
theorem ne_same {A B : Prop} {x y : V} (e : x = y) (h : B) : if (!decide (x = y)) = true then A else B := by
  subst e
  rw [decide_eq_true rfl]
  exact iteF h
section
variable {P : Program} {w : World} {K : PySem.W.Frag} {mg : Str → Option Value} {base : Heap}
/-- the loop, and the end -/
theorem nr_loop {fV fC C : Addr} {fdV fdC : FuncData} {cdv : Value} {A : Around} {outer : List Env} {s : Shared} {H : Hp} {E : XK} {f : Addr}
    (GV : FnOk P w K mg base CX0 3 fV fdV ["_law_box_here", "_law_fields"] (spValue K)) (gV : mg "_law_value" = some (.ref fV)) (kV : PySem.W.keepIn K (.ref fV) = true) (bV : Binds K fdV ["_law_box_here", "_law_fields"] [])
    (bC : Binds K fdC ["self", "key", "value"] []) (cO : CallO K C fC) (GC : FnOk P w K mg base CX0 5 fC fdC ["self", "key", "value"] (spNamCall C)) (mr : mg "repr" = none)
    (hr : Room 5 (A.deeper (envOfC "_law_named_right" (defScope sNR) s.heap.objs.size f cdv))) :
    ∃ t, PSs (cxOf CX0 P w K mg base nNR "_law_named_right" (defScope sNR) f cdv A outer s H E).nox ((defBody sNR).drop 4) t ∧
      ∀ (De : Ends) (b fl nl p a tt : Addr) (n : Nat) (fs ns zs : List Str) (H0 : Hp), BoxAt H0 b n → n ≤ 75000 → H0 fl = some (.lst (fs.map V.str)) → 1 ≤ fs.length → fs.length ≤ 100 → (∀ u ∈ fs, NameZ u) → H0 nl = some (.lst (ns.map V.str)) → ns.length = 9 → (∀ u ∈ ns, NameZ u) →
        H0 p = some (.lst (zs.map V.str)) → NamAt C H0 a tt zs → fl ≠ b → p ≠ b → (∀ H', BoxAt H' b (n + 2900) → But b H0 H' → De.rt (.bl true) H') →
        t De [some (.ref b), some (.ref fl), some (.ref nl), some (.ref p), some (.ref a), none] H0 := by
  refine ⟨_, pss_cons (ps_for PassesOwn.never rfl (pi_list (pe_op op_cat (pv 2) (pe_lst (pa_cons pe_str (pa_cons pe_str pa_nil))))) (pg_name (i := 5) scNR.nd rfl (.inl rfl))
      (pss_one (ps_if (pt_cmpR op_ne (pe_callB call_reprB (by rfl) mr (by decide +kernel) (pa_cons (pe_callO (pv 4) cO (GC.raw bC .nil) hr pass0 (pa_cons (pv 5) (pa_cons (pe_call GV (hr.mono (by decide)) rfl gV kV bV .nil pass0 (pa_cons (pv 0) (pa_cons (pv 1) pa_nil))) pa_nil))) pa_nil))
        (pe_callB call_reprB (by rfl) mr (by decide +kernel) (pa_cons (pe_cmpR op_in_seq (pv 5) (pv 3) (by rfl)) pa_nil)) (nomark _)) (pss_one (ps_ret pe_bl)) pss_nil)))
    (pss_one (ps_ret pe_bl)), ?_⟩
  intro De b fl nl p a tt n fs ns zs H0 B hn hfl f1 f2 hfs hnl n9 hns hp hN nfb npb q
  refine ⟨_, rfl, (by show 2 ≤ sizeLine; exact small_size (by decide)), fun u hu => ⟨nl, u, _, _, rfl, rfl, (upd_ne (ne_of_none hnl hu)).trans hnl, upd_same, ?_, fun v hv => ?_⟩⟩
  · rw [List.length_map]
    show ns.length + 2 ≤ sizeLine
    exact small_size (by omega)
  have e2 : ns.map V.str ++ [.str "a", .str "zzzzzzzz"] = (ns ++ [("a" : Str), ("zzzzzzzz" : Str)]).map V.str := by
    rw [List.map_append]
    rfl
  rw [e2]
  have s1 : Same H0 (upd (upd H0 u (.lst [.str "a", .str "zzzzzzzz"])) v (.lst ((ns ++ [("a" : Str), ("zzzzzzzz" : Str)]).map V.str))) := (Same.new hu).trans (Same.new hv)
  have nvb : v ≠ b := box_ne (box_new B hu) hv
  refine ⟨v, rfl, ⟨_, .of upd_same⟩, ?_⟩
  have names : ∀ y ∈ ns ++ [("a" : Str), ("zzzzzzzz" : Str)], NameZ y := fun y hy => by
    rcases List.mem_append.mp hy with hy | hy
    · exact hns y hy
    · rcases List.mem_cons.mp hy with rfl | hy
      · exact nameA1
      · rw [List.mem_singleton.mp hy]
        exact nameZ8
  have ln : (ns ++ [("a" : Str), ("zzzzzzzz" : Str)]).length = 11 := by
    rw [List.length_append, n9]
    rfl
  generalize ns ++ [("a" : Str), ("zzzzzzzz" : Str)] = ks at names ln s1 ⊢
  refine for_list (xs := ks.map V.str) (fun i σ H2 => i ≤ 11 ∧ ∃ x5 : Option V, σ = [some (.ref b), some (.ref fl), some (.ref nl), some (.ref p), some (.ref a), x5] ∧ H2 v = some (.lst (ks.map V.str)) ∧ BoxAt H2 b (n + 219 * i) ∧ But b H0 H2) ?_ ?_ ?_ ?_
  · exact ⟨Nat.zero_le _, none, rfl, upd_same, B.keep fun o e => s1 _ _ e, But.same s1⟩
  · rintro i σ H2 _ ⟨_, x5, rfl, ev, _, _⟩
    exact .of ev
  · rintro i x σ H2 hx ⟨_, x5, rfl, ev, B2, k2⟩
    have hi : i < 11 := by
      have := (List.getElem?_eq_some_iff.mp hx).1
      rw [List.length_map, ln] at this
      exact this
    rw [List.getElem?_map] at hx
    obtain ⟨y, hy, rfl⟩ := Option.map_eq_some_iff.mp hx
    have ny := names y (List.mem_of_getElem? hy)
    refine ⟨_, rfl, a, rfl, _, rfl, _, rfl, _, rfl, b, fl, n + 219 * i, fs, rfl, B2, by omega, k2 _ _ nfb hfl, hfs, f1, f2, nfb, fun d H3 kvs nd ed v1 v2 v3 v4 B3 k3 => ?_⟩
    have N3 := (hN.but B k2).but B2 k3
    obtain ⟨dx, ea, et⟩ := id N3
    refine ⟨.inr ⟨dx, _, ea⟩, a, d, tt, y, zs, fs, kvs, rfl, N3, ny, ed, ⟨hfs, v1, v2, v3⟩, fun H4 s4 => ⟨_, rfl, ?_⟩⟩
    have k4 : But b H0 H4 := (k2.trans k3).trans (But.same s4)
    refine ⟨_, rfl, _, rfl, p, _, rfl, .inl (.of (k4 _ _ npb hp)), rfl, flat_strs zs, _, rfl, rfl, _, rfl, ?_⟩
    exact ne_same rfl ⟨hi, some (.str y), rfl, s4 _ _ (k3 _ _ nvb ev), (B3.keep fun o e => s4 _ _ e).mono (by omega), k4⟩
  · rintro σ H2 ⟨_, x5, rfl, ev, B2, k2⟩
    rw [List.length_map, ln] at B2
    exact q H2 (B2.mono (by omega)) k2
end
end G
set_option Elab.async false
set_option linter.all false
set_option maxRecDepth 100000
set_option maxHeartbeats 4000000
/-! PL: _law_named_right, whole. -/
namespace G
open PySem PySem.Spec PyProof.Rows L2 NdefX StX
section
variable {P : Program} {w : World} {K : PySem.W.Frag} {mg : Str → Option Value} {base : Heap}
theorem ok_nr {f fT fM fL fV fC f1 f4 f5 p1 C : Addr} {fd fdT fdM fdL fdV fdC fd1 fd4 fd5 : FuncData} (F : Fun K "_law_named_right" "_law_named_right" sNR f fd)
    (T : Fun K "_law_take" "_law_take" sTake fT fdT) (bT : Binds K fdT ["_law_box_here", "_law_many"] []) (gT : mg "_law_take" = some (.ref fT))
    (M : Fun K "_law_mixed" "_law_mixed" sMixed fM fdM) (bM : Binds K fdM ["_law_box_here", "_law_some"] []) (gM : mg "_law_mixed" = some (.ref fM))
    (GL : FnOk P w K mg base CX0 5 fL fdL ["_law_some"] (spMkNam C)) (gL : mg "_law_named" = some (.ref fL)) (kL : PySem.W.keepIn K (.ref fL) = true) (bL : Binds K fdL ["_law_some"] [])
    (GV : FnOk P w K mg base CX0 3 fV fdV ["_law_box_here", "_law_fields"] (spValue K)) (gV : mg "_law_value" = some (.ref fV)) (kV : PySem.W.keepIn K (.ref fV) = true) (bV : Binds K fdV ["_law_box_here", "_law_fields"] []) (c : Cls K C)
    (P1 : PropOf K C "accepted" p1 f1) (G1 : FnOk P w K mg base CX0 1 f1 fd1 ["self"] (spNamAcc C)) (b1 : Binds K fd1 ["self"] []) (M4 : Meth K C "leaves" f4) (G4 : FnOk P w K mg base CX0 1 f4 fd4 ["self"] (spNamOne C)) (b4 : Binds K fd4 ["self"] [])
    (M5 : Meth K C "depth" f5) (G5 : FnOk P w K mg base CX0 1 f5 fd5 ["self"] (spNamOne C)) (b5 : Binds K fd5 ["self"] []) (bC : Binds K fdC ["self", "key", "value"] []) (cO : CallO K C fC) (GC : FnOk P w K mg base CX0 5 fC fdC ["self", "key", "value"] (spNamCall C))
    (mr : mg "repr" = none) (mt : mg "tuple" = none) (ml : mg "len" = none) (mL : mg "list" = none) (mra : mg "range" = none) : FnG P w K mg base CX0 6 f fd ["_law_box_here", "_law_fields", "_law_names_here"] spNR := by
  refine FnG.of_body F scNR (fun vs H Q E h => ?_) (fun cdv A outer s H vs Q E hg hr h => ?_)
  · obtain ⟨b, fl, nl, n, fs, ns, rfl, _⟩ := h
    rfl
  · obtain ⟨b, fl, nl, n, fs, ns, rfl, B, hn, hfl, f1', f2', hfs, hnl, n9, hns, nfb, nnb, q⟩ := h
    obtain ⟨t4, pr4, q4⟩ := nr_loop (outer := outer) (H := H) (E := E) (C := C) GV gV kV bV bC cO GC mr hr
    obtain ⟨t3, pr3, q3⟩ := nr_look (outer := outer) (H := H) (E := E) c P1 G1 b1 M4 G4 b4 M5 G5 b5 mr mt hg hr pr4
    obtain ⟨tt, prt, qq⟩ := nr_front (outer := outer) (H := H) (E := E) T bT gT M bM gM GL gL kL bL ml mL mra hr pr3
    refine ⟨tt, prt, ?_⟩
    refine qq _ b nl n _ ns H B (by omega) hnl n9 hns fun p a t zs H1 ep l8 hz hN B1 k1 fp => ?_
    refine q3 _ _ _ _ p a t zs H1 ep hz hN fun H2 s2 => ?_
    have k2 : But b H H2 := k1.trans (But.same s2)
    refine q4 _ b fl nl p a t (n + 12) fs ns zs H2 (B1.keep fun o e => s2 _ _ e) (by omega) (k2 _ _ nfb hfl) f1' f2' hfs (k2 _ _ nnb hnl) n9 hns (s2 _ _ ep) (hN.same s2) nfb (box_ne B fp) fun H' B' k' => ?_
    exact q H' (B'.mono (by omega)) (k2.trans k')
end
end G
set_option Elab.async false
set_option linter.all false
set_option maxRecDepth 100000
set_option maxHeartbeats 4000000
/-! PM: the law. -/
namespace G
open PySem PySem.Spec PyProof.Rows L2 NdefX StX
abbrev sLaw : Stmt := topS 56
abbrev nLaw : List Str := ["_law_script", "_law_k", "_law_box_here", "_law_names_here", "_law_fields"]
theorem scLaw : FnScope nLaw ["_law_script"] (defScope sLaw) := ⟨rfl, rfl, rfl, by decide +kernel, rfl, by decide +kernel, by decide +kernel⟩
def spLaw (K : PySem.W.Frag) : Sp := fun vs H Q _ => ∃ (a : Addr) (ns : List Int), vs = [.ref a] ∧ SqL K H a (ns.map V.int) ∧ ns.length ≤ 63 ∧ ∀ H', Q (.bl true) H'
theorem sqL_same {K : PySem.W.Frag} {H H' : Hp} {a : Addr} {xs : List V} (h : SqL K H a xs) (s : Same H H') : SqL K H' a xs := by
  rcases h with (h | ⟨o, h⟩) | h
  · exact .inl (.inl (s _ _ h))
  · exact .inl (.inr ⟨o, s _ _ h⟩)
  · exact .inr h
theorem same_but {b : Addr} {H H1 H2 : Hp} (s : Same H H1) (n : H b = none) (k : But b H1 H2) : Same H H2 := fun c o e => k c o (ne_of_none e n) (s c o e)
section
variable {P : Program} {w : World} {K : PySem.W.Frag} {mg : Str → Option Value} {base : Heap}
theorem ok_law {f fc fb fn fB fN : Addr} {fd fdc fdb fdn fdB fdN : FuncData} (F : Fun K "law" "law" sLaw f fd)
    (Fc : Fun K "_law_cell" "_law_cell" sCell fc fdc) (bc : Binds K fdc ["_law_script", "_law_k"] []) (gc : mg "_law_cell" = some (.ref fc))
    (Fb : Fun K "_law_box" "_law_box" sBox fb fdb) (bb : Binds K fdb ["_law_cell_here"] []) (gb : mg "_law_box" = some (.ref fb))
    (kn : PySem.W.keepIn K (.ref fn) = true) (bn : Binds K fdn ["_law_box_here", "_law_many"] []) (gn : mg "_law_names" = some (.ref fn)) (Gn : FnOk P w K mg base CX0 3 fn fdn ["_law_box_here", "_law_many"] spNames)
    (kB : PySem.W.keepIn K (.ref fB) = true) (bB : Binds K fdB ["_law_box_here", "_law_fields", "_law_name"] []) (gB : mg "_law_between_right" = some (.ref fB)) (GB : FnG P w K mg base CX0 6 fB fdB ["_law_box_here", "_law_fields", "_law_name"] spBR)
    (kN : PySem.W.keepIn K (.ref fN) = true) (bN : Binds K fdN ["_law_box_here", "_law_fields", "_law_names_here"] []) (gN : mg "_law_named_right" = some (.ref fN)) (GN : FnG P w K mg base CX0 6 fN fdN ["_law_box_here", "_law_fields", "_law_names_here"] spNR)
    (mr : mg "range" = none) (mmx : mg "max" = none) (mmn : mg "min" = none) (ml : mg "len" = none) : FnG P w K mg base CX0 7 f fd ["_law_script"] (spLaw K) := by
  have Gc : FnOk P w K mg base CX0 1 fc fdc ["_law_script", "_law_k"] (spCell' K) := ok_cell Fc ml
  have Gb : FnOk P w K mg base CX0 1 fb fdb ["_law_cell_here"] spBox := ok_box Fb mmx
  refine FnG.of_body F scLaw (fun vs H Q E h => ?_) (fun cdv A outer s H vs Q E hg hr h => ?_)
  · obtain ⟨a, ns, rfl, _⟩ := h
    rfl
  · obtain ⟨a, ns, rfl, hS, hl, q⟩ := h
    have hr1 := hr.mono (show 1 ≤ 6 by decide)
    have hr3 := hr.mono (show 3 ≤ 6 by decide)
    refine ⟨_, pss_cons (ps_for PassesOwn.never rfl (pi_range1 rfl mr (pa_cons (pe_callB (call_max2 rfl) (by rfl) mmx (by decide +kernel) (pa_cons pe_int (pa_cons (pe_callB (call_min2 rfl) (by rfl) mmn (by decide +kernel)
          (pa_cons (pe_callB call_len_seq (by rfl) ml PySem.boot_len (pa_cons (pv 0) pa_nil)) (pa_cons pe_int pa_nil))) pa_nil))) pa_nil)) (pg_name (i := 1) scLaw.nd rfl (.inl rfl))
        (pss_cons (ps_set (i := 2) scLaw.nd rfl (.inl rfl) (pe_call Gb hr1 rfl gb Fb.kp bb .nil pass0 (pa_cons (pe_call Gc hr1 rfl gc Fc.kp bc .nil pass0 (pa_cons (pv 0) (pa_cons (pv 1) pa_nil))) pa_nil)))
        (pss_cons (ps_set (i := 3) scLaw.nd rfl (.inl rfl) (pe_call Gn hr3 rfl gn kn bn .nil pass0 (pa_cons (pv 2) (pa_cons pe_int pa_nil))))
        (pss_cons (ps_set (i := 4) scLaw.nd rfl (.inl rfl) (pe_call Gn hr3 rfl gn kn bn .nil pass0 (pa_cons (pv 2) (pa_cons pe_int pa_nil))))
        (pss_one (ps_if (PW.pt (pw_or (pt_not (pt_val (pe_callG GB hg hr rfl gB kB bB .nil pass0 (pa_cons (pv 2) (pa_cons (pv 4) (pa_cons (pe_ix ix_list (pv 3) pe_int (fun _ _ => rfl)) pa_nil))))))
          (pw_or1 (pt_not (pt_val (pe_callG GN hg hr rfl gN kN bN .nil pass0 (pa_cons (pv 2) (pa_cons (pv 4) (pa_cons (pv 3) pa_nil))))))))) (pss_one (ps_ret pe_bl)) pss_nil))))))
      (pss_one (ps_ret pe_bl)), ?_⟩
    refine ⟨_, rfl, a, _, rfl, .inl hS, _, _, rfl, _, _, rfl, ?_⟩
    generalize hm : (if (if (8 : Int) < ((ns.map V.int).length : Int) then (8 : Int) else ((ns.map V.int).length : Int)) > 2 then (if (8 : Int) < ((ns.map V.int).length : Int) then (8 : Int) else ((ns.map V.int).length : Int)) else 2) = m
    have hm8 : 0 ≤ m ∧ m ≤ 8 := by
      rw [← hm]
      split <;> split at * <;> omega
    refine ⟨m, rfl, by omega, by omega, ?_⟩
    refine for_range (lo := 0) (n := m.toNat) (fun i σ H' => Same H H' ∧ ∃ x1 x2 x3 x4 : Option V, σ = [some (.ref a), x1, x2, x3, x4]) ?_ ?_ ?_
    · exact ⟨Same.refl H, none, none, none, none, rfl⟩
    · rintro i σ H1 hi ⟨s1, x1, x2, x3, x4, rfl⟩
      refine ⟨_, rfl, _, rfl, a, ns, 0 + i, rfl, sqL_same hS s1, by omega, by omega, fun cell => ⟨cell, rfl, fun b H2 nb s2 B2 => ?_⟩⟩
      refine ⟨_, rfl, b, 9, 0, rfl, B2, by decide, by decide, fun p H3 zs l9 zn np e3 B3 k3 => ?_⟩
      refine ⟨_, rfl, b, 6, 0 + 11 + 9, rfl, B3, by decide, by decide, fun p2 H4 ys l6 yn np2 e4 B4 k4 => ?_⟩
      have npb := box_ne B2 np
      have npb2 := box_ne B3 np2
      have e34 := k4 _ _ npb e3
      obtain ⟨z0, zs', rfl⟩ : ∃ z0 zs', zs = z0 :: zs' := by
        cases zs with
        | nil => cases l9
        | cons x r => exact ⟨x, r, rfl⟩
      obtain ⟨y0, ys', rfl⟩ : ∃ y0 ys', ys = y0 :: ys' := by
        cases ys with
        | nil => cases l6
        | cons x r => exact ⟨x, r, rfl⟩
      refine ⟨_, rfl, _, rfl, _, rfl, p, (z0 :: zs').map V.str, ((0 : Nat) : Int), .str z0, rfl, rfl, .of e34, atI_nat (j := 0) rfl, ?_⟩
      refine ⟨b, p2, 0 + 11 + 9 + 11 + 6, z0, y0, ys', rfl, B4, by decide, e4, by simpa using l6, yn, zn z0 List.mem_cons_self, fun H5 B5 k5 => ⟨_, rfl, iteF ?_⟩⟩
      refine ⟨_, rfl, _, rfl, _, rfl, b, p2, p, 0 + 11 + 9 + 11 + 6 + 2000, y0 :: ys', z0 :: zs', rfl, B5, by decide, k5 _ _ npb2 e4, by rw [l6]; decide, by rw [l6]; decide, yn, k5 _ _ npb e34, l9, zn, npb2, npb, fun H6 B6 k6 => ⟨_, rfl, iteF ?_⟩⟩
      have nbH : H b = none := s1.free nb
      have s12 : Same H H2 := s1.trans s2
      exact ⟨same_but (same_but (same_but (same_but s12 nbH k3) nbH k4) nbH k5) nbH k6, _, _, _, _, rfl⟩
    · rintro σ H1 ⟨s1, x1, x2, x3, x4, rfl⟩
      exact q H1
end
end G
set_option Elab.async false
set_option linter.all false
set_option maxRecDepth 100000
set_option maxHeartbeats 4000000
/-! PN: what the top has written. -/
namespace G
open PySem PySem.Spec PyProof.Rows L2 NdefX StX
abbrev PX : Program := PySem.W.OpenLaw.prog PySem.Challenge.rw_listviews_k05_leaves_called
def cks0 : List Ck := [
  fun K => He.Fa.ok K (.free "isinstance"),
  fun K => He.Fa.ok K (.free "int"),
  fun K => He.Fa.ok K (.free "bool"),
  fun K => He.Fa.ok K (.free "str"),
  fun K => He.Fa.ok K (.free "dict"),
  fun K => He.Fa.ok K (.free "len"),
  fun K => He.Fa.ok K (.free "all"),
  fun K => He.Fa.ok K (.free "list"),
  fun K => He.Fa.ok K (.free "range"),
  fun K => He.Fa.ok K (.free "min"),
  fun K => He.Fa.ok K (.free "max"),
  fun K => He.Fa.ok K (.free "repr"),
  fun K => He.Fa.ok K (.free "tuple"),
  fun K => He.Fa.ok K (.free "super"),
  fun K => He.Fa.ok K (.str "LETTERS" "abcdefghijklmnopqrstuvwxyz"),
  fun K => He.Fa.ok K (.int "MOST_LETTERS" 8),
  fun K => He.Fa.ok K (.int "MOST_FIELDS" 6),
  fun K => He.Fa.ok K (.int "GREATEST" 999),
  fun K => He.Fa.ok K (.int "MOST_LEAVES" 6),
  fun K => He.Fa.ok K (.int "MOST_DEPTH" 5),
  fun K => He.Fa.ok K (.int "MOST_NAMES" 8),
  fun K => plainB K (He.ga K "is_integer") "is_integer",
  fun K => He.Fa.ok K (.glo "is_integer"),
  fun K => plainB K (He.ga K "is_name") "is_name",
  fun K => He.Fa.ok K (.glo "is_name"),
  fun K => plainB K (He.ga K "is_value") "is_value",
  fun K => He.Fa.ok K (.glo "is_value"),
  fun K => plainB K (He.ga K "need_integer") "need_integer",
  fun K => He.Fa.ok K (.glo "need_integer"),
  fun K => plainB K (He.ga K "need_name") "need_name"]
def cks1 : List Ck := [
  fun K => He.Fa.ok K (.glo "need_name"),
  fun K => plainB K (He.ga K "need_value") "need_value",
  fun K => He.Fa.ok K (.glo "need_value"),
  fun K => plainB K (He.ga K "need_record") "need_record",
  fun K => He.Fa.ok K (.glo "need_record"),
  fun K => plainB K (He.ga K "_law_cell") "_law_cell",
  fun K => He.Fa.ok K (.glo "_law_cell"),
  fun K => plainB K (He.ga K "_law_box") "_law_box",
  fun K => He.Fa.ok K (.glo "_law_box"),
  fun K => plainB K (He.ga K "_law_take") "_law_take",
  fun K => He.Fa.ok K (.glo "_law_take"),
  fun K => plainB K (He.ga K "_law_mixed") "_law_mixed",
  fun K => He.Fa.ok K (.glo "_law_mixed"),
  fun K => plainB K (He.ga K "_law_names") "_law_names",
  fun K => He.Fa.ok K (.glo "_law_names"),
  fun K => plainB K (He.ga K "_law_number") "_law_number",
  fun K => He.Fa.ok K (.glo "_law_number"),
  fun K => plainB K (He.ga K "_law_value") "_law_value",
  fun K => He.Fa.ok K (.glo "_law_value"),
  fun K => plainB K (He.ga K "_law_named") "_law_named",
  fun K => He.Fa.ok K (.glo "_law_named"),
  fun K => plainB K (He.ga K "_law_between_right") "_law_between_right",
  fun K => He.Fa.ok K (.glo "_law_between_right"),
  fun K => plainB K (He.ga K "_law_named_right") "_law_named_right",
  fun K => He.Fa.ok K (.glo "_law_named_right"),
  fun K => plainB K (He.ga K "law") "law",
  fun K => He.Fa.ok K (.glo "law"),
  fun K => He.Fa.ok K (.glo "Between"),
  fun K => He.Fa.ok K (.cls "Between"),
  fun K => He.Fa.ok K (.noat "Between" "leaf_count")]
def cks2 : List Ck := [
  fun K => He.Fa.ok K (.noat "Between" "height"),
  fun K => He.Fa.ok K (.noat "Between" "name_count"),
  fun K => He.Fa.ok K (.noat "Between" "field_name"),
  fun K => He.Fa.ok K (.noat "Between" "lowest"),
  fun K => He.Fa.ok K (.noat "Between" "highest"),
  fun K => He.Fa.ok K (.glo "Named"),
  fun K => He.Fa.ok K (.cls "Named"),
  fun K => He.Fa.ok K (.noat "Named" "leaf_count"),
  fun K => He.Fa.ok K (.noat "Named" "height"),
  fun K => He.Fa.ok K (.noat "Named" "name_count"),
  fun K => He.Fa.ok K (.noat "Named" "accepted_names"),
  fun K => He.Fa.ok K (.mkr "Between"),
  fun K => He.Fa.ok K (.mkr "Named"),
  fun K => plainB K (He.ma K (He.ga K "Condition") "__init__") "Condition.__init__",
  fun K => codB K (He.ma K (He.ga K "Between") "__init__") "Between.__init__" && (cloB K (He.ma K (He.ga K "Between") "__init__") (He.ga K "Between") && filB K (He.ma K (He.ga K "Between") "__init__") PX.main.file),
  fun K => supB K (He.ga K "Between") (He.ma K (He.ga K "Condition") "__init__"),
  fun K => codB K (He.ma K (He.ga K "Named") "__init__") "Named.__init__" && (cloB K (He.ma K (He.ga K "Named") "__init__") (He.ga K "Named") && filB K (He.ma K (He.ga K "Named") "__init__") PX.main.file),
  fun K => supB K (He.ga K "Named") (He.ma K (He.ga K "Condition") "__init__"),
  fun K => btwDefB K (kwV K (He.ma K (He.ga K "Between") "__init__")),
  fun K => plainB K (getr K (He.ma K (He.ga K "Between") "field")) "Between.field",
  fun K => proB K (He.ga K "Between") "field",
  fun K => plainB K (getr K (He.ma K (He.ga K "Between") "low")) "Between.low",
  fun K => proB K (He.ga K "Between") "low",
  fun K => plainB K (getr K (He.ma K (He.ga K "Between") "high")) "Between.high",
  fun K => proB K (He.ga K "Between") "high",
  fun K => plainB K (He.ma K (He.ga K "Between") "__call__") "Between.__call__",
  fun K => calB K (He.ga K "Between"),
  fun K => plainB K (He.ma K (He.ga K "Between") "holds") "Between.holds",
  fun K => He.Fa.ok K (.meth "Between" "holds"),
  fun K => plainB K (He.ma K (He.ga K "Between") "leaves") "Between.leaves"]
def cks3 : List Ck := [
  fun K => He.Fa.ok K (.meth "Between" "leaves"),
  fun K => plainB K (He.ma K (He.ga K "Between") "depth") "Between.depth",
  fun K => He.Fa.ok K (.meth "Between" "depth"),
  fun K => plainB K (getr K (He.ma K (He.ga K "Named") "accepted")) "Named.accepted",
  fun K => proB K (He.ga K "Named") "accepted",
  fun K => plainB K (He.ma K (He.ga K "Named") "__call__") "Named.__call__",
  fun K => calB K (He.ga K "Named"),
  fun K => plainB K (He.ma K (He.ga K "Named") "holds") "Named.holds",
  fun K => He.Fa.ok K (.meth "Named" "holds"),
  fun K => plainB K (He.ma K (He.ga K "Named") "leaves") "Named.leaves",
  fun K => He.Fa.ok K (.meth "Named" "leaves"),
  fun K => plainB K (He.ma K (He.ga K "Named") "depth") "Named.depth",
  fun K => He.Fa.ok K (.meth "Named" "depth")]
abbrev cks : List Ck := cks0 ++ cks1 ++ cks2 ++ cks3
def fns0 : List Dp := [
  ⟨fun K => He.ga K "is_integer", "is_integer", "is_integer", sIsInt, []⟩,
  ⟨fun K => He.ga K "is_name", "is_name", "is_name", sIsName, []⟩,
  ⟨fun K => He.ga K "is_value", "is_value", "is_value", sIsValue, []⟩,
  ⟨fun K => He.ga K "need_integer", "need_integer", "need_integer", sNeedInt, []⟩,
  ⟨fun K => He.ga K "need_name", "need_name", "need_name", sNeedName, []⟩,
  ⟨fun K => He.ga K "need_value", "need_value", "need_value", sNeedValue, []⟩,
  ⟨fun K => He.ga K "need_record", "need_record", "need_record", sNeedRecord, []⟩,
  ⟨fun K => He.ga K "_law_cell", "_law_cell", "_law_cell", sCell, []⟩,
  ⟨fun K => He.ga K "_law_box", "_law_box", "_law_box", sBox, []⟩,
  ⟨fun K => He.ga K "_law_take", "_law_take", "_law_take", sTake, []⟩,
  ⟨fun K => He.ga K "_law_mixed", "_law_mixed", "_law_mixed", sMixed, []⟩,
  ⟨fun K => He.ga K "_law_names", "_law_names", "_law_names", sNames, []⟩,
  ⟨fun K => He.ga K "_law_number", "_law_number", "_law_number", sNumber, []⟩,
  ⟨fun K => He.ga K "_law_value", "_law_value", "_law_value", sValue, []⟩,
  ⟨fun K => He.ga K "_law_named", "_law_named", "_law_named", sNamed, []⟩,
  ⟨fun K => He.ga K "_law_between_right", "_law_between_right", "_law_between_right", sBR, []⟩,
  ⟨fun K => He.ga K "_law_named_right", "_law_named_right", "_law_named_right", sNR, []⟩,
  ⟨fun K => He.ga K "law", "law", "law", sLaw, []⟩,
  ⟨fun K => He.ma K (He.ga K "Condition") "__init__", "__init__", "Condition.__init__", sCondInit, []⟩,
  ⟨fun K => He.ma K (He.ga K "Between") "__init__", "__init__", "Between.__init__", sBtwInit, ["__class__"]⟩]
def fns1 : List Dp := [
  ⟨fun K => He.ma K (He.ga K "Named") "__init__", "__init__", "Named.__init__", sNamInit, ["__class__"]⟩,
  ⟨fun K => getr K (He.ma K (He.ga K "Between") "field"), "field", "Between.field", (sBtw 1), []⟩,
  ⟨fun K => getr K (He.ma K (He.ga K "Between") "low"), "low", "Between.low", (sBtw 2), []⟩,
  ⟨fun K => getr K (He.ma K (He.ga K "Between") "high"), "high", "Between.high", (sBtw 3), []⟩,
  ⟨fun K => He.ma K (He.ga K "Between") "__call__", "__call__", "Between.__call__", (sBtw 4), []⟩,
  ⟨fun K => He.ma K (He.ga K "Between") "holds", "holds", "Between.holds", (sBtw 5), []⟩,
  ⟨fun K => He.ma K (He.ga K "Between") "leaves", "leaves", "Between.leaves", (sBtw 6), []⟩,
  ⟨fun K => He.ma K (He.ga K "Between") "depth", "depth", "Between.depth", (sBtw 7), []⟩,
  ⟨fun K => getr K (He.ma K (He.ga K "Named") "accepted"), "accepted", "Named.accepted", (sNam 1), []⟩,
  ⟨fun K => He.ma K (He.ga K "Named") "__call__", "__call__", "Named.__call__", (sNam 2), []⟩,
  ⟨fun K => He.ma K (He.ga K "Named") "holds", "holds", "Named.holds", (sNam 3), []⟩,
  ⟨fun K => He.ma K (He.ga K "Named") "leaves", "leaves", "Named.leaves", (sNam 4), []⟩,
  ⟨fun K => He.ma K (He.ga K "Named") "depth", "depth", "Named.depth", (sNam 5), []⟩]
abbrev fns : List Dp := fns0 ++ fns1
theorem facts {w : World} {K : PySem.W.Frag} {h : Heap} {mg : Str → Option Value} {fa : Addr} (X : K.In h) (G : h.Ns mainGlobals mg) (hfa : mg "law" = some (.ref fa)) (c : SaysP cks fns K) :
    ∃ fd : FuncData, (∀ (s : Shared) (u : Value), BindsTo s fd ⟨[u], []⟩ [("_law_script", u)]) ∧ ∀ base : Heap, K.In base → base.Ns mainGlobals mg → FnG PX w K mg base CX0 7 fa fd ["_law_script"] (spLaw K) := by
  have m_isinstance : mg "isinstance" = none := He.free_ok X G (c.ck 0 rfl)
  have m_int : mg "int" = none := He.free_ok X G (c.ck 1 rfl)
  have m_bool : mg "bool" = none := He.free_ok X G (c.ck 2 rfl)
  have m_str : mg "str" = none := He.free_ok X G (c.ck 3 rfl)
  have m_dict : mg "dict" = none := He.free_ok X G (c.ck 4 rfl)
  have m_len : mg "len" = none := He.free_ok X G (c.ck 5 rfl)
  have m_all : mg "all" = none := He.free_ok X G (c.ck 6 rfl)
  have m_list : mg "list" = none := He.free_ok X G (c.ck 7 rfl)
  have m_range : mg "range" = none := He.free_ok X G (c.ck 8 rfl)
  have m_min : mg "min" = none := He.free_ok X G (c.ck 9 rfl)
  have m_max : mg "max" = none := He.free_ok X G (c.ck 10 rfl)
  have m_repr : mg "repr" = none := He.free_ok X G (c.ck 11 rfl)
  have m_tuple : mg "tuple" = none := He.free_ok X G (c.ck 12 rfl)
  have m_super : mg "super" = none := He.free_ok X G (c.ck 13 rfl)
  obtain ⟨tcLet, gcLet⟩ := He.str_ok X G (x := "LETTERS") (c.ck 14 rfl)
  obtain ⟨tcML, gcML⟩ := He.int_ok X G (x := "MOST_LETTERS") (c.ck 15 rfl)
  obtain ⟨tcMF, gcMF⟩ := He.int_ok X G (x := "MOST_FIELDS") (c.ck 16 rfl)
  obtain ⟨tcG, gcG⟩ := He.int_ok X G (x := "GREATEST") (c.ck 17 rfl)
  obtain ⟨tcL, gcL⟩ := He.int_ok X G (x := "MOST_LEAVES") (c.ck 18 rfl)
  obtain ⟨tcD, gcD⟩ := He.int_ok X G (x := "MOST_DEPTH") (c.ck 19 rfl)
  obtain ⟨tcN, gcN⟩ := He.int_ok X G (x := "MOST_NAMES") (c.ck 20 rfl)
  obtain ⟨fd1, F1⟩ : ∃ fd, Fun K "is_integer" "is_integer" sIsInt (He.ga K "is_integer") fd := fun_of (c.at_ 0 rfl) rfl (c.ck 21 rfl)
  have b1 := F1.binds (ps := ["value", "low", "high"]) fun _ _ _ _ _ _ us hl => match us, hl with | [_, _, _], _ => rfl
  have g1 : mg "is_integer" = some (.ref (He.ga K "is_integer")) := He.glo_ok X G (c.ck 22 rfl)
  have k1 := F1.kp
  obtain ⟨fd2, F2⟩ : ∃ fd, Fun K "is_name" "is_name" sIsName (He.ga K "is_name") fd := fun_of (c.at_ 1 rfl) rfl (c.ck 23 rfl)
  have b2 := F2.binds (ps := ["value"]) fun _ _ _ _ _ _ us hl => match us, hl with | [_], _ => rfl
  have g2 : mg "is_name" = some (.ref (He.ga K "is_name")) := He.glo_ok X G (c.ck 24 rfl)
  have k2 := F2.kp
  obtain ⟨fd3, F3⟩ : ∃ fd, Fun K "is_value" "is_value" sIsValue (He.ga K "is_value") fd := fun_of (c.at_ 2 rfl) rfl (c.ck 25 rfl)
  have b3 := F3.binds (ps := ["value"]) fun _ _ _ _ _ _ us hl => match us, hl with | [_], _ => rfl
  have g3 : mg "is_value" = some (.ref (He.ga K "is_value")) := He.glo_ok X G (c.ck 26 rfl)
  have k3 := F3.kp
  obtain ⟨fd4, F4⟩ : ∃ fd, Fun K "need_integer" "need_integer" sNeedInt (He.ga K "need_integer") fd := fun_of (c.at_ 3 rfl) rfl (c.ck 27 rfl)
  have b4 := F4.binds (ps := ["value", "low", "high"]) fun _ _ _ _ _ _ us hl => match us, hl with | [_, _, _], _ => rfl
  have g4 : mg "need_integer" = some (.ref (He.ga K "need_integer")) := He.glo_ok X G (c.ck 28 rfl)
  have k4 := F4.kp
  obtain ⟨fd5, F5⟩ : ∃ fd, Fun K "need_name" "need_name" sNeedName (He.ga K "need_name") fd := fun_of (c.at_ 4 rfl) rfl (c.ck 29 rfl)
  have b5 := F5.binds (ps := ["value"]) fun _ _ _ _ _ _ us hl => match us, hl with | [_], _ => rfl
  have g5 : mg "need_name" = some (.ref (He.ga K "need_name")) := He.glo_ok X G (c.ck 30 rfl)
  have k5 := F5.kp
  obtain ⟨fd6, F6⟩ : ∃ fd, Fun K "need_value" "need_value" sNeedValue (He.ga K "need_value") fd := fun_of (c.at_ 5 rfl) rfl (c.ck 31 rfl)
  have b6 := F6.binds (ps := ["value"]) fun _ _ _ _ _ _ us hl => match us, hl with | [_], _ => rfl
  have g6 : mg "need_value" = some (.ref (He.ga K "need_value")) := He.glo_ok X G (c.ck 32 rfl)
  have k6 := F6.kp
  obtain ⟨fd7, F7⟩ : ∃ fd, Fun K "need_record" "need_record" sNeedRecord (He.ga K "need_record") fd := fun_of (c.at_ 6 rfl) rfl (c.ck 33 rfl)
  have b7 := F7.binds (ps := ["key", "value"]) fun _ _ _ _ _ _ us hl => match us, hl with | [_, _], _ => rfl
  have g7 : mg "need_record" = some (.ref (He.ga K "need_record")) := He.glo_ok X G (c.ck 34 rfl)
  have k7 := F7.kp
  obtain ⟨fd8, F8⟩ : ∃ fd, Fun K "_law_cell" "_law_cell" sCell (He.ga K "_law_cell") fd := fun_of (c.at_ 7 rfl) rfl (c.ck 35 rfl)
  have b8 := F8.binds (ps := ["_law_script", "_law_k"]) fun _ _ _ _ _ _ us hl => match us, hl with | [_, _], _ => rfl
  have g8 : mg "_law_cell" = some (.ref (He.ga K "_law_cell")) := He.glo_ok X G (c.ck 36 rfl)
  have k8 := F8.kp
  obtain ⟨fd9, F9⟩ : ∃ fd, Fun K "_law_box" "_law_box" sBox (He.ga K "_law_box") fd := fun_of (c.at_ 8 rfl) rfl (c.ck 37 rfl)
  have b9 := F9.binds (ps := ["_law_cell_here"]) fun _ _ _ _ _ _ us hl => match us, hl with | [_], _ => rfl
  have g9 : mg "_law_box" = some (.ref (He.ga K "_law_box")) := He.glo_ok X G (c.ck 38 rfl)
  have k9 := F9.kp
  obtain ⟨fdA, FA⟩ : ∃ fd, Fun K "_law_take" "_law_take" sTake (He.ga K "_law_take") fd := fun_of (c.at_ 9 rfl) rfl (c.ck 39 rfl)
  have bA := FA.binds (ps := ["_law_box_here", "_law_many"]) fun _ _ _ _ _ _ us hl => match us, hl with | [_, _], _ => rfl
  have gA : mg "_law_take" = some (.ref (He.ga K "_law_take")) := He.glo_ok X G (c.ck 40 rfl)
  have kA := FA.kp
  obtain ⟨fdB, FB⟩ : ∃ fd, Fun K "_law_mixed" "_law_mixed" sMixed (He.ga K "_law_mixed") fd := fun_of (c.at_ 10 rfl) rfl (c.ck 41 rfl)
  have bB := FB.binds (ps := ["_law_box_here", "_law_some"]) fun _ _ _ _ _ _ us hl => match us, hl with | [_, _], _ => rfl
  have gB : mg "_law_mixed" = some (.ref (He.ga K "_law_mixed")) := He.glo_ok X G (c.ck 42 rfl)
  have kB := FB.kp
  obtain ⟨fdC, FC⟩ : ∃ fd, Fun K "_law_names" "_law_names" sNames (He.ga K "_law_names") fd := fun_of (c.at_ 11 rfl) rfl (c.ck 43 rfl)
  have bC := FC.binds (ps := ["_law_box_here", "_law_many"]) fun _ _ _ _ _ _ us hl => match us, hl with | [_, _], _ => rfl
  have gC : mg "_law_names" = some (.ref (He.ga K "_law_names")) := He.glo_ok X G (c.ck 44 rfl)
  have kC := FC.kp
  obtain ⟨fdD, FD⟩ : ∃ fd, Fun K "_law_number" "_law_number" sNumber (He.ga K "_law_number") fd := fun_of (c.at_ 12 rfl) rfl (c.ck 45 rfl)
  have bD := FD.binds (ps := ["_law_box_here"]) fun _ _ _ _ _ _ us hl => match us, hl with | [_], _ => rfl
  have gD : mg "_law_number" = some (.ref (He.ga K "_law_number")) := He.glo_ok X G (c.ck 46 rfl)
  have kD := FD.kp
  obtain ⟨fdE, FE⟩ : ∃ fd, Fun K "_law_value" "_law_value" sValue (He.ga K "_law_value") fd := fun_of (c.at_ 13 rfl) rfl (c.ck 47 rfl)
  have bE := FE.binds (ps := ["_law_box_here", "_law_fields"]) fun _ _ _ _ _ _ us hl => match us, hl with | [_, _], _ => rfl
  have gE : mg "_law_value" = some (.ref (He.ga K "_law_value")) := He.glo_ok X G (c.ck 48 rfl)
  have kE := FE.kp
  obtain ⟨fdF, FF⟩ : ∃ fd, Fun K "_law_named" "_law_named" sNamed (He.ga K "_law_named") fd := fun_of (c.at_ 14 rfl) rfl (c.ck 49 rfl)
  have bF := FF.binds (ps := ["_law_some"]) fun _ _ _ _ _ _ us hl => match us, hl with | [_], _ => rfl
  have gF : mg "_law_named" = some (.ref (He.ga K "_law_named")) := He.glo_ok X G (c.ck 50 rfl)
  have kF := FF.kp
  obtain ⟨fdG, FG⟩ : ∃ fd, Fun K "_law_between_right" "_law_between_right" sBR (He.ga K "_law_between_right") fd := fun_of (c.at_ 15 rfl) rfl (c.ck 51 rfl)
  have bG := FG.binds (ps := ["_law_box_here", "_law_fields", "_law_name"]) fun _ _ _ _ _ _ us hl => match us, hl with | [_, _, _], _ => rfl
  have gG : mg "_law_between_right" = some (.ref (He.ga K "_law_between_right")) := He.glo_ok X G (c.ck 52 rfl)
  have kG := FG.kp
  obtain ⟨fdH, FH⟩ : ∃ fd, Fun K "_law_named_right" "_law_named_right" sNR (He.ga K "_law_named_right") fd := fun_of (c.at_ 16 rfl) rfl (c.ck 53 rfl)
  have bH := FH.binds (ps := ["_law_box_here", "_law_fields", "_law_names_here"]) fun _ _ _ _ _ _ us hl => match us, hl with | [_, _, _], _ => rfl
  have gH : mg "_law_named_right" = some (.ref (He.ga K "_law_named_right")) := He.glo_ok X G (c.ck 54 rfl)
  have kH := FH.kp
  obtain ⟨fdL, FL⟩ : ∃ fd, Fun K "law" "law" sLaw (He.ga K "law") fd := fun_of (c.at_ 17 rfl) rfl (c.ck 55 rfl)
  have bL := FL.binds (ps := ["_law_script"]) fun _ _ _ _ _ _ us hl => match us, hl with | [_], _ => rfl
  have gL : mg "law" = some (.ref (He.ga K "law")) := He.glo_ok X G (c.ck 56 rfl)
  have kL := FL.kp
  have gbt : mg "Between" = some (.ref (He.ga K "Between")) := He.glo_ok X G (c.ck 57 rfl)
  have cbt : Cls K (He.ga K "Between") := He.cls_ok (c.ck 58 rfl)
  have nbt_leaf_count : NoAttr K (He.ga K "Between") "leaf_count" := He.noat_ok (c.ck 59 rfl)
  have nbt_height : NoAttr K (He.ga K "Between") "height" := He.noat_ok (c.ck 60 rfl)
  have nbt_name_count : NoAttr K (He.ga K "Between") "name_count" := He.noat_ok (c.ck 61 rfl)
  have nbt_field_name : NoAttr K (He.ga K "Between") "field_name" := He.noat_ok (c.ck 62 rfl)
  have nbt_lowest : NoAttr K (He.ga K "Between") "lowest" := He.noat_ok (c.ck 63 rfl)
  have nbt_highest : NoAttr K (He.ga K "Between") "highest" := He.noat_ok (c.ck 64 rfl)
  have gnm : mg "Named" = some (.ref (He.ga K "Named")) := He.glo_ok X G (c.ck 65 rfl)
  have cnm : Cls K (He.ga K "Named") := He.cls_ok (c.ck 66 rfl)
  have nnm_leaf_count : NoAttr K (He.ga K "Named") "leaf_count" := He.noat_ok (c.ck 67 rfl)
  have nnm_height : NoAttr K (He.ga K "Named") "height" := He.noat_ok (c.ck 68 rfl)
  have nnm_name_count : NoAttr K (He.ga K "Named") "name_count" := He.noat_ok (c.ck 69 rfl)
  have nnm_accepted_names : NoAttr K (He.ga K "Named") "accepted_names" := He.noat_ok (c.ck 70 rfl)
  have Mbt : Mk K (He.ga K "Between") (He.ma K (He.ga K "Between") "__init__") := He.mkr_ok (c.ck 71 rfl)
  have Mnm : Mk K (He.ga K "Named") (He.ma K (He.ga K "Named") "__init__") := He.mkr_ok (c.ck 72 rfl)
  obtain ⟨fdci, Fci⟩ : ∃ fd, Fun K "__init__" "Condition.__init__" sCondInit (He.ma K (He.ga K "Condition") "__init__") fd := fun_of (c.at_ 18 rfl) rfl (c.ck 73 rfl)
  have bci := Fci.binds (ps := ["self", "leaf_count", "height", "name_count"]) fun _ _ _ _ _ _ us hl => match us, hl with | [_, _, _, _], _ => rfl
  have Dbt : ClsDef PX K ⟨fun K => He.ma K (He.ga K "Between") "__init__", "__init__", "Between.__init__", sBtwInit, ["__class__"]⟩ (He.ma K (He.ga K "Between") "__init__") (He.ga K "Between") := clsdef_of (c.at_ 19 rfl) rfl (c.ck 74 rfl)
  obtain ⟨cdabt, ccbt, fdbt, FXbt, Sbt⟩ := funx_of Dbt (x := "self") ⟨_, rfl, rfl⟩ (c.ck 75 rfl) (show (PX.main.scope.names.lookup ("super" : Str)).isSome = false from rfl)
  have Dnm : ClsDef PX K ⟨fun K => He.ma K (He.ga K "Named") "__init__", "__init__", "Named.__init__", sNamInit, ["__class__"]⟩ (He.ma K (He.ga K "Named") "__init__") (He.ga K "Named") := clsdef_of (c.at_ 20 rfl) rfl (c.ck 76 rfl)
  obtain ⟨cdanm, ccnm, fdnm, FXnm, Snm⟩ := funx_of Dnm (x := "self") ⟨_, rfl, rfl⟩ (c.ck 77 rfl) (show (PX.main.scope.names.lookup ("super" : Str)).isSome = false from rfl)
  obtain ⟨Dkw, eDk, dB⟩ := btwDef_of (c.ck 78 rfl)
  rw [eDk] at FXbt
  obtain ⟨fdb1, Fb1⟩ : ∃ fd, Fun K "field" "Between.field" (sBtw 1) (getr K (He.ma K (He.ga K "Between") "field")) fd := fun_of (c.at_ 21 rfl) rfl (c.ck 79 rfl)
  have bb1 := Fb1.binds (ps := ["self"]) fun _ _ _ _ _ _ us hl => match us, hl with | [_], _ => rfl
  have Pb1 : PropOf K (He.ga K "Between") "field" (He.ma K (He.ga K "Between") "field") (getr K (He.ma K (He.ga K "Between") "field")) := pro_ok (c.ck 80 rfl)
  obtain ⟨fdb2, Fb2⟩ : ∃ fd, Fun K "low" "Between.low" (sBtw 2) (getr K (He.ma K (He.ga K "Between") "low")) fd := fun_of (c.at_ 22 rfl) rfl (c.ck 81 rfl)
  have bb2 := Fb2.binds (ps := ["self"]) fun _ _ _ _ _ _ us hl => match us, hl with | [_], _ => rfl
  have Pb2 : PropOf K (He.ga K "Between") "low" (He.ma K (He.ga K "Between") "low") (getr K (He.ma K (He.ga K "Between") "low")) := pro_ok (c.ck 82 rfl)
  obtain ⟨fdb3, Fb3⟩ : ∃ fd, Fun K "high" "Between.high" (sBtw 3) (getr K (He.ma K (He.ga K "Between") "high")) fd := fun_of (c.at_ 23 rfl) rfl (c.ck 83 rfl)
  have bb3 := Fb3.binds (ps := ["self"]) fun _ _ _ _ _ _ us hl => match us, hl with | [_], _ => rfl
  have Pb3 : PropOf K (He.ga K "Between") "high" (He.ma K (He.ga K "Between") "high") (getr K (He.ma K (He.ga K "Between") "high")) := pro_ok (c.ck 84 rfl)
  obtain ⟨fdb4, Fb4⟩ : ∃ fd, Fun K "__call__" "Between.__call__" (sBtw 4) (He.ma K (He.ga K "Between") "__call__") fd := fun_of (c.at_ 24 rfl) rfl (c.ck 85 rfl)
  have bb4 := Fb4.binds (ps := ["self", "key", "value"]) fun _ _ _ _ _ _ us hl => match us, hl with | [_, _, _], _ => rfl
  have Mb4 : CallO K (He.ga K "Between") (He.ma K (He.ga K "Between") "__call__") := cal_ok (c.ck 86 rfl)
  obtain ⟨fdb5, Fb5⟩ : ∃ fd, Fun K "holds" "Between.holds" (sBtw 5) (He.ma K (He.ga K "Between") "holds") fd := fun_of (c.at_ 25 rfl) rfl (c.ck 87 rfl)
  have bb5 := Fb5.binds (ps := ["self", "key", "value"]) fun _ _ _ _ _ _ us hl => match us, hl with | [_, _, _], _ => rfl
  have Mb5 : Meth K (He.ga K "Between") "holds" (He.ma K (He.ga K "Between") "holds") := He.meth_ok (c.ck 88 rfl)
  obtain ⟨fdb6, Fb6⟩ : ∃ fd, Fun K "leaves" "Between.leaves" (sBtw 6) (He.ma K (He.ga K "Between") "leaves") fd := fun_of (c.at_ 26 rfl) rfl (c.ck 89 rfl)
  have bb6 := Fb6.binds (ps := ["self"]) fun _ _ _ _ _ _ us hl => match us, hl with | [_], _ => rfl
  have Mb6 : Meth K (He.ga K "Between") "leaves" (He.ma K (He.ga K "Between") "leaves") := He.meth_ok (c.ck 90 rfl)
  obtain ⟨fdb7, Fb7⟩ : ∃ fd, Fun K "depth" "Between.depth" (sBtw 7) (He.ma K (He.ga K "Between") "depth") fd := fun_of (c.at_ 27 rfl) rfl (c.ck 91 rfl)
  have bb7 := Fb7.binds (ps := ["self"]) fun _ _ _ _ _ _ us hl => match us, hl with | [_], _ => rfl
  have Mb7 : Meth K (He.ga K "Between") "depth" (He.ma K (He.ga K "Between") "depth") := He.meth_ok (c.ck 92 rfl)
  obtain ⟨fdn1, Fn1⟩ : ∃ fd, Fun K "accepted" "Named.accepted" (sNam 1) (getr K (He.ma K (He.ga K "Named") "accepted")) fd := fun_of (c.at_ 28 rfl) rfl (c.ck 93 rfl)
  have bn1 := Fn1.binds (ps := ["self"]) fun _ _ _ _ _ _ us hl => match us, hl with | [_], _ => rfl
  have Pn1 : PropOf K (He.ga K "Named") "accepted" (He.ma K (He.ga K "Named") "accepted") (getr K (He.ma K (He.ga K "Named") "accepted")) := pro_ok (c.ck 94 rfl)
  obtain ⟨fdn2, Fn2⟩ : ∃ fd, Fun K "__call__" "Named.__call__" (sNam 2) (He.ma K (He.ga K "Named") "__call__") fd := fun_of (c.at_ 29 rfl) rfl (c.ck 95 rfl)
  have bn2 := Fn2.binds (ps := ["self", "key", "value"]) fun _ _ _ _ _ _ us hl => match us, hl with | [_, _, _], _ => rfl
  have Mn2 : CallO K (He.ga K "Named") (He.ma K (He.ga K "Named") "__call__") := cal_ok (c.ck 96 rfl)
  obtain ⟨fdn3, Fn3⟩ : ∃ fd, Fun K "holds" "Named.holds" (sNam 3) (He.ma K (He.ga K "Named") "holds") fd := fun_of (c.at_ 30 rfl) rfl (c.ck 97 rfl)
  have bn3 := Fn3.binds (ps := ["self", "key", "value"]) fun _ _ _ _ _ _ us hl => match us, hl with | [_, _, _], _ => rfl
  have Mn3 : Meth K (He.ga K "Named") "holds" (He.ma K (He.ga K "Named") "holds") := He.meth_ok (c.ck 98 rfl)
  obtain ⟨fdn4, Fn4⟩ : ∃ fd, Fun K "leaves" "Named.leaves" (sNam 4) (He.ma K (He.ga K "Named") "leaves") fd := fun_of (c.at_ 31 rfl) rfl (c.ck 99 rfl)
  have bn4 := Fn4.binds (ps := ["self"]) fun _ _ _ _ _ _ us hl => match us, hl with | [_], _ => rfl
  have Mn4 : Meth K (He.ga K "Named") "leaves" (He.ma K (He.ga K "Named") "leaves") := He.meth_ok (c.ck 100 rfl)
  obtain ⟨fdn5, Fn5⟩ : ∃ fd, Fun K "depth" "Named.depth" (sNam 5) (He.ma K (He.ga K "Named") "depth") fd := fun_of (c.at_ 32 rfl) rfl (c.ck 101 rfl)
  have bn5 := Fn5.binds (ps := ["self"]) fun _ _ _ _ _ _ us hl => match us, hl with | [_], _ => rfl
  have Mn5 : Meth K (He.ga K "Named") "depth" (He.ma K (He.ga K "Named") "depth") := He.meth_ok (c.ck 102 rfl)
  have e := hfa.symm.trans gL
  cases e
  obtain ⟨_, _, _, _, _, _, _, _, _, hfd, _, _⟩ := FL.ex
  refine ⟨fdL, fun s u => by rw [hfd]; exact .of_eq rfl, fun base _ _ => ?_⟩
  have O1 : FnOk PX w K mg base CX0 1 _ _ ["value", "low", "high"] spIsInt := ok_isint F1 m_isinstance m_int m_bool
  have O2 : FnOk PX w K mg base CX0 1 _ _ ["value"] spIsName := ok_isname F2 gcML gcLet m_isinstance m_str m_len m_all
  have O4 : FnOk PX w K mg base CX0 2 _ _ ["value", "low", "high"] spNeedInt := ok_needint F4 F1 b1 g1 O1
  have O5 : FnOk PX w K mg base CX0 2 _ _ ["value"] spNeedName := ok_needname F5 F2 b2 g2 O2
  have O3 : FnOk PX w K mg base CX0 2 _ _ ["value"] spIsValue := ok_isvalue F3 F2 b2 g2 O2 F1 b1 g1 O1 gcMF gcG m_isinstance m_dict m_len m_all
  have O6 : FnOk PX w K mg base CX0 3 _ _ ["value"] spNeedValue := ok_needvalue F6 F3 b3 g3 O3
  have O7 : FnOk PX w K mg base CX0 4 _ _ ["key", "value"] spNeedRecord := ok_needrecord F7 k5 b5 g5 O5 k6 b6 g6 O6
  have Oci : FnOk PX w K mg base CX0 1 _ _ ["self", "leaf_count", "height", "name_count"] (spCond (He.ga K "Between")) := ok_condinit Fci cbt nbt_leaf_count nbt_height nbt_name_count gcL gcD gcN
  have Ocn : FnOk PX w K mg base CX0 1 _ _ ["self", "leaf_count", "height", "name_count"] (spCond (He.ga K "Named")) := ok_condinit Fci cnm nnm_leaf_count nnm_height nnm_name_count gcL gcD gcN
  have Obi : FnOk PX w K mg base CX0 3 _ _ psBtw (spBtw (He.ga K "Between")) := ok_btwinit FXbt Sbt cbt nbt_field_name nbt_lowest nbt_highest O5 g5 k5 b5 O4 g4 k4 b4 Oci bci m_super
  have Oni : FnR PX w K mg base CX0 3 _ (spNamR (He.ga K "Named")) := ok_naminit FXnm Snm cnm nnm_accepted_names O5 g5 k5 b5 Ocn bci m_super m_len
  have Ob1 : FnOk PX w K mg base CX0 1 _ _ ["self"] (spBtwField (He.ga K "Between")) := ok_btwfield Fb1 cbt nbt_field_name
  have Ob2 : FnOk PX w K mg base CX0 1 _ _ ["self"] (spBtwLow (He.ga K "Between")) := ok_btwlow Fb2 cbt nbt_lowest
  have Ob3 : FnOk PX w K mg base CX0 1 _ _ ["self"] (spBtwHigh (He.ga K "Between")) := ok_btwhigh Fb3 cbt nbt_highest
  have Ob5 : FnOk PX w K mg base CX0 1 _ _ ["self", "key", "value"] (spBtwHolds (He.ga K "Between")) := ok_btwholds Fb5 cbt nbt_field_name nbt_lowest nbt_highest
  have Ob4 : FnOk PX w K mg base CX0 5 _ _ ["self", "key", "value"] (spBtwCall (He.ga K "Between")) := ok_btwcall Fb4 cbt k7 b7 g7 O7 Mb5 bb5 Ob5
  have Ob6 : FnOk PX w K mg base CX0 1 _ _ ["self"] (spBtwOne (He.ga K "Between")) := ok_btwleaves Fb6 cbt nbt_leaf_count
  have Ob7 : FnOk PX w K mg base CX0 1 _ _ ["self"] (spBtwOne (He.ga K "Between")) := ok_btwdepth Fb7 cbt nbt_height
  have On1 : FnOk PX w K mg base CX0 1 _ _ ["self"] (spNamAcc (He.ga K "Named")) := ok_namacc Fn1 cnm nnm_accepted_names
  have On3 : FnOk PX w K mg base CX0 1 _ _ ["self", "key", "value"] (spNamHolds (He.ga K "Named")) := ok_namholds Fn3 cnm nnm_accepted_names
  have On2 : FnOk PX w K mg base CX0 5 _ _ ["self", "key", "value"] (spNamCall (He.ga K "Named")) := ok_namcall Fn2 cnm k7 b7 g7 O7 Mn3 bn3 On3
  have On4 : FnOk PX w K mg base CX0 1 _ _ ["self"] (spNamOne (He.ga K "Named")) := ok_namleaves Fn4 cnm nnm_leaf_count
  have On5 : FnOk PX w K mg base CX0 1 _ _ ["self"] (spNamOne (He.ga K "Named")) := ok_namdepth Fn5 cnm nnm_height
  have OC : FnOk PX w K mg base CX0 3 _ _ ["_law_box_here", "_law_many"] spNames := ok_names FC FA bA gA FB bB gB m_len m_list m_range
  have OE : FnOk PX w K mg base CX0 3 _ _ ["_law_box_here", "_law_fields"] (spValue K) := ok_value FE FA bA gA FB bB gB FD bD gD m_len m_list m_min
  have OF : FnOk PX w K mg base CX0 5 _ _ ["_law_some"] (spMkNam (He.ga K "Named")) := ok_named FF Mnm Oni gnm m_len m_list
  have OG : FnG PX w K mg base CX0 6 _ _ ["_law_box_here", "_law_fields", "_law_name"] spBR := ok_br FG FA bA gA FD bD gD OE gE kE bE Mbt FXbt dB Obi gbt cbt Pb1 Ob1 bb1 Pb2 Ob2 bb2 Pb3 Ob3 bb3 Mb6 Ob6 bb6 Mb7 Ob7 bb7 Fb4 bb4 Mb4 Ob4 m_repr m_min m_max
  have OH : FnG PX w K mg base CX0 6 _ _ ["_law_box_here", "_law_fields", "_law_names_here"] spNR := ok_nr FH FA bA gA FB bB gB OF gF kF bF OE gE kE bE cnm Pn1 On1 bn1 Mn4 On4 bn4 Mn5 On5 bn5 bn2 Mn2 On2 m_repr m_tuple m_len m_list m_range
  exact ok_law FL F8 b8 g8 F9 b9 g9 kC bC gC OC kG bG gG OG kH bH gH OH m_range m_max m_min m_len
end G
set_option Elab.async false
set_option linter.all false
set_option maxRecDepth 100000
set_option maxHeartbeats 4000000
/-! PO: the top's run. -/
namespace G
open PySem PySem.Spec PyProof.Rows L2 NdefX StX
abbrev hk : PySem.W.Hook := hookP 5 cks fns
def ob (s : PySem.W.SharedT) : AlP := obsPG 5 cks fns (HandSHeadRun.getT s)
theorem ob_eq (s : PySem.W.SharedT) : ob s = hk.obs s.abs := obsPG_eq (HandSHeadRun.getT_eq s)
def loose0 : List Str := ["_wall", "BoardError", "InvalidInteger", "InvalidName", "InvalidValue", "InvalidCondition", "InvalidText", "TooMany", "LETTERS", "DIGITS", "MOST_LETTERS", "MOST_FIELDS", "MOST_DIGITS", "GREATEST", "is_integer", "is_name", "is_value", "parse_integer", "is_decimal", "need_integer", "need_name", "need_value", "need_record", "ConditionWords", "words_of", "tree_of", "MOST_LEAVES", "MOST_DEPTH", "MOST_NAMES", "Condition"]
def loose1 : List Str := ["Leaf", "Pair", "Between", "Named", "Both", "Either", "Not", "need_condition", "sizes_of_pair", "built", "_law_cell", "_law_box", "_law_take", "_law_mixed", "_law_names", "_law_number", "_law_value", "_law_named", "_law_between_right", "_law_named_right"]
abbrev looseX : List Str := loose0 ++ loose1
theorem run (w : World) : HandSHeadRun.RunEq (PySem.W.OpenLaw.row PySem.Challenge.rw_listviews_k05_leaves_called) (PySem.W.view PX [56]) hk ob 20000 looseX w := by
  intro os
  kernel_rfl
end G
set_option Elab.async false
set_option linter.all false
set_option maxRecDepth 100000
set_option maxHeartbeats 4000000
/-! PP: the end. -/
open PySem PySem.W PySem.Calls PyProof.Rows
set_option maxRecDepth 100000 in
set_option maxHeartbeats 0 in
theorem PySem.Challenge.cw_listviews_k05_leaves_called_holds : PySem.Challenge.rw_listviews_k05_leaves_called.Holds := by
  w_on; o_law
  refine HandSHeadRun.head_any (r := OpenLaw.row PySem.Challenge.rw_listviews_k05_leaves_called) (q := view (OpenLaw.row PySem.Challenge.rw_listviews_k05_leaves_called).prog [56]) (H := G.hk) (ob := G.ob) (M := 20000) (loose := G.looseX) (d := HandSHeadRun.topDef (OpenLaw.row PySem.Challenge.rw_listviews_k05_leaves_called).prog 56) (kwd := []) G.ob_eq
    (by kernel_rfl) (fun s => by kernel_rfl) G.run (by kernel_rfl) (by kernel_rfl) (by kernel_rfl) (by rfl) (by first | assumption | decide +kernel) (by decide +kernel) ⟨rfl, rfl, rfl, rfl, rfl, by decide +kernel⟩ ?hw ?hc
  case hw => w_witness2
  case hc =>
    refine G.walk_goE (l := PySem.Challenge.rw_listviews_k05_leaves_called) (n := 63) (k := 7) (x := "_law_script") rfl (by decide) (by kernel_rfl) ⟨rfl, by decide, by decide⟩ ?F
    intro w mg fa h Y GX hmg0
    obtain ⟨K, KX, c⟩ := Y
    have hmg : mg ("law" : PySem.Str) = some (.ref fa) := by
      have e : (HandSHeadRun.topDef (OpenLaw.row PySem.Challenge.rw_listviews_k05_leaves_called).prog 56).name = ("law" : PySem.Str) := by kernel_rfl
      rw [← e]
      exact hmg0
    obtain ⟨fd, hb, hF⟩ := G.facts (w := w) KX GX hmg c
    exact ⟨K, fd, G.spLaw K, KX, hb, fun H a ns hl _ hS => ⟨a, ns, rfl, hS, hl, fun _ => rfl⟩, hF⟩
