import PyProof.Rows.All
import Wide.All
import OpenK.AllK
import Wide.FinOn
import HandS.ForMost
import HandS.ForExc
import HandS.ExcInit
import HandS.ExcField
import HandS.TryMany
import HandS.IsInst
import HandS.Wide
import HandS.Small
import HandS.RaiseMore
import PyProof.ReprRoads
import KE.IntTextLaws
import HandS.StrMore
import HandS.Defaults
import HandS.Walk
import HandS.MakeKwOnly
import PySem.Challenge.RW_listviews_k03_numbers_and_words_in_texts
set_option Elab.async false
set_option linter.all false
set_option maxRecDepth 100000
set_option maxHeartbeats 2000000
/-! G1: what a def keeps where no guard is under way; repr of data at any depth, dicts too. -/
namespace G
open PySem PySem.Spec PyProof.Rows L2

/-! ### how long a shown text is -/
mutual
def mass : PyData → Nat
  | .none => 4
  | .bool _ => 5
  | .int _ => 1921
  | .str x => (reprText x).length
  | .list xs => 3 + massAll xs
  | .tuple xs => 4 + massAll xs
  | .dict kvs => 3 + massKv kvs
def massAll : List PyData → Nat
  | [] => 0
  | x :: xs => mass x + 2 + massAll xs
def massKv : List (PyData × PyData) → Nat
  | [] => 0
  | (k, v) :: r => mass k + mass v + 4 + massKv r
end
theorem text_from_le : ∀ (ts : List Str) (k : Nat) (acc : Str), (textFrom k acc ts).length ≤ acc.length + piled ts
  | [], k, acc => by
    show acc.length ≤ acc.length + 0
    omega
  | t :: r, k, acc => by
    have h1 := text_from_le r (k + 1) (acc ++ (if k > 0 then ", " else "" : String) ++ t)
    rw [strLen_append, strLen_append] at h1
    have h2 : (((if k > 0 then ", " else "" : String) : Str)).length ≤ 2 := by
      split <;> decide
    show (textFrom (k + 1) _ r).length ≤ _
    rw [piled_cons]
    omega
theorem list_text_le (ts : List Str) : (listText ts).length ≤ 3 + piled ts := by
  unfold listText
  rw [strLen_append]
  have h1 := text_from_le ts 0 "["
  have e1 : ((("[" : String) : Str)).length = 1 := rfl
  have e2 : ((("]" : String) : Str)).length = 1 := rfl
  rw [e1] at h1
  rw [e2]
  omega
theorem join_le (ts : List Str) : (Str.join ", " ts).length ≤ piled ts := by
  by_cases h : ts = []
  · subst h
    exact Nat.le_refl 0
  · have := join_length_add ts h
    omega
theorem tuple_text_le (ts : List Str) : (tupleText ts).length ≤ 4 + piled ts := by
  unfold tupleText
  rw [strLen_append, strLen_append]
  have h1 := join_le ts
  have e1 : ((("(" : String) : Str)).length = 1 := rfl
  have e3 : (((if ts.length == 1 then ",)" else ")" : String) : Str)).length ≤ 2 := by split <;> decide
  rw [e1]
  omega
theorem dict_text_le (ts : List Str) : (dictText ts).length ≤ 3 + piled ts := by
  unfold dictText
  rw [strLen_append, strLen_append]
  have h1 := join_le ts
  have e1 : ((("{" : String) : Str)).length = 1 := rfl
  have e3 : ((("}" : String) : Str)).length = 1 := rfl
  rw [e1, e3]
  omega
mutual
theorem shown_le : ∀ d : PyData, d.showable = true → d.shown.length ≤ mass d
  | .none, _ => by decide
  | .bool b, _ => by cases b <;> decide
  | .int i, h => by
    have h' : i.natAbs.log2 < 1920 := by simpa [PyData.showable] using h
    have h2 := int_text_length_le (by decide) h'
    show (Str.ofString (toString i)).length ≤ 1921
    rw [PySem.ofString_length]
    exact h2
  | .str x, _ => by
    simp only [PyData.shown, mass]
    exact Nat.le_refl _
  | .list xs, h => by
    have h' : PyData.showableAll xs = true := by simpa [PyData.showable] using h
    have h1 := list_text_le (PyData.shownAll xs)
    have h2 := shown_all_le xs h'
    simp only [PyData.shown, mass]
    omega
  | .tuple xs, h => by
    have h' : PyData.showableAll xs = true := by simpa [PyData.showable] using h
    have h1 := tuple_text_le (PyData.shownAll xs)
    have h2 := shown_all_le xs h'
    simp only [PyData.shown, mass]
    omega
  | .dict kvs, h => by
    have h' : PyData.showableKv kvs = true := by simpa [PyData.showable] using h
    have h1 := dict_text_le (PyData.shownKv kvs)
    have h2 := shown_kv_le kvs h'
    simp only [PyData.shown, mass]
    omega
theorem shown_all_le : ∀ xs : List PyData, PyData.showableAll xs = true → piled (PyData.shownAll xs) ≤ massAll xs
  | [], _ => by
    simp only [PyData.shownAll, massAll, piled_nil]
    exact Nat.le_refl _
  | x :: xs, h => by
    simp only [PyData.showableAll, Bool.and_eq_true] at h
    have h1 := shown_le x h.1
    have h2 := shown_all_le xs h.2
    simp only [PyData.shownAll, massAll, piled_cons]
    omega
theorem shown_kv_le : ∀ xs : List (PyData × PyData), PyData.showableKv xs = true → piled (PyData.shownKv xs) ≤ massKv xs
  | [], _ => by
    simp only [PyData.shownKv, massKv, piled_nil]
    exact Nat.le_refl _
  | (k, v) :: xs, h => by
    simp only [PyData.showableKv, Bool.and_eq_true] at h
    have h1 := shown_le k h.1.1
    have h2 := shown_le v h.1.2
    have h3 := shown_kv_le xs h.2
    have e : (((": " : String) : Str)).length = 2 := rfl
    simp only [PyData.shownKv, massKv, piled_cons, strLen_append, e]
    omega
end

/-! ### data that stands in the heap: lists, tuples, dicts by int and text keys -/
mutual
inductive Rp (K : PySem.W.Frag) (H : Hp) : V → PyData → Prop
  | non : Rp K H .non .none
  | bl (b : Bool) : Rp K H (.bl b) (.bool b)
  | int (i : Int) : Rp K H (.int i) (.int i)
  | str (x : Str) : Rp K H (.str x) (.str x)
  | lst {a : Addr} {xs : List V} {ds : List PyData} : H a = some (.lst xs) → RpAll K H xs ds → Rp K H (.ref a) (.list ds)
  | tup {a : Addr} {xs : List V} {ds : List PyData} : H a = some (.tup xs) → RpAll K H xs ds → Rp K H (.ref a) (.tuple ds)
  | dic {a : Addr} {kvs : List (Key × V)} {ds : List (PyData × PyData)} : H a = some (.dK kvs) → RpAll K H (kvs.map fun p => kV p.1) (ds.map (·.1)) → RpAll K H (kvs.map (·.2)) (ds.map (·.2)) → Rp K H (.ref a) (.dict ds)
inductive RpAll (K : PySem.W.Frag) (H : Hp) : List V → List PyData → Prop
  | nil : RpAll K H [] []
  | cons {v : V} {vs : List V} {d : PyData} {ds : List PyData} : Rp K H v d → RpAll K H vs ds → RpAll K H (v :: vs) (d :: ds)
end

/-! ### .. and how it is read -/
mutual
/-- no list in it: each address that a reading of it counts is a dict's -/
def okS : PyData → Bool
  | .none | .bool _ | .int _ | .str _ => true
  | .list _ => false
  | .tuple xs => okSAll xs
  | .dict kvs => okSKv kvs
def okSAll : List PyData → Bool
  | [] => true
  | x :: xs => okS x && okSAll xs
def okSKv : List (PyData × PyData) → Bool
  | [] => true
  | (k, v) :: r => okS k && okS v && okSKv r
end
theorem okSKv_split : ∀ {kvs : List (PyData × PyData)}, okSKv kvs = true → okSAll (kvs.map (·.1)) = true ∧ okSAll (kvs.map (·.2)) = true
  | [], _ => ⟨rfl, rfl⟩
  | (k, v) :: r, h => by
    simp only [okSKv, Bool.and_eq_true] at h
    obtain ⟨h1, h2⟩ := okSKv_split h.2
    simp only [List.map_cons, okSAll, Bool.and_eq_true]
    exact ⟨⟨h.1.1, h1⟩, h.1.2, h2⟩
theorem pairs_vals {P : Program} {w : World} : ∀ {kvs : List (Key × V)} {vs : List (Key × Value)} {es : List DictEntry}, KV kvs vs → Pairs (mixKind P w) es vs →
    Vals (kvs.map fun p => kV p.1) (es.map (·.key)) ∧ Vals (kvs.map (·.2)) (es.map (·.val))
  | _, _, _, .nil, .nil => ⟨.nil, .nil⟩
  | _, _, _, .cons r t, .cons hk hv p => by
    obtain ⟨h1, h2⟩ := pairs_vals t p
    refine ⟨.cons ?_ h1, .cons ?_ h2⟩
    · dsimp only
      rw [r.1]
      rcases keyIs_shape hk with ⟨i, tk, e1, e2⟩ | ⟨x, tk, e1, e2⟩
      · rw [e1, e2]
        exact ⟨tk, rfl⟩
      · rw [e1, e2]
        exact ⟨tk, rfl⟩
    · dsimp only
      rw [hv]
      exact r.2
section
variable {X : Cx} {pins : List (Addr × Obj)} {σ : L2.St} {H : Hp} {s : Shared}
mutual
theorem rp_reads (I : Inv X pins σ H s) : ∀ (d : PyData) (v : V) (u : Value), Rp X.K H v d → RelV v u → ∃ as, Reads s.heap u d as ∧ (okS d = true → sysModules ∉ as)
  | .none, _, _, h, r => by
    cases h
    cases r
    exact ⟨_, Reads.none, fun _ => by simp⟩
  | .bool b, _, _, h, r => by
    cases h
    cases r
    exact ⟨_, Reads.bool b, fun _ => by simp⟩
  | .int i, _, _, h, r => by
    cases h
    obtain ⟨t, rfl⟩ := r
    exact ⟨_, Reads.int i t, fun _ => by simp⟩
  | .str x, _, _, h, r => by
    cases h
    obtain ⟨t, rfl⟩ := r
    exact ⟨_, Reads.str x t, fun _ => by simp⟩
  | .list ds, _, _, h, r => by
    cases h with
    | lst hs ha =>
      cases r
      obtain ⟨its, rv, ⟨o, n, ho, hc, _, hd⟩, _⟩ := I.list (.of hs)
      obtain ⟨as, hr, _⟩ := rp_readsAll I ds _ its ha rv
      exact ⟨_, Reads.list ho hc hd hr, fun z => by simp [okS] at z⟩
  | .tuple ds, _, _, h, r => by
    cases h with
    | tup hs ha =>
      cases r
      obtain ⟨its, rv, ⟨o, ho, hc, n, hd⟩, _⟩ := I.tuple (.of hs)
      obtain ⟨as, hr, q⟩ := rp_readsAll I ds _ its ha rv
      exact ⟨_, Reads.tuple ho hc hd hr, fun z => q (by simpa [okS] using z)⟩
  | .dict ds, _, _, h, r => by
    cases h with
    | dic hs hk hv =>
      cases r
      obtain ⟨_, hm, vs, rel, o, es, ep, e1, e2, e3, e4, e5, e6⟩ := I.hok _ _ hs
      obtain ⟨r1, r2⟩ := pairs_vals rel e5
      obtain ⟨as, q1, z1⟩ := rp_readsKeys I ds _ _ hk r1
      obtain ⟨bs, q2, z2⟩ := rp_readsVals I ds _ _ hv r2
      refine ⟨_, Reads.dict e1 e2.1 e3 q1 q2, fun z => ?_⟩
      have hz : okSKv ds = true := by simpa [okS] using z
      obtain ⟨k1, k2⟩ := okSKv_split hz
      have hm' := beq_eq_false_iff_ne.mp hm
      intro hin
      rcases List.mem_cons.mp hin with hx | hx
      · exact hm' hx.symm
      · rcases List.mem_append.mp hx with hx | hx
        · exact z1 k1 hx
        · exact z2 k2 hx
theorem rp_readsAll (I : Inv X pins σ H s) : ∀ (ds : List PyData) (vs : List V) (us : List Value), RpAll X.K H vs ds → Vals vs us → ∃ as, ReadsAll s.heap us ds as ∧ (okSAll ds = true → sysModules ∉ as)
  | [], _, _, h, r => by
    cases h
    cases r
    exact ⟨_, ReadsAll.nil, fun _ => by simp⟩
  | d :: ds, _, _, h, r => by
    cases h with
    | cons h1 h2 =>
      cases r with
      | cons r1 r2 =>
        obtain ⟨as, q1, z1⟩ := rp_reads I d _ _ h1 r1
        obtain ⟨bs, q2, z2⟩ := rp_readsAll I ds _ _ h2 r2
        refine ⟨_, ReadsAll.cons q1 q2, fun z => ?_⟩
        simp only [okSAll, Bool.and_eq_true] at z
        intro hin
        rcases List.mem_append.mp hin with hx | hx
        · exact z1 z.1 hx
        · exact z2 z.2 hx
theorem rp_readsKeys (I : Inv X pins σ H s) : ∀ (ds : List (PyData × PyData)) (vs : List V) (us : List Value), RpAll X.K H vs (ds.map (·.1)) → Vals vs us → ∃ as, ReadsAll s.heap us (ds.map (·.1)) as ∧ (okSAll (ds.map (·.1)) = true → sysModules ∉ as)
  | [], _, _, h, r => by
    cases h
    cases r
    exact ⟨_, ReadsAll.nil, fun _ => by simp⟩
  | (d, _) :: ds, _, _, h, r => by
    cases h with
    | cons h1 h2 =>
      cases r with
      | cons r1 r2 =>
        obtain ⟨as, q1, z1⟩ := rp_reads I d _ _ h1 r1
        obtain ⟨bs, q2, z2⟩ := rp_readsKeys I ds _ _ h2 r2
        refine ⟨_, ReadsAll.cons q1 q2, fun z => ?_⟩
        simp only [List.map_cons, okSAll, Bool.and_eq_true] at z
        intro hin
        rcases List.mem_append.mp hin with hx | hx
        · exact z1 z.1 hx
        · exact z2 z.2 hx
theorem rp_readsVals (I : Inv X pins σ H s) : ∀ (ds : List (PyData × PyData)) (vs : List V) (us : List Value), RpAll X.K H vs (ds.map (·.2)) → Vals vs us → ∃ as, ReadsAll s.heap us (ds.map (·.2)) as ∧ (okSAll (ds.map (·.2)) = true → sysModules ∉ as)
  | [], _, _, h, r => by
    cases h
    cases r
    exact ⟨_, ReadsAll.nil, fun _ => by simp⟩
  | (_, d) :: ds, _, _, h, r => by
    cases h with
    | cons h1 h2 =>
      cases r with
      | cons r1 r2 =>
        obtain ⟨as, q1, z1⟩ := rp_reads I d _ _ h1 r1
        obtain ⟨bs, q2, z2⟩ := rp_readsVals I ds _ _ h2 r2
        refine ⟨_, ReadsAll.cons q1 q2, fun z => ?_⟩
        simp only [List.map_cons, okSAll, Bool.and_eq_true] at z
        intro hin
        rcases List.mem_append.mp hin with hx | hx
        · exact z1 z.1 hx
        · exact z2 z.2 hx
end
end

/-! ### repr of a list of such data -/
/-- a list at the top: its own address is not counted -/
theorem repr_top {prog : Program} {w : World} {A : Around} {E : Value → Shared → Prop} {s : Shared} {Q : Value → Shared → Prop} {a : Addr} {o : Obj} {vs : Array Value} {n : Nat} {xs : List PyData} {as : List Addr}
    (h1 : s.heap.get? a = some o) (h2 : o.cls = .type "list") (h3 : o.data = .seq vs n) (h4 : ReadsAll s.heap vs.toList xs as) (hs : PyData.showableAll xs = true) (hsm : PyData.hasDictAll xs = true → sysModules ∉ as)
    (hg : A.guards = some []) (hu : A.units + ((PyData.list xs).depth + 1) < cLine) (hsz : (listText (PyData.shownAll xs)).length ≤ sizeLine)
    (hQ : ∀ h' u tk, (∀ b o, s.heap.get? b = some o → h'.get? b = some o) → Q (.str (listText (PyData.shownAll xs)) u) { s with heap := h', toks := tk }) :
    wpAny (model prog w) A (call (.builtin "repr") [.ref a]) Q E s := by
  obtain ⟨bs, hb, hk⟩ := ReprAllK.of_readsAll (prog := prog) (w := w) h4 hs hsm (fun t ht => Nat.le_trans (listText_mem_le ht) hsz)
  have hna : a ∉ bs :=
    not_mem_of_deeper (.list h1 h2 h3 h4) (by simp only [PyData.depth]; omega) hb
  simp only [PyData.depth] at hu
  refine call_repr_slot (A := A) (by omega) (idr := "list.__repr__") (T := "list") (show s.TypeIs (.ref a) "list" from ⟨o, h1, h2⟩) F.slot_list_repr.toG ?_
  have hu1 : A.in1.units = A.units + 1 := rfl
  obtain ⟨l⟩ := vs
  cases l with
  | nil =>
    have h4' : ReadsAll s.heap [] xs as := h4
    cases h4'
    have ht := hQ s.heap
    rw [show listText (PyData.shownAll []) = ("[]" : Str) by simp only [PyData.shownAll]; exact listText_nil] at ht
    exact call_list_repr_empty ⟨o, h1, h2⟩ h1 h3 ⟨_, _, rfl, ht _ _ fun _ _ e => e⟩
  | cons x l =>
    refine call_list_reprK h1 h2 h3 hna (by simpa using hk.length_eq) (fun i y e => hk.item i y (by simpa using e)) (by exact hg) (fun b _ => Clear.nil b) (by rw [hu1]; omega) (fun _ _ e => e) (fun h' u tk k => ⟨_, _, rfl, hQ h' u tk k⟩) hsz
/-- repr(xs), xs a list of data -/
def rRepr (K : PySem.W.Frag) : List V → Hp → VK → Prop := fun vs H Q => ∃ (a : Addr) (xs : List V) (ds : List PyData), vs = [.ref a] ∧ H a = some (.lst xs) ∧ RpAll K H xs ds ∧ PyData.showableAll ds = true ∧ (PyData.hasDictAll ds = true → okSAll ds = true) ∧
  (PyData.list ds).depth ≤ 20 ∧ 3 + massAll ds ≤ sizeLine ∧ Q (.str (listText (PyData.shownAll ds))) H
theorem call_repr {X : Cx} (hg : X.A.guards = some []) (hu : X.A.units + 64 < cLine) : CallR X (.builtin "repr") (rRepr X.K) := by
  intro pins s σ H xs us Q I r h
  obtain ⟨a, ys, ds, rfl, ha, hr, hs, hd, hp, hm, q⟩ := h
  obtain rfl := Vals.ref1 r
  obtain ⟨its, rv, ⟨o, n, ho, hc, _, hdt⟩, _⟩ := I.list (.of ha)
  obtain ⟨as, q1, z1⟩ := rp_readsAll I ds _ its hr rv
  have hz := Nat.le_trans (list_text_le _) (Nat.le_trans (Nat.add_le_add_left (shown_all_le ds hs) 3) hm)
  exact repr_top ho hc hdt q1 hs (fun z => z1 (hd z)) hg (by omega) hz fun h' u tk k => ⟨.str _, H, I.kept k, ⟨u, rfl⟩, q⟩
end G
set_option Elab.async false
set_option linter.all false
set_option maxRecDepth 100000
set_option maxHeartbeats 2000000
/-! G2: a def that runs where no guard is under way, and the law's own call. -/
namespace G
open PySem PySem.Spec PyProof.Rows L2
/-- as FnOk, of arounds without guards -/
structure FnG (P : Program) (w : World) (K : PySem.W.Frag) (mg : Str → Option Value) (base : Heap) (CX : CXT) (k : Nat) (f : Addr) (fd : FuncData) (ps : List Str) (sp : Sp) : Prop where
  size : ∀ vs H Q E, sp vs H Q E → vs.length = ps.length
  go : ∀ (A : Around) (outer : List Env) (s : Shared) (H : Hp) (args : Args) (us : List Value) (vs : List V) (Q : VK) (E : XK),
    A.guards = some [] → Room k A → Env0 P w K mg base A outer s H → BindsTo s fd args (ps.zip us) → Vals vs us → sp vs H Q E → codeAny (model P w) A (.call (.ref f) args) (CR CX outer P w H s Q E) s
section
variable {P : Program} {w : World} {K : PySem.W.Frag} {mg : Str → Option Value} {base : Heap} {CX : CXT}
theorem FnG.of_body {x qual : Str} {st : Stmt} {f : Addr} {fd : FuncData} {N ps : List Str} {k : Nat} {sp : Sp} (F : Fun K x qual st f fd) (S : FnScope N ps (defScope st))
    (size : ∀ vs H Q E, sp vs H Q E → vs.length = ps.length)
    (body : ∀ (cdv : Value) (A : Around) (outer : List Env) (s : Shared) (H : Hp) (vs : List V) (Q : VK) (E : XK), A.guards = some [] →
      Room k (A.deeper (envOfC qual (defScope st) s.heap.objs.size f cdv)) → sp vs H Q E →
      ∃ t, PSs (cxOf CX P w K mg base N qual (defScope st) f cdv A outer s H E).nox (defBody st) t ∧ t { nx := fun _ H' => Q .non H', rt := Q } (start N vs) H) :
    FnG P w K mg base CX (k + 1) f fd ps sp := by
  obtain ⟨_, _, _, _, _, _, cdv, _, _, rfl, lk, hcd⟩ := F.ex
  refine ⟨size, fun A outer s H args us vs Q E hg hr e0 hb r h => ?_⟩
  have inS : K.In s.heap := e0.mod.kin.keeps fun b o e => (e0.bs b o e).1
  have noL : s.heap.NoLimit := e0.mod.nolimit.keeps fun b o e => (e0.bs b o e).1
  refine codeAny_call_function hr.depth (inS _ _ lk) rfl S.co S.gen rfl
    (PySem.W.codeRec_of inS hcd) (hb _ _ _ _ ?_)
  refine wpAny_newFunctionEnv_cells S.kind
    (fun ⟨n, v⟩ hy => ?_) fun env he s1 x => ?_
  · rcases S.par n (List.of_mem_zip hy).1 with q | q
    · exact Or.inl q
    · exact Or.inr ⟨q, PySem.W.cellsFrom_some _ _ _ (Or.inl q)⟩
  · subst he
    refine ⟨noL.keeps x.toInCall.keep, codeAny_func ?_⟩
    obtain ⟨t, ht, hq⟩ := body cdv A outer s H vs Q E hg (hr.deeper _) h
    have J := inv_start (CX := CX) (P := P) (w := w) (K := K) (mg := mg) (base := base) (E := E) S hr.hd e0 (size _ _ _ _ h) r x
    refine wpAny_mono (ht.nox.run [] s1 (start N vs) H _ J hq) (fun fl s' z => ?_) fun e s' z => z
    cases fl with
    | ret u =>
      obtain ⟨v, σ', H', J', rv, q⟩ := z
      exact ⟨v, H', J'.os, J'.bare, J'.base, J'.hok, rv, q⟩
    | next =>
      obtain ⟨σ', H', J', q⟩ := z
      exact ⟨.non, H', J'.os, J'.bare, J'.base, J'.hok, rfl, q⟩
    | brk =>
      obtain ⟨_, _, _, q⟩ := z
      exact q.elim
    | cont =>
      obtain ⟨_, _, _, q⟩ := z
      exact q.elim
end
section
variable {X : Cx} {CX : CXT} {k : Nat} {f : Addr} {fd : FuncData} {ps : List Str} {sp : Sp} {dvs : List V} {ds : List Value} {E : XK} {x : Str} {p pos : Pos} {e : Expr} {es : List Expr} {t : TA}
theorem FnG.run {pins : List (Addr × Obj)} {σ : L2.St} {H : Hp} {s : Shared} {Q : VK} {us : List Value} {vs : List V} (F : FnG X.prog X.w X.K X.mg X.base CX k f fd ps sp) (hg : X.A.guards = some []) (hr : Room k X.A) (hb : Binds X.K fd ps ds) (hd : Vals dvs ds)
    (hx : Passes CX X E) (I : Inv X pins σ H s) (r : Vals vs us) (h : sp (vs ++ dvs) H Q E) : wpAny (model X.prog X.w) X.A (call (.ref f) us) (EP X pins σ Q) X.xe s := by
  have both := r.append hd
  have size : (us ++ ds).length = ps.length := both.length.symm.trans (F.size _ _ _ _ h)
  refine wpAny_call (codeAny_mono (F.go X.A X.stack s H ⟨us, []⟩ (us ++ ds) (vs ++ dvs) Q E hg hr I.env0 (hb s us I.kIn size) both h) fun q s' z => ?_)
  match q, z with
  | .error er, z => exact hx pins σ H s er s' I z
  | .ok (.ret u), z => exact I.after z
/-- f(e, ..) -/
theorem pe_callG (F : FnG X.prog X.w X.K X.mg X.base CX k f fd ps sp) (hg : X.A.guards = some []) (hr : Room k X.A) (gl : Gl X x) (hm : X.mg x = some (.ref f)) (hk : PySem.W.keepIn X.K (.ref f) = true) (hb : Binds X.K fd ps ds) (hd : Vals dvs ds)
    (hx : Passes CX X E) (ha : PA X (e :: es) t) (hdb : (x == ("__debug__" : Str)) = false := by decide)
    (he : starEach (e :: es) X.env = (false, eval e X.env) :: starEach es X.env := by rfl) (hpl : (backTo pos (starEach es X.env)).any (·.1) = false := by rfl) : PE X (.Call (.Name x p) (e :: es) [] pos) (tCall sp dvs E t) := by
  constructor
  intro pins s σ H Q I h
  refine wpAny_Call_Name_kw (ld_glob I gl hm ?_ hdb)
  exact PySem.W.callWith_K (h₀ := X.base) I.ok.mod.kin hk
    (thn (ha.run pos pins s σ H _ I h) fun us s1 ⟨vs, H1, I1, r, q⟩ => ⟨I1.kIn, F.run hg hr hb hd hx I1 r q⟩) he hpl
end
/-- True comes out, what stood stands, nothing went in or out -/
def Fine (s : Shared) (r : Result) (s' : Shared) : Prop :=
  r = .ok (.ret (.bool true)) ∧ OldK s.heap s'.heap ∧ s'.os = s.os ∧ AllBare s'.gens
/-- the law's call, from the state that the top leaves -/
theorem law_go {P : Program} {w : World} {K : PySem.W.Frag} {mg mb : Str → Option Value} {k : Nat} {fa a : Addr} {fd : FuncData} {x : Str} {sp : Sp} {s₁ : Shared} {vs : List Value} {ns : List Int}
    (inK : K.In s₁.heap) (gl : s₁.heap.Ns mainGlobals mg)
    (bl : s₁.heap.Ns builtinsNs mb) (boot : ∀ y : Str, y ≠ "__name__" → mb y = bootBuiltins y)
    (lim : s₁.heap.NoLimit) (noG : s₁.gens = #[])
    (script : s₁.heap.get? a = some { cls := .type "list", data := .seq vs.toArray })
    (allInt : IntsAre vs ns) (few : ns.length ≤ sizeLine) (hr : Room k callerA)
    (F : ∀ base : Heap, K.In base → base.Ns mainGlobals mg → FnG P w K mg base CX0 k fa fd [x] sp) (hbind : ∀ (s : Shared) (u : Value), BindsTo s fd ⟨[u], []⟩ [(x, u)])
    (hsp : ∀ H : Hp, Only H → SqL K H a (ns.map V.int) → sp [.ref a] H (fun v _ => v = .bl true) fun _ _ _ => False) :
    codeAny (model P w) callerA (.call (.ref fa) ⟨[.ref a], []⟩)
      (Fine s₁) s₁ := by
  -- nothing but the script is tracked; if the written part holds the script, nothing at all
  have main : ∀ H : Hp, Only H → SqL K H a (ns.map V.int) → HOk P w H s₁.heap → (∀ b, H b ≠ none → b = a ∧ K.lookup a = none) →
      codeAny (model P w) callerA (.call (.ref fa) ⟨[.ref a], []⟩)
      (Fine s₁) s₁ := by
    intro H hO hS hok hA
    have nsK : ∀ {b : Addr} {m : Str → Option Value}, s₁.heap.Ns b m → (hidT s₁.heap H).Ns b m := by
      rintro b m ⟨o, es, ep, e, d, r⟩
      refine ⟨o, es, ep, hidT_get e ?_, d, r⟩
      cases q : H b with
      | none => rfl
      | some u =>
        exfalso
        have eb := (hA b (by rw [q]; simp)).1
        rw [eb, script] at e
        rw [← Option.some.inj e] at d
        cases d
    have inB : K.In (hidT s₁.heap H) := fun b o e => hidT_get (inK b o e) (by
      cases q : H b with
      | none => rfl
      | some u =>
        exfalso
        obtain ⟨e1, e2⟩ := hA b (by rw [q]; simp)
        rw [e1, e2] at e
        cases e)
    obtain ⟨mc, l1, l2⟩ := lim
    have hM : Mod K mg (hidT s₁.heap H) := ⟨inB, nsK gl, ⟨mb, nsK bl, boot⟩, ⟨mc, nsK l1, l2⟩⟩
    have e0 : Env0 P w K mg (hidT s₁.heap H) callerA [] s₁ H := ⟨rfl, hM, fun b o e => of_hidT e, Nat.le_of_eq (hidT_size _ _), trivial, fun b z => absurd (show b ∈ ([] : List Addr) from z) (by simp), hok, .of_eq noG⟩
    have run := (F _ inB (nsK gl)).go callerA [] s₁ H ⟨[.ref a], []⟩ [.ref a] [.ref a] _ _ rfl hr e0 (hbind s₁ (.ref a)) (.cons rfl .nil) (hsp H hO hS)
    refine codeAny_mono run fun r s' h => ?_
    match r, h with
    | .ok (.ret u), h =>
      obtain ⟨v, H', os, bare, un, hok', r', q⟩ := h
      obtain rfl : v = .bl true := q
      obtain rfl : u = Value.bool true := r'
      refine ⟨rfl, OldK.of_keep fun b o e => ?_, os, bare⟩
      rcases hO b with z | ⟨ob, xs, z⟩
      · exact un.keep b o e z (fun z => absurd (show b ∈ ([] : List Addr) from z) (by simp)) (by simp)
      · obtain ⟨e1, _⟩ := hok b _ z
        obtain ⟨e2, _⟩ := hok' b _ (un.frzs b ob _ z)
        rw [e] at e1
        cases e1
        exact e2
  cases hk : K.lookup a with
  | some o =>
    have e := inK a o hk
    rw [script] at e
    cases e
    refine main (fun _ => none) (fun _ => .inl rfl) (.inr ⟨_, vs.toArray, _, hk, rfl, rfl, rfl, ?_, ?_⟩) (fun b u z => nomatch z) fun b z => absurd rfl z
    · rw [List.size_toArray, allInt.length]
      exact few
    · simpa using vals_ints allInt
  | none =>
    let o : Obj := { cls := .type "list", data := .seq vs.toArray }
    let T : HO := .frz o (.lst (ns.map V.int))
    have at_a : upd (fun _ => none) a T a = some T := upd_same
    refine main (upd (fun _ => none) a T) (fun b => ?_) (.inl (.inr ⟨o, at_a⟩)) (fun b u z => ?_) fun b z => ?_
    · by_cases h : b = a
      · exact .inr ⟨o, _, by rw [h]; exact at_a⟩
      · exact .inl (upd_ne h)
    · by_cases h : b = a
      · subst h
        rw [at_a] at z
        cases z
        exact ⟨script, by rw [List.length_map]; exact few, vs, _, vals_ints allInt, script⟩
      · rw [upd_ne h] at z
        cases z
    · by_cases h : b = a
      · exact ⟨h, hk⟩
      · exact absurd (upd_ne h) z
/-- what k_head leaves, by the law's promise -/
theorem walk_go {l : PySem.W.OpenLaw} {n k : Nat} {q : Program} {loose : List Str} {XP : (Str → Option Value) → Heap → Prop} {YP : World → Heap → Prop} {d : DefRec} {K : Params → PySem.W.Frag} {sp : PySem.W.Frag → Sp} {x : Str}
    (most : l.most = some n) (few : n ≤ sizeLine)
    (nodf : d.params.defaults = []) (hr : Room k callerA)
    (hY : ∀ (w : World) (h : Heap), YP w h → (K w.params).In h)
    (F : ∀ (w : World) (mg : Str → Option Value) (fa : Addr) (h : Heap),
      (K w.params).In h → h.Ns mainGlobals mg → mg d.name = some (.ref fa) →
      ∃ fd : FuncData, (∀ (s : Shared) (u : Value), BindsTo s fd ⟨[u], []⟩ [(x, u)]) ∧ ∀ base : Heap, (K w.params).In base → base.Ns mainGlobals mg → FnG l.prog w (K w.params) mg base CX0 k fa fd [x] (sp (K w.params)))
    (hsp : ∀ (K : PySem.W.Frag) (H : Hp) (a : Addr) (ns : List Int), ns.length ≤ n → Only H → SqL K H a (ns.map V.int) → sp K [.ref a] H (fun v _ => v = .bl true) fun _ _ _ => False) :
    PySem.W.WalkO q loose XP YP l.row.toRowW d []
      (fun f vs => PySem.call f vs) := by
  refine Att.attach_call most nodf
    fun w _ s₁ mg mb fa _ _ _ _ a vs ns top Y _ _ _ atF obj allInt len noG => ?_
  have inK := hY w _ Y
  obtain ⟨fd, binds, keeps⟩ := F w mg fa _ inK top.T.g atF
  exact law_go inK top.T.g top.T.b top.T.builtins top.T.nolimit noG obj allInt (Nat.le_trans len few) hr keeps binds
    fun H hO hS => hsp _ H a ns len hO hS
end G
set_option Elab.async false
set_option linter.all false
set_option maxRecDepth 100000
set_option maxHeartbeats 2000000
/-! G3: a cell, its box, a draw from it. -/
namespace G
open PySem PySem.Spec PyProof.Rows L2
def topS (i : Nat) : Stmt := PySem.Challenge.pw_listviews_k03_numbers_and_words_in_texts.main.body.getD i (.Pass ⟨0, 0, 0, 0⟩)
abbrev sCell : Stmt := topS 7
abbrev sBox : Stmt := topS 8
abbrev sTake : Stmt := topS 9
theorem scCell : FnScope ["_law_script", "_law_k"] ["_law_script", "_law_k"] (defScope sCell) := ⟨rfl, rfl, rfl, by decide +kernel, rfl, by decide +kernel, by decide +kernel⟩
theorem scBox : FnScope ["_law_cell_here"] ["_law_cell_here"] (defScope sBox) := ⟨rfl, rfl, rfl, by decide +kernel, rfl, by decide +kernel, by decide +kernel⟩
theorem scTake : FnScope ["_law_box_here", "_law_many", "_law_digit", "_law_mixed"] ["_law_box_here", "_law_many"] (defScope sTake) := ⟨rfl, rfl, rfl, by decide +kernel, rfl, by decide +kernel, by decide +kernel⟩
/-- all but b stands as it stood -/
def But (b : Addr) (H H' : Hp) : Prop := ∀ c o, c ≠ b → H c = some o → H' c = some o
theorem But.refl (b : Addr) (H : Hp) : But b H H := fun _ _ _ h => h
theorem But.trans {b : Addr} {H H1 H2 : Hp} (x : But b H H1) (y : But b H1 H2) : But b H H2 := fun c o n h => y c o n (x c o n h)
theorem But.upd {b : Addr} {H : Hp} {o : HO} : But b H (upd H b o) := fun c u n h => by
  rw [upd_ne n]
  exact h
theorem But.new {b p : Addr} {H : Hp} {o : HO} (h : H p = none) : But b H (L2.upd H p o) := fun c u n e => by
  rw [upd_ne (ne_of_none e h)]
  exact e
theorem But.same {b : Addr} {H H' : Hp} (h : Same H H') : But b H H' := fun c o _ e => h c o e
theorem Same.new {p : Addr} {H : Hp} {o : HO} (h : H p = none) : Same H (upd H p o) := fun c u e => by
  rw [upd_ne (ne_of_none e h)]
  exact e
/-- a box from which at most n draws were made -/
def BoxAt (H : Hp) (b : Addr) (n : Nat) : Prop := ∃ x y z : Int, H b = some (.lst [.int x, .int y, .int z]) ∧ 0 ≤ x ∧ 0 ≤ y ∧ y < 2147483629 ∧ 0 ≤ z ∧ z ≤ n
theorem BoxAt.mono {H : Hp} {b : Addr} {n m : Nat} (h : BoxAt H b n) (le : n ≤ m) : BoxAt H b m := by
  obtain ⟨x, y, z, e, h1, h2, h3, h4, h5⟩ := h
  exact ⟨x, y, z, e, h1, h2, h3, h4, by omega⟩
theorem BoxAt.keep {H H' : Hp} {b : Addr} {n : Nat} (h : BoxAt H b n) (s : ∀ o, H b = some o → H' b = some o) : BoxAt H' b n := by
  obtain ⟨x, y, z, e, r⟩ := h
  exact ⟨x, y, z, s _ e, r⟩
/-- a draw is one of so many -/
theorem draw_at {r m : Int} {n : Nat} (h0 : 0 ≤ r) (h1 : r < m) (e : m = n) : ∃ j : Nat, r = j ∧ j < n := ⟨r.toNat, by omega, by omega⟩
def spCell' (K : PySem.W.Frag) : Sp := fun vs H Q _ => ∃ (a : Addr) (ns : List Int) (z : Int), vs = [.ref a, .int z] ∧ SqL K H a (ns.map V.int) ∧ 0 ≤ z ∧ z < 1000 ∧ ∀ i : Int, Q (.int i) H
def spBox : Sp := fun vs H Q _ => ∃ i : Int, vs = [.int i] ∧ ∀ (b : Addr) (H' : Hp), H b = none → Same H H' → BoxAt H' b 0 → Q (.ref b) H'
def spTake : Sp := fun vs H Q _ => ∃ (b : Addr) (m : Int) (n : Nat), vs = [.ref b, .int m] ∧ BoxAt H b n ∧ n ≤ 100000 ∧ 0 < m ∧ m < 2 ^ 200 ∧
  ∀ (r : Int) (H' : Hp), 0 ≤ r → r < m → BoxAt H' b (n + 1) → But b H H' → Q (.int r) H'
section
variable {P : Program} {w : World} {K : PySem.W.Frag} {mg : Str → Option Value} {base : Heap}
theorem ok_cell {f : Addr} {fd : FuncData} (F : Fun K "_law_cell" "_law_cell" sCell f fd) (ml : mg "len" = none) : FnOk P w K mg base CX0 1 f fd ["_law_script", "_law_k"] (spCell' K) := by
  refine F.ok scCell (fun vs H Q E h => ?_) (fun cdv A outer s H vs Q E hr h => ?_)
  · obtain ⟨a, ns, j, rfl, _⟩ := h
    rfl
  · obtain ⟨a, ns, z, rfl, hS, z0, z1, q⟩ := h
    obtain ⟨j, rfl, hj⟩ := draw_at (n := 1000) z0 z1 rfl
    refine ⟨_, pss_cons (ps_if (pt_cmpR op_lt (pv 1) (pe_callB call_len_seq (by rfl) ml PySem.boot_len (pa_cons (pv 0) pa_nil)) (nomark _))
        (pss_one (ps_ret (pe_ix ix_list (pv 0) (pv 1) (fun _ _ => rfl)))) pss_nil)
      (pss_one (ps_ret (pe_op op_add (pe_op op_mul pe_int (pv 1)) pe_int))), ?_⟩
    refine ⟨_, rfl, _, rfl, a, _, rfl, .inl hS, _, _, rfl, rfl, _, rfl, ite2 (fun e => ?_) (fun _ => ?_)⟩
    · have e1 : (j : Int) < ((ns.map V.int).length : Nat) := of_decide_eq_true e
      have e2 : j < ns.length := by
        rw [List.length_map] at e1
        omega
      exact ⟨_, rfl, _, rfl, a, _, _, .int ns[j], rfl, rfl, hS, atI_nat (by rw [List.getElem?_map, List.getElem?_eq_getElem e2] <;> rfl), q _⟩
    · exact ⟨_, rfl, _, _, rfl, rfl, .inl ⟨by decide, by decide⟩, _, _, rfl, rfl, q _⟩
theorem ok_box {f : Addr} {fd : FuncData} (F : Fun K "_law_box" "_law_box" sBox f fd) (mm : mg "max" = none) : FnOk P w K mg base CX0 1 f fd ["_law_cell_here"] spBox := by
  refine F.ok scBox (fun vs H Q E h => ?_) (fun cdv A outer s H vs Q E hr h => ?_)
  · obtain ⟨i, rfl, _⟩ := h
    rfl
  · obtain ⟨i, rfl, q⟩ := h
    refine ⟨_, pss_one (ps_ret (pe_lst (pa_cons (pe_callB (call_max2 rfl) (by rfl) mm (by decide +kernel) (pa_cons pe_int (pa_cons (pe_op op_sub (pv 0) (pe_op op_pow pe_int pe_int)) pa_nil)))
      (pa_cons (pe_op op_mod (pv 0) pe_int) (pa_cons pe_int pa_nil))))), ?_⟩
    refine ⟨_, rfl, _, _, rfl, rfl, ⟨by decide, by decide, by decide⟩, _, _, rfl, rfl, _, _, rfl, _, rfl, _, _, rfl, rfl, (by show (0 : Int) < 2147483629; decide), (by show 3 ≤ sizeLine; decide), fun b hb => ?_⟩
    refine q b _ hb (Same.new hb) ⟨_, _, _, upd_same, ?_, Int.emod_nonneg _ (by decide), Int.emod_lt_of_pos _ (by decide), Int.le_refl _, Int.le_refl _⟩
    split <;> omega
theorem emod_in (a m : Int) (h : 0 < m) : 0 ≤ a % m ∧ a % m < m := ⟨Int.emod_nonneg _ (by omega), Int.emod_lt_of_pos _ h⟩
theorem ok_take {f : Addr} {fd : FuncData} (F : Fun K "_law_take" "_law_take" sTake f fd) : FnOk P w K mg base CX0 1 f fd ["_law_box_here", "_law_many"] spTake := by
  refine F.ok scTake (fun vs H Q E h => ?_) (fun cdv A outer s H vs Q E hr h => ?_)
  · obtain ⟨b, m, n, rfl, _⟩ := h
    rfl
  · obtain ⟨b, m, n, rfl, ⟨x, y, z, hb, hx, hy, hy2, hz, hzn⟩, hn, hm, hm2, q⟩ := h
    refine ⟨_, pss_cons (ps_if (pt_cmpR op_gt (pe_ix ix_list (pv 0) pe_int (fun _ _ => rfl)) pe_int (nomark _))
        (pss_cons (ps_set (i := 2) scTake.nd rfl (.inl rfl) (pe_op op_mod (pe_ix ix_list (pv 0) pe_int (fun _ _ => rfl)) (pv 1)))
        (pss_cons (ps_asg (pe_op op_fdivW (pe_ix ix_list (pv 0) pe_int (fun _ _ => rfl)) (pv 1)) (pg_sub (pv 0) pe_int set_list))
        (pss_one (ps_ret (pv 2))))) pss_nil)
      (pss_cons (ps_asg (pe_op op_add (pe_ix ix_list (pv 0) pe_int (fun _ _ => rfl)) pe_int) (pg_sub (pv 0) pe_int set_list))
      (pss_cons (ps_set (i := 3) scTake.nd rfl (.inl rfl) (pe_op op_mod (pe_op op_pow (pe_op op_add (pe_op op_add (pe_ix ix_list (pv 0) pe_int (fun _ _ => rfl)) (pe_op op_mul pe_int (pe_ix ix_list (pv 0) pe_int (fun _ _ => rfl)))) pe_int) pe_int) pe_int))
      (pss_cons (ps_set (i := 3) scTake.nd rfl (.inl rfl) (pe_op op_mod (pe_op op_pow (pe_op op_add (pv 3) (pe_op op_mul pe_int (pe_ix ix_list (pv 0) pe_int (fun _ _ => rfl)))) pe_int) pe_int))
      (pss_one (ps_ret (pe_op op_mod (pe_op op_fdivW (pv 3) pe_int) (pv 1))))))), ?_⟩
    -- if box[0] > 0
    refine ⟨_, rfl, b, _, 0, .int x, rfl, rfl, .of hb, rfl, _, _, rfl, rfl, _, rfl, ite2 (fun e => ?_) (fun _ => ?_)⟩
    · refine ⟨_, rfl, b, _, 0, .int x, rfl, rfl, .of hb, rfl, _, rfl, _, _, rfl, rfl, hm, ?_⟩
      refine ⟨_, rfl, b, _, 0, .int x, rfl, rfl, .of hb, rfl, _, rfl, _, _, rfl, rfl, wide_div hm (b := 200) (by omega) (by decide) (by decide), ?_⟩
      refine ⟨_, rfl, b, _, 0, 0, rfl, rfl, hb, rfl, _, rfl, ?_⟩
      have r := emod_in x m hm
      exact q _ _ r.1 r.2 ⟨_, _, _, upd_same, Int.ediv_nonneg hx (by omega), hy, hy2, hz, by omega⟩ But.upd
    · refine ⟨_, rfl, b, _, 2, .int z, rfl, rfl, .of hb, rfl, _, _, rfl, rfl, ?_⟩
      refine ⟨_, rfl, b, _, 2, 2, rfl, rfl, hb, rfl, ?_⟩
      have hb' : (upd H b (.lst [.int x, .int y, .int (z + 1)])) b = some (.lst [.int x, .int y, .int (z + 1)]) := upd_same
      refine ⟨_, rfl, b, _, 1, .int y, rfl, rfl, .of hb', rfl, _, rfl, b, _, 2, .int (z + 1), rfl, rfl, .of hb', rfl, _, _, rfl, rfl, .inl ⟨by decide, by decide⟩, _, _, rfl, rfl, _, _, rfl, rfl,
        _, _, rfl, rfl, ⟨by decide, by decide, by omega⟩, _, _, rfl, rfl, (by show (0 : Int) < 2147483647; decide), ?_⟩
      generalize h1 : ((y + 8429 * (z + 1) + 131) ^ (5 : Int).toNat : Int) = t1
      have r1 := emod_in t1 2147483647 (by decide)
      refine ⟨_, rfl, _, rfl, b, _, 2, .int (z + 1), rfl, rfl, .of hb', rfl, _, _, rfl, rfl, .inl ⟨by decide, by decide⟩, _, _, rfl, rfl, _, _, rfl, rfl, ⟨by decide, by decide, by omega⟩, _, _, rfl, rfl, (by show (0 : Int) < 2147483587; decide), ?_⟩
      generalize h2 : ((t1 % 2147483647 + 104729 * (z + 1)) ^ (3 : Int).toNat : Int) = t2
      refine ⟨_, rfl, _, _, rfl, rfl, wide_div (by decide) (b := 200) (by decide) (by decide) (by decide), _, rfl, _, _, rfl, rfl, hm, ?_⟩
      have r := emod_in (t2 % 2147483587 / 16) m hm
      exact q _ _ r.1 r.2 ⟨_, _, _, upd_same, hx, hy, hy2, by omega, by omega⟩ But.upd
end
end G
set_option Elab.async false
set_option linter.all false
set_option maxRecDepth 100000
set_option maxHeartbeats 2000000
/-! G5: what data in the heap keeps, its type, == of it. -/
namespace G
open PySem PySem.Spec PyProof.Rows L2
section
variable {K : PySem.W.Frag} {H H' : Hp}
mutual
theorem rp_same (s : Same H H') : ∀ (d : PyData) (v : V), Rp K H v d → Rp K H' v d
  | .none, _, h => by
    cases h
    exact .non
  | .bool b, _, h => by
    cases h
    exact .bl b
  | .int i, _, h => by
    cases h
    exact .int i
  | .str x, _, h => by
    cases h
    exact .str x
  | .list ds, _, h => by
    cases h with
    | lst e r => exact .lst (s _ _ e) (rp_sameAll s ds _ r)
  | .tuple ds, _, h => by
    cases h with
    | tup e r => exact .tup (s _ _ e) (rp_sameAll s ds _ r)
  | .dict ds, _, h => by
    cases h with
    | dic e r q => exact .dic (s _ _ e) (rp_sameK s ds _ r) (rp_sameV s ds _ q)
theorem rp_sameAll (s : Same H H') : ∀ (ds : List PyData) (vs : List V), RpAll K H vs ds → RpAll K H' vs ds
  | [], _, h => by
    cases h
    exact .nil
  | d :: ds, _, h => by
    cases h with
    | cons a b => exact .cons (rp_same s d _ a) (rp_sameAll s ds _ b)
theorem rp_sameK (s : Same H H') : ∀ (ds : List (PyData × PyData)) (vs : List V), RpAll K H vs (ds.map (·.1)) → RpAll K H' vs (ds.map (·.1))
  | [], _, h => by
    cases h
    exact .nil
  | (d, _) :: ds, _, h => by
    cases h with
    | cons a b => exact .cons (rp_same s d _ a) (rp_sameK s ds _ b)
theorem rp_sameV (s : Same H H') : ∀ (ds : List (PyData × PyData)) (vs : List V), RpAll K H vs (ds.map (·.2)) → RpAll K H' vs (ds.map (·.2))
  | [], _, h => by
    cases h
    exact .nil
  | (_, d) :: ds, _, h => by
    cases h with
    | cons a b => exact .cons (rp_same s d _ a) (rp_sameV s ds _ b)
end
theorem rp_len : ∀ {ds : List PyData} {vs : List V}, RpAll K H vs ds → vs.length = ds.length
  | [], _, h => by
    cases h
    rfl
  | _ :: ds, _, h => by
    cases h with
    | cons a b =>
      rw [List.length_cons, List.length_cons, rp_len b]
theorem rp_at : ∀ {ds : List PyData} {vs : List V} {i : Nat} {v : V}, RpAll K H vs ds → vs[i]? = some v → ∃ d, ds[i]? = some d ∧ Rp K H v d
  | [], _, i, v, h, e => by
    cases h
    simp at e
  | d :: ds, _, i, v, h, e => by
    cases h with
    | cons a b =>
      cases i with
      | zero =>
        have e' := Option.some.inj e
        subst e'
        exact ⟨d, rfl, a⟩
      | succ j => exact rp_at (ds := ds) (i := j) b (by simpa using e)
theorem rp_app : ∀ {ds : List PyData} {vs : List V} {v : V} {d : PyData}, RpAll K H vs ds → Rp K H v d → RpAll K H (vs ++ [v]) (ds ++ [d])
  | [], _, _, _, h, r => by
    cases h
    exact .cons r .nil
  | _ :: ds, _, _, _, h, r => by
    cases h with
    | cons a b => exact .cons a (rp_app b r)
theorem rp_set : ∀ {ds : List PyData} {vs : List V} {v : V} {d : PyData} (i : Nat), RpAll K H vs ds → Rp K H v d → RpAll K H (vs.set i v) (ds.set i d)
  | [], _, _, _, _, h, r => by
    cases h
    exact .nil
  | _ :: ds, _, _, _, i, h, r => by
    cases h with
    | cons a b =>
      cases i with
      | zero => exact .cons r b
      | succ j => exact .cons a (rp_set j b r)
theorem rp_ints : ∀ (is : List Int), RpAll K H (is.map V.int) (is.map PyData.int)
  | [] => .nil
  | i :: is => .cons (.int i) (rp_ints is)
mutual
theorem rp_dp : ∀ (d : PyData) (v : V), d.hasDict = false → Rp K H v d → Dp K H v d
  | .none, _, _, h => by
    cases h
    exact .non
  | .bool b, _, _, h => by
    cases h
    exact .bl b
  | .int i, _, _, h => by
    cases h
    exact .int i
  | .str x, _, _, h => by
    cases h
    exact .str x
  | .list ds, _, n, h => by
    cases h with
    | lst e r => exact .lst (.of e) (rp_dpAll ds _ (by simpa [PyData.hasDict] using n) r)
  | .tuple ds, _, n, h => by
    cases h with
    | tup e r => exact .tup (.of e) (rp_dpAll ds _ (by simpa [PyData.hasDict] using n) r)
  | .dict ds, _, n, h => by simp [PyData.hasDict] at n
theorem rp_dpAll : ∀ (ds : List PyData) (vs : List V), PyData.hasDictAll ds = false → RpAll K H vs ds → DpAll K H vs ds
  | [], _, _, h => by
    cases h
    exact .nil
  | d :: ds, _, n, h => by
    simp only [PyData.hasDictAll, Bool.or_eq_false_iff] at n
    cases h with
    | cons a b => exact .cons (rp_dp d _ n.1 a) (rp_dpAll ds _ n.2 b)
end
/-- the name of a thing's type -/
def tyN : PyData → String
  | .none => "NoneType"
  | .bool _ => "bool"
  | .int _ => "int"
  | .str _ => "str"
  | .list _ => "list"
  | .tuple _ => "tuple"
  | .dict _ => "dict"
theorem rp_ty {v : V} {d : PyData} (h : Rp K H v d) : TyX K H v (.type (tyN d)) := by
  cases h with
  | non => exact .base .non
  | bl b => exact .base (.bl b)
  | int i => exact .base (.int i)
  | str x => exact .base (.str x)
  | lst e r => exact .base (.lst e)
  | tup e r => exact .base (.tup e)
  | dic e r q => exact .base (.dK e)
end
/-- H without what stands at b -/
def hide (b : Addr) (H : Hp) : Hp := fun a => if a = b then none else H a
theorem hide_same (b : Addr) (H : Hp) : Same (hide b H) H := fun a o e => by
  by_cases h : a = b
  · rw [show hide b H a = none from if_pos h] at e
    cases e
  · rwa [show hide b H a = H a from if_neg h] at e
theorem hide_ne {b a : Addr} {H : Hp} (h : a ≠ b) : hide b H a = H a := if_neg h
theorem hide_at {b : Addr} {H : Hp} : hide b H b = none := if_pos rfl
theorem hide_but {b : Addr} {H H' : Hp} (h : But b H H') : Same (hide b H) (hide b H') := fun a o e => by
  have n : a ≠ b := fun z => by
    rw [z, hide_at] at e
    cases e
  rw [hide_ne n] at e ⊢
  exact h a o n e
theorem hide_upd {b : Addr} {H : Hp} {o : HO} : hide b (upd H b o) = hide b H := by
  funext a
  by_cases h : a = b
  · rw [h, hide_at, hide_at]
  · rw [hide_ne h, hide_ne h, upd_ne h]
/-- what is new is not in what stood -/
theorem hide_new {b : Addr} {H : Hp} (h : H b = none) : Same H (hide b H) := fun a o e => by
  rw [hide_ne (ne_of_none e h)]
  exact e
theorem hide_mono {b : Addr} {H H' : Hp} (h : Same H H') : Same (hide b H) (hide b H') := hide_but fun c o _ e => h c o e
theorem hide_hide {b c : Addr} {H : Hp} : hide b (hide c H) = hide c (hide b H) := by
  funext a
  unfold hide
  split <;> split <;> rfl
end G
set_option Elab.async false
set_option linter.all false
set_option maxRecDepth 100000
set_option maxHeartbeats 2000000
/-! S1: texts as lists of codes: numbers and words. -/
namespace G
open PySem PySem.Spec PyProof.Rows L2 PySem.NumText
abbrev cs (z : Str) : List Nat := z.cps.toList
theorem cs_len (z : Str) : (cs z).length = z.length := by simp [cs, Str.length]
theorem cs_app (a b : Str) : cs (a ++ b) = cs a ++ cs b := TL.tl_append a b
theorem cs_ext {a b : Str} (h : cs a = cs b) : a = b := TL.ext_tl h
/-- signs below 128 -/
def Asc (z : Str) : Prop := ∀ c ∈ cs z, c < 128
theorem Asc.app {a b : Str} (h1 : Asc a) (h2 : Asc b) : Asc (a ++ b) := fun c hc => by
  rw [cs_app] at hc
  rcases List.mem_append.mp hc with h | h
  · exact h1 c h
  · exact h2 c h
theorem Asc.cut {a : Str} (h : Asc a) (lo hi : Option Int) : Asc (cutS a lo hi) := fun c hc => by
  have hc' : c ∈ ((cs a).drop _).take _ := hc
  exact h c (List.mem_of_mem_drop (List.mem_of_mem_take hc'))
theorem app_len (a b : Str) : (a ++ b).length = a.length + b.length := strLen_append a b
/-! ### numbers -/
/-- without the sign -/
def body (l : List Nat) : List Nat := if l.head? = some 45 then l.drop 1 else l
def digs (l : List Nat) : Bool := l.all fun c => decide (48 ≤ c) && decide (c ≤ 57)
def okD (l : List Nat) : Bool := (decide (1 ≤ l.length) && decide (l.length ≤ 30)) && (!(decide (l.head? = some 48) && decide (1 < l.length)) && digs l)
def okN (l : List Nat) : Bool := !decide (l = [45, 48]) && okD (body l)
def okL (l : List Nat) : Bool := ((decide (1 ≤ (body l).length) && decide ((body l).length ≤ 30)) && digs (body l)) && !(decide ((body l).head? = some 48) && !decide (l = [48]))
theorem okL_okN (l : List Nat) : okL l = okN l := by
  unfold okL okN okD
  cases hd : digs (body l) with
  | false => simp
  | true =>
    by_cases h0 : (body l).head? = some 48
    · obtain ⟨r, hr⟩ : ∃ r, body l = 48 :: r := by
        cases hb : body l with
        | nil =>
          rw [hb] at h0
          cases h0
        | cons x r =>
          rw [hb] at h0
          exact ⟨r, by rw [Option.some.inj h0]⟩
      rw [hr]
      by_cases hm : l.head? = some 45
      · have e : body l = l.drop 1 := if_pos hm
        obtain ⟨q, rfl⟩ : ∃ q, l = 45 :: q := by
          cases l with
          | nil => cases hm
          | cons x q => exact ⟨q, by rw [Option.some.inj hm]⟩
        have e2 : q = 48 :: r := by
          rw [hr] at e
          exact e.symm
        subst e2
        cases r with
        | nil => simp
        | cons y r => simp
      · have e : body l = l := if_neg hm
        rw [hr] at e
        subst e
        cases r with
        | nil => simp
        | cons y r => simp
    · have h1 : decide ((body l).head? = some 48) = false := decide_eq_false h0
      rw [h1]
      have h2 : decide (l = [45, 48]) = false := decide_eq_false fun z => h0 (by rw [z]; rfl)
      rw [h2]
      simp
def valN (z : Str) : Int := (PySem.intText? z).getD 0
theorem digs_all {l : List Nat} (h : digs l = true) : AllDigits l := fun c hc => by
  have := List.all_eq_true.mp h c hc
  rw [Bool.and_eq_true, decide_eq_true_eq, decide_eq_true_eq] at this
  exact this
theorem okN_val {z : Str} (h : okN (cs z) = true) : PySem.intText? z = some (valN z) ∧ z.length ≤ 31 := by
  unfold okN okD at h
  simp only [Bool.and_eq_true, decide_eq_true_eq] at h
  obtain ⟨_, ⟨h1, h2⟩, _, h3⟩ := h
  have ad := digs_all h3
  have hl := cs_len z
  have key : ∃ n, PySem.intText? z = some n ∧ z.length ≤ 31 := by
    by_cases hm : (cs z).head? = some 45
    · have e : body (cs z) = (cs z).drop 1 := if_pos hm
      obtain ⟨q, hq⟩ : ∃ q, cs z = 45 :: q := by
        cases hz : cs z with
        | nil =>
          rw [hz] at hm
          cases hm
        | cons x q =>
          rw [hz] at hm
          exact ⟨q, by rw [Option.some.inj hm]⟩
      have e2 : body (cs z) = q := by
        rw [e, hq]
        rfl
      rw [e2] at h1 h2 ad
      rw [hq, List.length_cons] at hl
      exact ⟨_, intText_neg hq ad (fun z => by rw [z] at h1; exact absurd h1 (by decide)) (by omega), by omega⟩
    · have e : body (cs z) = cs z := if_neg hm
      rw [e] at h1 h2 ad
      exact ⟨_, intText_digits ad (fun y => by rw [show cs z = [] from y] at h1; exact absurd h1 (by decide)) (by omega), by omega⟩
  obtain ⟨n, hn, hz⟩ := key
  refine ⟨?_, hz⟩
  unfold valN
  rw [hn]
  rfl
/-- what is read off a thing -/
def numD (d : PyData) (lo hi : Int) : PyData := match d with
  | .str z => if okN (cs z) = true ∧ lo ≤ valN z ∧ valN z ≤ hi then .int (valN z) else .none
  | _ => .none
def numV (d : PyData) (lo hi : Int) : V := match numD d lo hi with
  | .int i => .int i
  | _ => .non
/-! ### words -/
theorem joinL_snoc {S : List Nat} : ∀ {ps : List (List Nat)} {q : List Nat}, ps ≠ [] → TL.joinL S (ps ++ [q]) = TL.joinL S ps ++ (S ++ q)
  | [], _, h => absurd rfl h
  | [p], q, _ => rfl
  | p :: p' :: r, q, _ => by
    show p ++ (S ++ TL.joinL S ((p' :: r) ++ [q])) = (p ++ (S ++ TL.joinL S (p' :: r))) ++ (S ++ q)
    rw [joinL_snoc (by simp)]
    simp only [List.append_assoc]
theorem joinL_last {S : List Nat} : ∀ {ps : List (List Nat)} {w q : List Nat}, TL.joinL S (ps ++ [w ++ q]) = TL.joinL S (ps ++ [w]) ++ q
  | [], _, _ => rfl
  | [p], w, q => by
    show p ++ (S ++ (w ++ q)) = (p ++ (S ++ w)) ++ q
    simp only [List.append_assoc]
  | p :: p' :: r, w, q => by
    show p ++ (S ++ TL.joinL S ((p' :: r) ++ [w ++ q])) = (p ++ (S ++ TL.joinL S ((p' :: r) ++ [w]))) ++ q
    rw [joinL_last]
    simp only [List.append_assoc]
theorem split_is {z : Str} {ws : List Str} (hne : ws ≠ []) (hf : ∀ w ∈ ws, 32 ∉ cs w) (hj : TL.joinL [32] (ws.map cs) = cs z) : Txt.split z " " = ws := by
  have e1 : Txt.join " " ws = z := by
    refine cs_ext ?_
    rw [TL.join_eq]
    exact (TL.tl_join " " ws).trans hj
  have e2 := TL.split_join (y := " ") (s := 32) (S := []) rfl (by decide +kernel) hne hf
  rw [e1] at e2
  exact e2
/-- no empty word -/
def emptyIn (ws : List Str) : Bool := inV (.str "") (ws.map V.str)
/-- the words of a thing -/
def wordsD (d : PyData) : Option (List Str) := match d with
  | .str z => if 10 ∈ cs z then none else if emptyIn (Txt.split z " ") = true then none else some (Txt.split z " ")
  | _ => none
end G
set_option Elab.async false
set_option linter.all false
set_option maxRecDepth 100000
set_option maxHeartbeats 2000000
/-! S2: the program's looks at a text. -/
namespace G
open PySem PySem.Spec PyProof.Rows L2 PySem.NumText
def isI : PyData → Bool
  | .int _ => true
  | .bool _ => true
  | _ => false
def isB : PyData → Bool
  | .bool _ => true
  | _ => false
def isTup : PyData → Bool
  | .tuple _ => true
  | _ => false
def isLst : PyData → Bool
  | .list _ => true
  | _ => false
def isDic : PyData → Bool
  | .dict _ => true
  | _ => false
theorem kit_i {K : PySem.W.Frag} : ∀ d : PyData, PySem.W.kitOne K (.type (tyN d)) (.type "int") = some (isI d)
  | .none => kit_ty (a := "NoneType") (b := "int") (r := false) (by decide +kernel)
  | .bool _ => kit_ty (a := "bool") (b := "int") (r := true) (by decide +kernel)
  | .int _ => kit_ty (a := "int") (b := "int") (r := true) (by decide +kernel)
  | .str _ => kit_ty (a := "str") (b := "int") (r := false) (by decide +kernel)
  | .list _ => kit_ty (a := "list") (b := "int") (r := false) (by decide +kernel)
  | .tuple _ => kit_ty (a := "tuple") (b := "int") (r := false) (by decide +kernel)
  | .dict _ => kit_ty (a := "dict") (b := "int") (r := false) (by decide +kernel)
theorem kit_b {K : PySem.W.Frag} : ∀ d : PyData, PySem.W.kitOne K (.type (tyN d)) (.type "bool") = some (isB d)
  | .none => kit_ty (a := "NoneType") (b := "bool") (r := false) (by decide +kernel)
  | .bool _ => kit_ty (a := "bool") (b := "bool") (r := true) (by decide +kernel)
  | .int _ => kit_ty (a := "int") (b := "bool") (r := false) (by decide +kernel)
  | .str _ => kit_ty (a := "str") (b := "bool") (r := false) (by decide +kernel)
  | .list _ => kit_ty (a := "list") (b := "bool") (r := false) (by decide +kernel)
  | .tuple _ => kit_ty (a := "tuple") (b := "bool") (r := false) (by decide +kernel)
  | .dict _ => kit_ty (a := "dict") (b := "bool") (r := false) (by decide +kernel)
theorem kit_t {K : PySem.W.Frag} : ∀ d : PyData, PySem.W.kitOne K (.type (tyN d)) (.type "tuple") = some (isTup d)
  | .none => kit_ty (a := "NoneType") (b := "tuple") (r := false) (by decide +kernel)
  | .bool _ => kit_ty (a := "bool") (b := "tuple") (r := false) (by decide +kernel)
  | .int _ => kit_ty (a := "int") (b := "tuple") (r := false) (by decide +kernel)
  | .str _ => kit_ty (a := "str") (b := "tuple") (r := false) (by decide +kernel)
  | .list _ => kit_ty (a := "list") (b := "tuple") (r := false) (by decide +kernel)
  | .tuple _ => kit_ty (a := "tuple") (b := "tuple") (r := true) (by decide +kernel)
  | .dict _ => kit_ty (a := "dict") (b := "tuple") (r := false) (by decide +kernel)
theorem kit_l {K : PySem.W.Frag} : ∀ d : PyData, PySem.W.kitOne K (.type (tyN d)) (.type "list") = some (isLst d)
  | .none => kit_ty (a := "NoneType") (b := "list") (r := false) (by decide +kernel)
  | .bool _ => kit_ty (a := "bool") (b := "list") (r := false) (by decide +kernel)
  | .int _ => kit_ty (a := "int") (b := "list") (r := false) (by decide +kernel)
  | .str _ => kit_ty (a := "str") (b := "list") (r := false) (by decide +kernel)
  | .list _ => kit_ty (a := "list") (b := "list") (r := true) (by decide +kernel)
  | .tuple _ => kit_ty (a := "tuple") (b := "list") (r := false) (by decide +kernel)
  | .dict _ => kit_ty (a := "dict") (b := "list") (r := false) (by decide +kernel)
theorem kit_d {K : PySem.W.Frag} : ∀ d : PyData, PySem.W.kitOne K (.type (tyN d)) (.type "dict") = some (isDic d)
  | .none => kit_ty (a := "NoneType") (b := "dict") (r := false) (by decide +kernel)
  | .bool _ => kit_ty (a := "bool") (b := "dict") (r := false) (by decide +kernel)
  | .int _ => kit_ty (a := "int") (b := "dict") (r := false) (by decide +kernel)
  | .str _ => kit_ty (a := "str") (b := "dict") (r := false) (by decide +kernel)
  | .list _ => kit_ty (a := "list") (b := "dict") (r := false) (by decide +kernel)
  | .tuple _ => kit_ty (a := "tuple") (b := "dict") (r := false) (by decide +kernel)
  | .dict _ => kit_ty (a := "dict") (b := "dict") (r := true) (by decide +kernel)
def isS : PyData → Bool
  | .str _ => true
  | _ => false
theorem kit_s {K : PySem.W.Frag} : ∀ d : PyData, PySem.W.kitOne K (.type (tyN d)) (.type "str") = some (isS d)
  | .none => kit_ty (a := "NoneType") (b := "str") (r := false) (by decide +kernel)
  | .bool _ => kit_ty (a := "bool") (b := "str") (r := false) (by decide +kernel)
  | .int _ => kit_ty (a := "int") (b := "str") (r := false) (by decide +kernel)
  | .str _ => kit_ty (a := "str") (b := "str") (r := true) (by decide +kernel)
  | .list _ => kit_ty (a := "list") (b := "str") (r := false) (by decide +kernel)
  | .tuple _ => kit_ty (a := "tuple") (b := "str") (r := false) (by decide +kernel)
  | .dict _ => kit_ty (a := "dict") (b := "str") (r := false) (by decide +kernel)
/-- isinstance(x, int), by name -/
theorem pt_isi {X : Cx} {y : Str} {py : Pos} {te : TE} {n : Str} {p q pos : Pos} (T : String) (he : PE X (.Name y py) te) (hg : Gl X "isinstance" := by rfl) (hm : X.mg "isinstance" = none) (gn : Gl X n := by rfl) (mn : X.mg n = none) (hv : bootBuiltins n = some (.type T) := by decide +kernel)
    (hn : n ≠ "__name__" := by decide) (hd : (n == ("__debug__" : Str)) = false := by decide) :
    PE X (.Call (.Name "isinstance" p) [.Name y py, .Name n q] [] pos) (tCB (rIsi X.K) (tCons te (tCons (tC (.ty T)) tNil))) :=
  pe_callB call_isi hg hm (by decide +kernel) (pa_cons he (pa_cons (pe_bltn gn mn hv rfl hn hd) pa_nil))

abbrev sParse : Stmt := topS 3
abbrev sDec : Stmt := topS 4
abbrev sSplit : Stmt := topS 5
theorem scParse : FnScope ["text", "low", "high", "number"] ["text", "low", "high"] (defScope sParse) := ⟨rfl, rfl, rfl, by decide +kernel, rfl, by decide +kernel, by decide +kernel⟩
theorem scDec : FnScope ["text", "digit"] ["text"] (defScope sDec) := ⟨rfl, rfl, rfl, by decide +kernel, rfl, by decide +kernel, by decide +kernel⟩
theorem scSplit : FnScope ["text", "words"] ["text"] (defScope sSplit) := ⟨rfl, rfl, rfl, by decide +kernel, rfl, by decide +kernel, by decide +kernel⟩
theorem take_bools {α : Type} {f : α → Bool} {ds : List α} {i : Nat} {d : α} (h : ds[i]? = some d) : ((ds.take (i + 1)).map f).map V.bl = ((ds.take i).map f).map V.bl ++ [V.bl (f d)] := by
  rw [List.take_add_one, h, List.map_append, List.map_append]
  rfl
theorem dig_mem (c : Nat) : decide (c ∈ cs ("0123456789" : Str)) = (decide (48 ≤ c) && decide (c ≤ 57)) := by
  have e : cs ("0123456789" : Str) = [48, 49, 50, 51, 52, 53, 54, 55, 56, 57] := by decide +kernel
  rw [e]
  by_cases h : 48 ≤ c ∧ c ≤ 57
  · rw [decide_eq_true h.1, decide_eq_true h.2, decide_eq_true (by simp only [List.mem_cons, List.not_mem_nil, or_false]; omega)]
    rfl
  · rw [decide_eq_false (by simp only [List.mem_cons, List.not_mem_nil, or_false]; omega)]
    symm
    rw [← Bool.decide_and]
    exact decide_eq_false h
theorem digs_eq (l : List Nat) : (l.map fun c => decide (c ∈ cs ("0123456789" : Str))).all id = digs l := by
  unfold digs
  rw [List.all_map]
  congr 1
  funext c
  exact dig_mem c
theorem cs_prefix (z : Str) : cs (Txt.removeprefix z "-") = body (cs z) := by
  have hl := cs_len z
  rw [StrLaws.removeprefix_eq]
  unfold body
  by_cases h : (cs z).head? = some 45
  · rw [if_pos h]
    obtain ⟨q, hq⟩ : ∃ q, cs z = 45 :: q := by
      cases hz : cs z with
      | nil =>
        rw [hz] at h
        cases h
      | cons x q =>
        rw [hz] at h
        exact ⟨q, by rw [Option.some.inj h]⟩
    have hA : StrLaws.At z ⟨#[45]⟩ z.length 0 := (StrLaws.subAt_one z 45 0).mpr (by rw [show z.cps.toList = 45 :: q from hq]; rfl)
    have e1 : (decide (0 + ("-" : Str).length ≤ z.length) && Builtin.Str.subAt z "-" 0) = true := by
      have e2 : Builtin.Str.subAt z "-" 0 = true := hA.2
      rw [e2, decide_eq_true (show 0 + ("-" : Str).length ≤ z.length from hA.1)]
      rfl
    rw [if_pos e1]
    show ((cs z).drop 1).take (z.length - 1) = (cs z).drop 1
    exact List.take_of_length_le (by rw [List.length_drop, hl]; exact Nat.le_refl _)
  · rw [if_neg h]
    rw [if_neg]
    intro e
    rw [Bool.and_eq_true, decide_eq_true_eq] at e
    have hA : StrLaws.At z ⟨#[45]⟩ z.length 0 := ⟨e.1, e.2⟩
    have := (StrLaws.subAt_one z 45 0).mp hA
    apply h
    rw [List.head?_eq_getElem?]
    exact this
/-- a text of moderate length, of plain signs; or no text -/
def TxtOk (d : PyData) : Prop := ∀ z, d = .str z → Asc z ∧ z.length ≤ 7000
theorem small_size {n : Nat} (h : n ≤ 7000) : n ≤ sizeLine := by
  rw [sizeLine_eq]
  omega
def spDec : Sp := fun vs H Q _ => ∃ z : Str, vs = [.str z] ∧ z.length ≤ 7000 ∧ ∀ H', Same H H' → Q (.bl (okD (cs z))) H'
def spParse (K : PySem.W.Frag) : Sp := fun vs H Q _ => ∃ (v : V) (d : PyData) (lo hi : Int), vs = [v, .int lo, .int hi] ∧ Rp K H v d ∧ TxtOk d ∧ ∀ H', Same H H' → Q (numV d lo hi) H'
def spWords (K : PySem.W.Frag) : Sp := fun vs H Q _ => ∃ (v : V) (d : PyData), vs = [v] ∧ Rp K H v d ∧ TxtOk d ∧ (wordsD d = none → ∀ H', Same H H' → Q .non H') ∧
  ∀ ws, wordsD d = some ws → ∀ (p : Addr) (H' : Hp), Same H H' → H p = none → H' p = some (.lst (ws.map V.str)) → Q (.ref p) H'
section
variable {P : Program} {w : World} {K : PySem.W.Frag} {mg : Str → Option Value} {base : Heap}
theorem ok_dec {f : Addr} {fd : FuncData} {t1 t2 : Tok} (F : Fun K "is_decimal" "is_decimal" sDec f fd) (gM : mg "MOST_DIGITS" = some (.int 30 t1)) (gD : mg "DIGITS" = some (.str "0123456789" t2)) (ml : mg "len" = none) (ma : mg "all" = none) :
    FnOk P w K mg base CX0 1 f fd ["text"] spDec := by
  refine F.ok scDec (fun vs H Q E h => ?_) (fun cdv A outer s H vs Q E hr h => ?_)
  · obtain ⟨z, rfl, _⟩ := h
    rfl
  · obtain ⟨z, rfl, hz, q⟩ := h
    -- all([digit in DIGITS for digit in text])
    obtain ⟨tl, pl, ql⟩ : ∃ t, PSs (cxOf CX0 P w K mg base ["text", "digit"] "is_decimal" (defScope sDec) f cdv A outer s H E).nox ((defBody sDec).drop 2) t ∧
        (okD (cs z) = digs (cs z) → t { nx := fun _ H' => Q .non H', rt := Q } [some (.str z), none] H) := by
      refine ⟨_, pss_one (ps_ret (pe_callB (cr_all rfl) (by rfl) ma (by decide +kernel) (pa_cons (pe_lc (own := [("digit", 1)]) (g := gName 1) (tt := tYes) (by rfl) scDec.nd (pi_str (pv 0))
        (blkOk_by (own := [("digit", 1)]) (N := ["text", "digit"]) (sc := defScope sDec) (by decide +kernel)) (fun _ _ _ _ _ => pg_name (i := 1) scDec.nd rfl (.inl rfl)) (fun _ _ _ _ _ => pts_nil)
        (fun _ _ _ _ _ => pe_cmpR op_in_sign (pv 1) (pe_glob (v := .str "0123456789") rfl gD ⟨_, rfl⟩) (by rfl))) pa_nil))), ?_⟩
      intro e
      refine ⟨_, rfl, z, rfl, fun D hD => ?_⟩
      refine lc_it walk_str (fun i H2 => Same H H2 ∧ H2 D = some (.lst ((((cs z).take i).map fun c => decide (c ∈ cs ("0123456789" : Str))).map V.bl))) ?_ ?_ ?_ ?_
      · exact ⟨Same.new hD, upd_same⟩
      · exact fun _ _ _ _ => trivial
      · rintro i x H2 H3 hi ⟨s2, e2⟩ ⟨rfl, c, hc, rfl⟩
        have hc2 : (cs z)[i]? = some c := by
          rw [← hc, ← Array.getElem?_toList]
        have hzs : z.cps.size = z.length := rfl
        refine ⟨rfl, ?_⟩
        unfold tYes
        dsimp only
        rw [if_pos rfl]
        refine ⟨_, rfl, c, _, rfl, rfl, _, e2, ?_, fun a o e => ?_, ?_⟩
        · rw [List.length_map, List.length_map, List.length_take]
          exact Nat.lt_of_le_of_lt (Nat.min_le_left _ _) (Nat.lt_of_lt_of_le hi (small_size (by omega)))
        · rw [upd_ne (ne_of_none e hD)]
          exact s2 _ _ e
        · rw [upd_same, take_bools hc2]
      · rintro H2 ⟨s2, e2⟩
        have hs : z.cps.size = (cs z).length := by simp [cs]
        rw [hs, List.take_length] at e2
        refine ⟨D, _, rfl, .of e2, ?_⟩
        rw [digs_eq, ← e]
        exact q H2 s2
    refine ⟨_, pss_cons (ps_if (pt_not (pt_chain op_le op_le pe_int (pe_callB call_len_str (by rfl) ml PySem.boot_len (pa_cons (pv 0) pa_nil)) (pe_glob (v := .int 30) rfl gM ⟨_, rfl⟩))) (pss_one (ps_ret pe_bl)) pss_nil)
      (pss_cons (ps_if (PW.pt (pw_and (pt_cmpR op_eq (pe_item_str (pv 0) pe_int (fun _ _ => rfl)) pe_str (nomark _)) (pw_and1 (pt_cmpR op_gt (pe_callB call_len_str (by rfl) ml PySem.boot_len (pa_cons (pv 0) pa_nil)) pe_int (nomark _)))))
        (pss_one (ps_ret pe_bl)) pss_nil) pl), ?_⟩
    have hl := cs_len z
    have done : ∀ b, okD (cs z) = b → ∀ H', Same H H' → Q (.bl b) H' := fun b e H' s => by
      have := q H' s
      rw [e] at this
      exact this
    refine ⟨_, rfl, z, rfl, small_size hz, _, _, rfl, rfl, _, rfl, ?_⟩
    refine ite2 (fun z1 => ?_) (fun z1 => ?_)
    · have l1 : 1 ≤ z.length := by
        have := of_decide_eq_true z1
        omega
      refine ⟨_, _, rfl, rfl, _, rfl, ?_⟩
      cases z2 : decide ((z.length : Int) ≤ 30) with
      | false =>
        refine iteT ?_
        refine done false ?_ H (Same.refl H)
        have : ¬ ((z.length : Int) ≤ 30) := of_decide_eq_false z2
        unfold okD
        rw [decide_eq_false (show ¬ (cs z).length ≤ 30 by omega), Bool.and_false, Bool.false_and]
      | true =>
        refine iteF ?_
        have l30 : z.length ≤ 30 := by
          have := of_decide_eq_true z2
          omega
        obtain ⟨c, r, hc⟩ : ∃ c r, cs z = c :: r := by
          cases h : cs z with
          | nil =>
            rw [h] at hl
            simp at hl
            omega
          | cons c r => exact ⟨c, r, rfl⟩
        have hc0 : z.cps[0]? = some c := by
          rw [← Array.getElem?_toList, show z.cps.toList = c :: r from hc]
          rfl
        have rest : okD (cs z) = (!(decide ((cs z).head? = some 48) && decide (1 < (cs z).length)) && digs (cs z)) := by
          unfold okD
          rw [decide_eq_true (show 1 ≤ (cs z).length by omega), decide_eq_true (show (cs z).length ≤ 30 by omega)]
          rfl
        have eq0 : decide (V.str ⟨#[c]⟩ = V.str "0") = decide ((cs z).head? = some 48) := by
          rw [hc]
          by_cases h : c = 48
          · subst h
            rw [decide_eq_true (show (48 :: r).head? = some 48 from rfl)]
            exact decide_eq_true rfl
          · rw [decide_eq_false (show ¬ (c :: r).head? = some 48 from fun y => h (Option.some.inj y))]
            refine decide_eq_false fun y => h ?_
            have y2 : (⟨#[c]⟩ : Str) = "0" := V.str.inj y
            have y3 : [c] = [48] := congrArg cs y2
            exact List.head_eq_of_cons_eq y3
        refine ⟨_, rfl, z, 0, c, rfl, rfl, by decide, by decide, by omega, hc0, rfl, _, rfl, ?_⟩
        rw [eq0]
        refine ite2 (fun h0 => ?_) (fun h0 => ?_)
        · refine ⟨_, rfl, z, rfl, small_size hz, _, _, rfl, rfl, _, rfl, ?_⟩
          refine ite2 (fun h1 => ?_) (fun h1 => ?_)
          · refine done false ?_ H (Same.refl H)
            have : (1 : Int) < z.length := of_decide_eq_true h1
            rw [rest, h0, decide_eq_true (show 1 < (cs z).length by omega)]
            rfl
          · refine ql ?_
            have : ¬ (1 : Int) < z.length := fun y => h1 (decide_eq_true y)
            rw [rest, h0, decide_eq_false (show ¬ 1 < (cs z).length by omega)]
            rfl
        · refine ql ?_
          rw [rest, Bool.eq_false_iff.mpr h0]
          rfl
    · refine ⟨false, rfl, ?_⟩
      refine iteT ?_
      refine done false ?_ H (Same.refl H)
      have : ¬ ((1 : Int) ≤ z.length) := fun y => z1 (decide_eq_true y)
      unfold okD
      rw [decide_eq_false (show ¬ 1 ≤ (cs z).length by omega), Bool.false_and, Bool.false_and]
end
end G
set_option Elab.async false
set_option linter.all false
set_option maxRecDepth 100000
set_option maxHeartbeats 2000000
/-! S3: parse_integer, split_words. -/
namespace G
open PySem PySem.Spec PyProof.Rows L2 PySem.NumText
theorem numV_none {d : PyData} {lo hi : Int} (h : ∀ z, d = .str z → okN (cs z) = true → ¬ (lo ≤ valN z ∧ valN z ≤ hi)) : numV d lo hi = .non := by
  unfold numV numD
  cases d with
  | str z =>
    dsimp only
    rw [if_neg]
    rintro ⟨h1, h2⟩
    exact h z rfl h1 h2
  | none => rfl
  | bool _ => rfl
  | int _ => rfl
  | list _ => rfl
  | tuple _ => rfl
  | dict _ => rfl
theorem numV_some {z : Str} {lo hi : Int} (h1 : okN (cs z) = true) (h2 : lo ≤ valN z ∧ valN z ≤ hi) : numV (.str z) lo hi = .int (valN z) := by
  unfold numV numD
  dsimp only
  rw [if_pos ⟨h1, h2⟩]
theorem isS_str {d : PyData} (h : isS d = true) : ∃ z, d = .str z := by
  cases d with
  | str z => exact ⟨z, rfl⟩
  | none => cases h
  | bool _ => cases h
  | int _ => cases h
  | list _ => cases h
  | tuple _ => cases h
  | dict _ => cases h
theorem isS_no {d : PyData} (h : isS d = false) : ∀ z, d ≠ .str z := fun z e => by
  subst e
  cases h
theorem wordsD_no {d : PyData} (h : isS d = false) : wordsD d = none := by
  cases d with
  | str z => cases h
  | none => rfl
  | bool _ => rfl
  | int _ => rfl
  | list _ => rfl
  | tuple _ => rfl
  | dict _ => rfl
section
variable {P : Program} {w : World} {K : PySem.W.Frag} {mg : Str → Option Value} {base : Heap}
theorem ok_parse {f fD : Addr} {fd fdD : FuncData} (F : FunD K "parse_integer" "parse_integer" (defArgs sParse) (defBody sParse) (defScope sParse) [] [("low", .int (-999)), ("high", .int 999)] f fd)
    (GD : FnOk P w K mg base CX0 1 fD fdD ["text"] spDec) (gD : mg "is_decimal" = some (.ref fD)) (kD : PySem.W.keepIn K (.ref fD) = true) (bD : Binds K fdD ["text"] [])
    (mi : mg "isinstance" = none) (ms : mg "str" = none) (mt : mg "int" = none) : FnOk P w K mg base CX0 2 f fd ["text", "low", "high"] (spParse K) := by
  refine F.ok scParse (fun vs H Q E h => ?_) (fun cdv A outer s H vs Q E hr h => ?_)
  · obtain ⟨v, d, lo, hi, rfl, _⟩ := h
    rfl
  · obtain ⟨v, d, lo, hi, rfl, hR, hT, q⟩ := h
    suffices hh : ∃ t, PSs (cxOf CX0 P w K mg base ["text", "low", "high", "number"] "parse_integer" (defScope sParse) f cdv A outer s H E).nox (defBody sParse) t ∧ t { nx := fun _ H' => Q .non H', rt := Q } (start ["text", "low", "high", "number"] [v, .int lo, .int hi]) H by
      obtain ⟨t, h1, h2⟩ := hh
      exact ⟨t, h1.nox, h2⟩
    refine ⟨_, pss_cons (ps_if (PW.pt (pw_or (pt_not (pt_val (pt_isi "str" (pv 0) (hm := mi) (mn := ms)))) (pw_or (pt_cmpR op_eq (pv 0) pe_str (nomark _))
        (pw_or1 (pt_not (pt_val (pe_call GD hr rfl gD kD bD .nil pass0 (pa_cons (pe_m1 PySem.F.slot_str_removeprefix PySem.F.type_str_removeprefix mt_removeprefix (pv 0) pe_str) pa_nil))))))))
        (pss_one (ps_ret pe_non)) pss_nil)
      (pss_cons (ps_set (i := 3) scParse.nd rfl (.inl rfl) (pe_callTy call_int_str (by rfl) mt (by decide +kernel) (pa_cons (pv 0) pa_nil)))
      (pss_one (ps_ret (pe_ifExp (pt_chain op_le op_le (pv 1) (pv 3) (pv 2)) (pv 3) pe_non)))), ?_⟩
    refine ⟨_, rfl, _, _, _, _, _, rfl, .ty _, rp_ty hR, kit_s d, _, rfl, ?_⟩
    have no : (∀ z, d = .str z → okN (cs z) = true → ¬ (lo ≤ valN z ∧ valN z ≤ hi)) → ∀ H', Same H H' → Q .non H' := fun h H' s => by
      have := q H' s
      rw [numV_none h] at this
      exact this
    cases e1 : isS d with
    | false =>
      refine iteT (iteT ?_)
      exact no (fun z e => absurd e (isS_no e1 z)) H (Same.refl H)
    | true =>
      refine iteF ?_
      obtain ⟨z, rfl⟩ := isS_str e1
      cases hR
      obtain ⟨_, hz⟩ := hT z rfl
      refine ⟨_, rfl, rfl, _, rfl, ?_⟩
      refine ite2 (fun e => ?_) (fun e => ?_)
      · refine iteT ?_
        refine no (fun y ey hy => ?_) H (Same.refl H)
        have e2 : z = "-0" := V.str.inj (of_decide_eq_true e)
        cases ey
        subst e2
        exact absurd hy (by decide +kernel)
      · have ne : cs z ≠ [45, 48] := fun y => e (decide_eq_true (congrArg V.str (cs_ext (y.trans (by decide +kernel : [45, 48] = cs ("-0" : Str))))))
        refine ⟨_, rfl, ⟨_, rfl⟩, z, _, rfl, rfl, small_size hz, _, rfl, ?_, fun H1 s1 => ⟨_, rfl, ?_⟩⟩
        · have h1 := cs_len (Txt.removeprefix z "-")
          rw [cs_prefix] at h1
          have h2 := cs_len z
          have h3 : (body (cs z)).length ≤ (cs z).length := by
            unfold body
            split
            · rw [List.length_drop]
              omega
            · exact Nat.le_refl _
          omega
        · rw [cs_prefix]
          have en : okN (cs z) = okD (body (cs z)) := by
            unfold okN
            rw [decide_eq_false ne]
            rfl
          cases e3 : okD (body (cs z)) with
          | false =>
            refine iteT ?_
            refine no (fun y ey hy => ?_) H1 s1
            cases ey
            rw [en, e3] at hy
            cases hy
          | true =>
            refine iteF ?_
            have okn : okN (cs z) = true := en.trans e3
            obtain ⟨hv, hl⟩ := okN_val okn
            refine ⟨_, rfl, z, valN z, rfl, hv, by omega, ?_⟩
            refine ⟨_, rfl, _, rfl, _, _, rfl, rfl, _, rfl, ?_⟩
            refine ite2 (fun h1 => ?_) (fun h1 => ?_)
            · refine ⟨_, rfl, _, _, rfl, rfl, _, rfl, ?_⟩
              refine ite2 (fun h2 => ?_) (fun h2 => ?_)
              · refine ⟨_, rfl, ?_⟩
                have := q H1 s1
                rw [numV_some okn ⟨of_decide_eq_true h1, of_decide_eq_true h2⟩] at this
                exact this
              · refine no (fun y ey hy hb => ?_) H1 s1
                cases ey
                exact h2 (decide_eq_true hb.2)
            · refine ⟨false, rfl, ?_⟩
              refine iteF ?_
              refine no (fun y ey hy hb => ?_) H1 s1
              cases ey
              exact h1 (decide_eq_true hb.1)
theorem ok_split {f : Addr} {fd : FuncData} (F : Fun K "split_words" "split_words" sSplit f fd) (mi : mg "isinstance" = none) (ms : mg "str" = none) : FnOk P w K mg base CX0 1 f fd ["text"] (spWords K) := by
  refine F.ok scSplit (fun vs H Q E h => ?_) (fun cdv A outer s H vs Q E hr h => ?_)
  · obtain ⟨v, d, rfl, _⟩ := h
    rfl
  · obtain ⟨v, d, rfl, hR, hT, q1, q2⟩ := h
    refine ⟨_, pss_cons (ps_if (PW.pt (pw_or (pt_not (pt_val (pt_isi "str" (pv 0) (hm := mi) (mn := ms)))) (pw_or1 (pt_cmpR op_in_sign pe_str (pv 0) (by rfl))))) (pss_one (ps_ret pe_non)) pss_nil)
      (pss_cons (ps_set (i := 1) scSplit.nd rfl (.inl rfl) (pe_split (pv 0) pe_str))
      (pss_one (ps_ret (pe_ifExp (pt_cmpR op_in_seq pe_str (pv 1) (by rfl)) pe_non (pv 1))))), ?_⟩
    refine ⟨_, rfl, _, _, _, _, _, rfl, .ty _, rp_ty hR, kit_s d, _, rfl, ?_⟩
    cases e1 : isS d with
    | false =>
      refine iteT (iteT ?_)
      exact q1 (wordsD_no e1) H (Same.refl H)
    | true =>
      refine iteF ?_
      obtain ⟨z, rfl⟩ := isS_str e1
      cases hR
      obtain ⟨_, hz⟩ := hT z rfl
      refine ⟨_, rfl, 10, z, rfl, rfl, _, rfl, ?_⟩
      refine ite2 (fun e => ?_) (fun e => ?_)
      · refine q1 ?_ H (Same.refl H)
        show (if 10 ∈ cs z then none else _) = none
        rw [if_pos (of_decide_eq_true e)]
      · have ne : 10 ∉ cs z := fun y => e (decide_eq_true y)
        refine ⟨_, rfl, ⟨_, rfl⟩, z, _, rfl, rfl, rfl, (by rw [sizeLine_eq]; omega), fun p hp => ?_⟩
        have s1 := Same.new (o := .lst ((Txt.split z " ").map V.str)) hp
        refine ⟨_, rfl, p, _, rfl, .inl (.of upd_same), rfl, ?_, _, rfl, ?_⟩
        · rw [List.all_map]
          exact List.all_eq_true.mpr fun _ _ => rfl
        · have ew : wordsD (.str z) = if emptyIn (Txt.split z " ") = true then none else some (Txt.split z " ") := by
            show (if 10 ∈ cs z then none else _) = _
            rw [if_neg ne]
          show if (emptyIn (Txt.split z " ")) = true then _ else _
          cases e2 : emptyIn (Txt.split z " ") with
          | true =>
            refine iteT ?_
            rw [e2] at ew
            exact q1 (ew.trans (if_pos rfl)) _ s1
          | false =>
            refine iteF ?_
            rw [e2] at ew
            exact ⟨_, rfl, q2 _ (ew.trans (if_neg Bool.false_ne_true)) p _ s1 hp upd_same⟩
end
end G
set_option Elab.async false
set_option linter.all false
set_option maxRecDepth 100000
set_option maxHeartbeats 2000000
/-! S4: the law's own readings of a text. -/
namespace G
open PySem PySem.Spec PyProof.Rows L2 PySem.NumText
abbrev sLint : Stmt := topS 11
abbrev sLwords : Stmt := topS 13
theorem scLint : FnScope ["_law_page", "_law_least", "_law_most", "_law_digits_here", "_law_sign"] ["_law_page", "_law_least", "_law_most"] (defScope sLint) := ⟨rfl, rfl, rfl, by decide +kernel, rfl, by decide +kernel, by decide +kernel⟩
theorem scLwords : FnScope ["_law_text", "_law_words_here", "_law_sign"] ["_law_text"] (defScope sLwords) := ⟨rfl, rfl, rfl, by decide +kernel, rfl, by decide +kernel, by decide +kernel⟩
theorem cut_head (z : Str) : cs (cutS z none (some 1)) = (cs z).take 1 := by
  show ((cs z).drop (HT.sIx z.length 0 none)).take (HT.sIx z.length z.length (some 1) - HT.sIx z.length 0 none) = _
  rw [HT.sIx_none, show HT.sIx z.length z.length (some 1) = min 1 z.length from HT.sIx_nat z.length z.length 1, List.drop_zero, ← cs_len, Nat.sub_zero]
  cases cs z with
  | nil => rfl
  | cons x r =>
    rw [List.length_cons, show min 1 (r.length + 1) = 1 by omega]
theorem cut_tail (z : Str) : cs (cutS z (some 1) none) = (cs z).drop 1 := by
  show ((cs z).drop (HT.sIx z.length 0 (some 1))).take (HT.sIx z.length z.length none - HT.sIx z.length 0 (some 1)) = _
  rw [HT.sIx_none, show HT.sIx z.length 0 (some 1) = min 1 z.length from HT.sIx_nat z.length 0 1, ← cs_len]
  cases cs z with
  | nil => rfl
  | cons x r =>
    rw [List.length_cons, show min 1 (r.length + 1) = 1 by omega]
    show r.take (r.length + 1 - 1) = r
    rw [Nat.add_sub_cancel, List.take_length]
theorem head_minus (z : Str) : decide (V.str (cutS z none (some 1)) = V.str "-") = decide ((cs z).head? = some 45) := by
  have e : cs ("-" : Str) = [45] := rfl
  by_cases h : (cs z).head? = some 45
  · rw [decide_eq_true h]
    refine decide_eq_true (congrArg V.str (cs_ext ?_))
    rw [cut_head, e]
    cases hz : cs z with
    | nil =>
      rw [hz] at h
      cases h
    | cons x r =>
      rw [hz] at h
      rw [Option.some.inj h]
      rfl
  · rw [decide_eq_false h]
    refine decide_eq_false fun y => h ?_
    have y2 := congrArg cs (V.str.inj y)
    rw [cut_head, e] at y2
    cases hz : cs z with
    | nil =>
      rw [hz] at y2
      cases y2
    | cons x r =>
      rw [hz] at y2
      exact congrArg some (List.head_eq_of_cons_eq y2)
theorem one_is (c k : Nat) (y : Str) (hy : cs y = [k]) : decide (V.str ⟨#[c]⟩ = V.str y) = decide (c = k) := by
  by_cases h : c = k
  · subst h
    rw [decide_eq_true (rfl : c = c)]
    exact decide_eq_true (congrArg V.str (cs_ext hy.symm))
  · rw [decide_eq_false h]
    refine decide_eq_false fun e => h ?_
    have e2 := congrArg cs (V.str.inj e)
    rw [hy] at e2
    exact List.head_eq_of_cons_eq e2
/-- the signs that are no digits -/
def bads (l : List Nat) : List Nat := l.filter fun c => !decide (c ∈ cs ("0123456789" : Str))
theorem bads_digs (l : List Nat) : (bads l).isEmpty = digs l := by
  rw [← digs_eq]
  unfold bads
  induction l with
  | nil => rfl
  | cons c l ih =>
    rw [List.map_cons, List.all_cons, ← ih, List.filter_cons]
    show _ = (decide (c ∈ cs ("0123456789" : Str)) && _)
    cases decide (c ∈ cs ("0123456789" : Str)) <;> rfl
def oneS (c : Nat) : PyData := .str ⟨#[c]⟩
theorem ones_rp {K : PySem.W.Frag} {H : Hp} : ∀ l : List Nat, DpAll K H (l.map fun c => V.str ⟨#[c]⟩) (l.map oneS)
  | [] => .nil
  | c :: l => .cons (.str _) (ones_rp l)
theorem ones_shaped : ∀ {l : List Nat}, (∀ c ∈ l, c < 128) → SeqAt.shaped (.list (l.map oneS)) = true := by
  intro l h
  have h1 : PyData.canLayAll0 (l.map oneS) = true := by
    induction l with
    | nil => simp [PyData.canLayAll0]
    | cons c l ih =>
      have hc := h c List.mem_cons_self
      have h2 : PyData.strOk ⟨#[c]⟩ = true := by
        unfold PyData.strOk
        simp
        omega
      simp only [List.map_cons, PyData.canLayAll0, oneS, PyData.canLay0, h2, Bool.true_and]
      exact ih fun x hx => h x (List.mem_cons_of_mem _ hx)
  have h3 : PyData.depthAll (l.map oneS) = 0 := by
    clear h h1
    induction l with
    | nil => simp [PyData.depthAll]
    | cons c l ih =>
      simp only [List.map_cons, PyData.depthAll, oneS, PyData.depth]
      rw [ih]
      rfl
  unfold SeqAt.shaped
  simp only [PyData.canLay0, PyData.depth, h1, h3]
  decide
theorem eqv_nil' (es : List PyData) : PyData.eqv (.list es) (.list []) = es.isEmpty := by
  cases es <;> simp [PyData.eqv, PyData.eqvAll]
section
variable {P : Program} {w : World} {K : PySem.W.Frag} {mg : Str → Option Value} {base : Heap}
theorem ok_lint {f : Addr} {fd : FuncData} (F : Fun K "_law_integer" "_law_integer" sLint f fd) (mi : mg "isinstance" = none) (ms : mg "str" = none) (ml : mg "len" = none) (mt : mg "int" = none) :
    FnOk P w K mg base CX0 1 f fd ["_law_page", "_law_least", "_law_most"] (spParse K) := by
  refine F.ok scLint (fun vs H Q E h => ?_) (fun cdv A outer s H vs Q E hr h => ?_)
  · obtain ⟨v, d, lo, hi, rfl, _⟩ := h
    rfl
  · obtain ⟨v, d, lo, hi, rfl, hR, hT, q⟩ := h
    -- from the digits on
    obtain ⟨tl, pl, ql⟩ : ∃ t, PSs (cxOf CX0 P w K mg base ["_law_page", "_law_least", "_law_most", "_law_digits_here", "_law_sign"] "_law_integer" (defScope sLint) f cdv A outer s H E).nox ((defBody sLint).drop 2) t ∧
        ∀ (z y : Str) (x4 : Option V), d = .str z → v = .str z → cs y = body (cs z) → t { nx := fun _ H' => Q .non H', rt := Q } [some (.str z), some (.int lo), some (.int hi), some (.str y), none] H := by
      refine ⟨_, pss_cons (ps_if (PW.pt (pw_or (pt_not (pt_chain op_le op_le pe_int (pe_callB call_len_str (by rfl) ml PySem.boot_len (pa_cons (pv 3) pa_nil)) pe_int))
          (pw_or1 (pt_cmpR (op_neD hr.units) (pe_lc (own := [("_law_sign", 4)]) (g := gName 4) (by rfl) scLint.nd (pi_str (pv 3))
            (blkOk_by (own := [("_law_sign", 4)]) (N := ["_law_page", "_law_least", "_law_most", "_law_digits_here", "_law_sign"]) (sc := defScope sLint) (by decide +kernel)) (fun _ _ _ _ _ => pg_name (i := 4) scLint.nd rfl (.inl rfl))
            (fun _ _ _ _ _ => pts_one (pt_cmpR op_notIn_sign (pv 4) pe_str (by rfl))) (fun _ _ _ _ _ => pv 4)) (pe_lst pa_nil) (nomark _)))))
          (pss_one (ps_ret pe_non)) pss_nil)
        (pss_cons (ps_if (PW.pt (pw_and (pt_cmpR op_eq (pe_item_str (pv 3) pe_int (fun _ _ => rfl)) pe_str (nomark _)) (pw_and1 (pt_cmpR op_ne (pv 0) pe_str (nomark _))))) (pss_one (ps_ret pe_non)) pss_nil)
        (pss_one (ps_ret (pe_ifExp (pt_chain op_le op_le (pv 1) (pe_callTy call_int_str (by rfl) mt (by decide +kernel) (pa_cons (pv 0) pa_nil)) (pv 2)) (pe_callTy call_int_str (by rfl) mt (by decide +kernel) (pa_cons (pv 0) pa_nil)) pe_non)))), ?_⟩
      rintro z y x4 rfl rfl hy
      obtain ⟨asc, hz⟩ := hT z rfl
      have hl := cs_len y
      rw [hy] at hl
      have hlz := cs_len z
      have hyz : y.length ≤ z.length := by
        have : (body (cs z)).length ≤ (cs z).length := by
          unfold body
          split
          · rw [List.length_drop]
            omega
          · exact Nat.le_refl _
        omega
      have ascy : ∀ c ∈ cs y, c < 128 := fun c hc => by
        rw [hy] at hc
        unfold body at hc
        split at hc
        · exact asc c (List.mem_of_mem_drop hc)
        · exact asc c hc
      have no : (okN (cs z) = true → ¬ (lo ≤ valN z ∧ valN z ≤ hi)) → ∀ H', Same H H' → Q .non H' := fun h H' s => by
        have := q H' s
        rw [numV_none (fun y e => by cases e; exact h)] at this
        exact this
      have not : okL (cs z) = false → ∀ H', Same H H' → Q .non H' := fun h => no fun h2 => by
        rw [okL_okN, h2] at h
        cases h
      refine ⟨_, rfl, y, rfl, small_size (by omega), _, _, rfl, rfl, _, rfl, ?_⟩
      refine ite2 (fun z1 => ?_) (fun z1 => ?_)
      · have l1 : 1 ≤ y.length := by
          have := of_decide_eq_true z1
          omega
        refine ⟨_, _, rfl, rfl, _, rfl, ?_⟩
        cases z2 : decide ((y.length : Int) ≤ 30) with
        | false =>
          refine iteT ?_
          refine not ?_ H (Same.refl H)
          have : ¬ ((y.length : Int) ≤ 30) := of_decide_eq_false z2
          unfold okL
          rw [decide_eq_false (show ¬ (body (cs z)).length ≤ 30 by omega), Bool.and_false, Bool.false_and, Bool.false_and]
        | true =>
          refine iteF ?_
          have l30 : y.length ≤ 30 := by
            have := of_decide_eq_true z2
            omega
          have eL : okL (cs z) = (digs (body (cs z)) && !(decide ((body (cs z)).head? = some 48) && !decide (cs z = [48]))) := by
            unfold okL
            rw [decide_eq_true (show 1 ≤ (body (cs z)).length by omega), decide_eq_true (show (body (cs z)).length ≤ 30 by omega)]
            rfl
          refine ⟨_, rfl, y, rfl, fun D hD => ?_⟩
          refine lc_it walk_str (fun i H2 => Same H H2 ∧ H2 D = some (.lst ((bads ((cs y).take i)).map fun c => V.str ⟨#[c]⟩))) ?_ ?_ ?_ ?_
          · exact ⟨Same.new hD, upd_same⟩
          · exact fun _ _ _ _ => trivial
          · rintro i x H2 H3 hi ⟨s2, e2⟩ ⟨rfl, c, hc, rfl⟩
            have hc2 : (cs y)[i]? = some c := by
              rw [← hc, ← Array.getElem?_toList]
            have hzs : y.cps.size = y.length := rfl
            have et : bads ((cs y).take (i + 1)) = bads ((cs y).take i) ++ bads [c] := by
              unfold bads
              rw [List.take_add_one, hc2, List.filter_append]
              rfl
            refine ⟨rfl, ?_⟩
            refine ⟨_, rfl, c, _, rfl, rfl, _, rfl, ?_⟩
            cases e3 : decide (c ∈ cs ("0123456789" : Str)) with
            | true =>
              refine iteF ⟨s2, ?_⟩
              rw [et, show bads [c] = [] by unfold bads; rw [List.filter_cons, e3]; rfl, List.append_nil]
              exact e2
            | false =>
              refine iteT ?_
              refine ⟨_, rfl, _, e2, ?_, fun a o e => ?_, ?_⟩
              · rw [List.length_map]
                have h1 := List.length_filter_le (fun c => !decide (c ∈ cs ("0123456789" : Str))) ((cs y).take i)
                have h2 : ((cs y).take i).length ≤ (cs y).length := by
                  rw [List.length_take]
                  exact Nat.min_le_right _ _
                have h3 := cs_len y
                exact small1000 (show (bads ((cs y).take i)).length ≤ 1000 by unfold bads; omega)
              · rw [upd_ne (ne_of_none e hD)]
                exact s2 _ _ e
              · rw [upd_same, et, show bads [c] = [c] by unfold bads; rw [List.filter_cons, e3]; rfl, List.map_append]
                rfl
          · rintro H2 ⟨s2, e2⟩
            have hs : y.cps.size = (cs y).length := by simp [cs]
            rw [hs, List.take_length] at e2
            refine ⟨Nat.zero_le _, fun n hn => ?_⟩
            have sn := Same.new (o := .lst []) hn
            have sH := s2.trans sn
            refine ⟨.list ((bads (cs y)).map oneS), .list [], .lst (.of (sn _ _ e2)) (ones_rp _), .lst (.of upd_same) .nil, ones_shaped (fun c hc => ascy c (List.mem_filter.mp hc).1), by decide, _, rfl, ?_⟩
            rw [eqv_nil', show ((bads (cs y)).map oneS).isEmpty = (bads (cs y)).isEmpty by cases bads (cs y) <;> rfl, bads_digs, hy]
            cases e4 : digs (body (cs z)) with
            | false =>
              refine iteT ?_
              refine not ?_ _ sH
              rw [eL, e4]
              rfl
            | true =>
              refine iteF ?_
              rw [e4, Bool.true_and] at eL
              obtain ⟨c, r, hc⟩ : ∃ c r, body (cs z) = c :: r := by
                cases h : body (cs z) with
                | nil =>
                  rw [h] at hl
                  simp at hl
                  omega
                | cons c r => exact ⟨c, r, rfl⟩
              have hc0 : y.cps[0]? = some c := by
                rw [← Array.getElem?_toList, show y.cps.toList = c :: r from hy.trans hc]
                rfl
              have h48 : decide (c = 48) = decide ((body (cs z)).head? = some 48) := by
                rw [hc]
                by_cases h : c = 48
                · rw [decide_eq_true h, h]
                  exact (decide_eq_true rfl).symm
                · rw [decide_eq_false h]
                  exact (decide_eq_false fun e => h (Option.some.inj e)).symm
              have hpage : decide (V.str z = V.str "0") = decide (cs z = [48]) := by
                by_cases h : cs z = [48]
                · rw [decide_eq_true h]
                  exact decide_eq_true (congrArg V.str (cs_ext (h.trans rfl)))
                · rw [decide_eq_false h]
                  exact decide_eq_false fun e => h (congrArg cs (V.str.inj e))
              -- from the last statement on
              have fin : okL (cs z) = true → ∀ H' : Hp, Same H H' → tRet (tIf (tTest (tChain (rI0 fun i j => .bl (decide (i ≤ j))) (rI0 fun i j => .bl (decide (i ≤ j))) (tVar 1) (tCB (fun xs H Q => ∃ a n, xs = [.str a] ∧ PySem.intText? a = some n ∧ a.length ≤ 640 ∧ Q (.int n) H) (tCons (tVar 0) tNil)) (tVar 2)))
                  (tCB (fun xs H Q => ∃ a n, xs = [.str a] ∧ PySem.intText? a = some n ∧ a.length ≤ 640 ∧ Q (.int n) H) (tCons (tVar 0) tNil)) (tC .non)) { nx := fun _ H' => Q .non H', rt := Q } [some (.str z), some (.int lo), some (.int hi), some (.str y), none] H' := by
                intro okl H' sH
                have okn := okl
                rw [okL_okN] at okn
                obtain ⟨hv, hl31⟩ := okN_val okn
                refine ⟨_, rfl, _, rfl, z, valN z, rfl, hv, by omega, _, _, rfl, rfl, _, rfl, ?_⟩
                refine ite2 (fun h1 => ?_) (fun h1 => ?_)
                · refine ⟨_, rfl, _, _, rfl, rfl, _, rfl, ?_⟩
                  refine ite2 (fun h2 => ?_) (fun h2 => ?_)
                  · refine ⟨_, rfl, z, valN z, rfl, hv, by omega, ?_⟩
                    have := q H' sH
                    rw [numV_some okn ⟨of_decide_eq_true h1, of_decide_eq_true h2⟩] at this
                    exact this
                  · exact no (fun _ hb => h2 (decide_eq_true hb.2)) H' sH
                · refine ⟨false, rfl, ?_⟩
                  refine iteF ?_
                  exact no (fun _ hb => h1 (decide_eq_true hb.1)) H' sH
              refine ⟨_, rfl, y, 0, c, rfl, rfl, by decide, by decide, by omega, hc0, rfl, _, rfl, ?_⟩
              rw [one_is c 48 "0" rfl, h48]
              refine ite2 (fun h0 => ?_) (fun h0 => ?_)
              · refine ⟨_, rfl, rfl, _, rfl, ?_⟩
                rw [hpage]
                rw [h0, Bool.true_and] at eL
                cases e5 : decide (cs z = [48]) with
                | false =>
                  refine iteT ?_
                  refine not ?_ _ sH
                  rw [eL, e5]
                  rfl
                | true =>
                  refine iteF ?_
                  refine fin ?_ _ sH
                  rw [eL, e5]
                  rfl
              · refine fin ?_ _ sH
                rw [eL, Bool.eq_false_iff.mpr h0]
                rfl
      · refine ⟨false, rfl, ?_⟩
        refine iteT ?_
        refine not ?_ H (Same.refl H)
        have : ¬ ((1 : Int) ≤ y.length) := fun e => z1 (decide_eq_true e)
        unfold okL
        rw [decide_eq_false (show ¬ 1 ≤ (body (cs z)).length by omega), Bool.false_and, Bool.false_and, Bool.false_and]
    refine ⟨_, pss_cons (ps_if (pt_not (pt_val (pt_isi "str" (pv 0) (hm := mi) (mn := ms)))) (pss_one (ps_ret pe_non)) pss_nil)
      (pss_cons (ps_set (i := 3) scLint.nd rfl (.inl rfl) (pe_ifExp (pt_cmpR op_eq (pe_slice sl_str (pv 0) po_none (po_some pe_int)) pe_str (nomark _)) (pe_slice sl_str (pv 0) (po_some pe_int) po_none) (pv 0))) pl), ?_⟩
    refine ⟨_, rfl, _, _, _, _, _, rfl, .ty _, rp_ty hR, kit_s d, _, rfl, ?_⟩
    cases e1 : isS d with
    | false =>
      refine iteT ?_
      have := q H (Same.refl H)
      rw [numV_none (fun z e => absurd e (isS_no e1 z))] at this
      exact this
    | true =>
      refine iteF ?_
      obtain ⟨z, rfl⟩ := isS_str e1
      cases hR
      obtain ⟨_, hz⟩ := hT z rfl
      refine ⟨_, rfl, 1, rfl, z, rfl, small_size hz, rfl, _, rfl, ?_⟩
      rw [head_minus]
      refine ite2 (fun h => ?_) (fun h => ?_)
      · refine ⟨_, rfl, 1, rfl, z, rfl, small_size hz, ?_⟩
        refine ql z _ none rfl rfl ?_
        rw [cut_tail]
        unfold body
        rw [if_pos (of_decide_eq_true h)]
      · refine ⟨_, rfl, ?_⟩
        refine ql z _ none rfl rfl ?_
        unfold body
        rw [if_neg fun e => h (decide_eq_true e)]
end
end G
set_option Elab.async false
set_option linter.all false
set_option maxRecDepth 100000
set_option maxHeartbeats 2000000
/-! S5: the law's words; its drawn texts. -/
namespace G
open PySem PySem.Spec PyProof.Rows L2 PySem.NumText
abbrev sDigits : Stmt := topS 10
abbrev sLine : Stmt := topS 12
theorem scDigits : FnScope ["_law_box_here", "_law_many", "_law_text", "_law_at", "_law_k"] ["_law_box_here"] (defScope sDigits) := ⟨rfl, rfl, rfl, by decide +kernel, rfl, by decide +kernel, by decide +kernel⟩
theorem scLine : FnScope ["_law_box_here", "_law_signs", "_law_words_here", "_law_k", "_law_text", "_law_at", "_law_j"] ["_law_box_here"] (defScope sLine) := ⟨rfl, rfl, rfl, by decide +kernel, rfl, by decide +kernel, by decide +kernel⟩
section
variable {P : Program} {w : World} {K : PySem.W.Frag} {mg : Str → Option Value} {base : Heap}
theorem ok_lwords {f : Addr} {fd : FuncData} (F : Fun K "_law_words" "_law_words" sLwords f fd) (mi : mg "isinstance" = none) (ms : mg "str" = none) : FnOk P w K mg base CX0 1 f fd ["_law_text"] (spWords K) := by
  refine F.ok scLwords (fun vs H Q E h => ?_) (fun cdv A outer s H vs Q E hr h => ?_)
  · obtain ⟨v, d, rfl, _⟩ := h
    rfl
  · obtain ⟨v, d, rfl, hR, hT, q1, q2⟩ := h
    refine ⟨_, pss_cons (ps_if (pt_not (pt_val (pt_isi "str" (pv 0) (hm := mi) (mn := ms)))) (pss_one (ps_ret pe_non)) pss_nil)
      (pss_cons (ps_set (i := 1) scLwords.nd rfl (.inl rfl) (pe_lst (pa_cons pe_str pa_nil)))
      (pss_cons (ps_for PassesOwn.never rfl (pi_str (pv 0)) (pg_name (i := 2) scLwords.nd rfl (.inl rfl))
        (pss_cons (ps_if (pt_cmpR op_eq (pv 2) pe_str (nomark _)) (pss_one (ps_ret pe_non)) pss_nil)
        (pss_one (ps_if (pt_cmpR op_eq (pv 2) pe_str (nomark _))
          (pss_one (ps_expr (pe_bm PySem.F.plainAttrs_list PySem.F.slot_list_append PySem.F.type_list_append mt_append (pv 1) (pa_cons pe_str pa_nil))))
          (pss_one (ps_asg (pe_op op_add_str (pe_ix ix_list (pv 1) (pe_un un_neg pe_int) (fun _ _ => rfl)) (pv 2)) (pg_sub (pv 1) (pe_un un_neg pe_int) set_list)))))))
      (pss_one (ps_ret (pe_ifExp (pt_cmpR op_in_seq pe_str (pv 1) (by rfl)) pe_non (pv 1)))))), ?_⟩
    refine ⟨_, rfl, _, _, _, _, _, rfl, .ty _, rp_ty hR, kit_s d, _, rfl, ?_⟩
    cases e1 : isS d with
    | false =>
      refine iteT ?_
      exact q1 (wordsD_no e1) H (Same.refl H)
    | true =>
      refine iteF ?_
      obtain ⟨z, rfl⟩ := isS_str e1
      cases hR
      obtain ⟨_, hz⟩ := hT z rfl
      have hzs : z.cps.size = z.length := rfl
      refine ⟨(by show 1 ≤ sizeLine; decide), fun D hD => ?_⟩
      refine ⟨_, rfl, z, rfl, ?_⟩
      refine for_it walk_str (fun i σ H2 => Same H H2 ∧ ∃ (ws : List Str) (x2 : Option V), σ = [some (.str z), some (.ref D), x2] ∧ ws ≠ [] ∧ ws.length ≤ i + 1 ∧ (∀ y ∈ ws, y.length ≤ i) ∧ (∀ y ∈ ws, 32 ∉ cs y) ∧
        TL.joinL [32] (ws.map cs) = (cs z).take i ∧ 10 ∉ (cs z).take i ∧ H2 D = some (.lst (ws.map V.str))) ?_ ?_ ?_ ?_
      · refine ⟨Same.new hD, [("" : Str)], none, rfl, by simp, by simp, ?_, ?_, rfl, by simp, upd_same⟩
        · intro y hy
          rw [List.mem_singleton.mp hy]
          exact Nat.le_refl 0
        · intro y hy
          rw [List.mem_singleton.mp hy]
          intro h
          cases h
      · exact fun _ _ _ _ _ => trivial
      · rintro i x σ H2 H3 hi ⟨s2, ws, x2, rfl, hne, hlen, hys, hfree, hj, h10, e2⟩ ⟨rfl, c, hc, rfl⟩
        have hc2 : (cs z)[i]? = some c := by
          rw [← hc, ← Array.getElem?_toList]
        have et : (cs z).take (i + 1) = (cs z).take i ++ [c] := by
          rw [List.take_add_one, hc2]
          rfl
        refine ⟨_, rfl, rfl, _, rfl, ?_⟩
        rw [one_is c 10 "\n" rfl]
        refine ite2 (fun h => ?_) (fun h => ?_)
        · have hc10 : c = 10 := of_decide_eq_true h
          refine q1 ?_ H3 s2
          show (if 10 ∈ cs z then none else _) = none
          rw [if_pos]
          rw [← hc10]
          exact List.mem_of_getElem? hc2
        · have nc10 : c ≠ 10 := fun e => h (decide_eq_true e)
          have h10' : 10 ∉ (cs z).take (i + 1) := by
            rw [et]
            intro hm
            rcases List.mem_append.mp hm with hm | hm
            · exact h10 hm
            · exact nc10 (List.mem_singleton.mp hm).symm
          refine ⟨_, rfl, rfl, _, rfl, ?_⟩
          rw [one_is c 32 " " rfl]
          refine ite2 (fun h32 => ?_) (fun h32 => ?_)
          · have hc32 : c = 32 := of_decide_eq_true h32
            refine ⟨_, rfl, .inl ⟨rfl, _, .of e2⟩, D, _, _, rfl, rfl, e2, ?_, ?_⟩
            · rw [List.length_map]
              exact Nat.lt_of_lt_of_le (show ws.length < 7002 by omega) (by rw [sizeLine_eq]; omega)
            · refine ⟨fun a o e => ?_, ws ++ [("" : Str)], _, rfl, by simp, ?_, ?_, ?_, ?_, h10', ?_⟩
              · rw [upd_ne (ne_of_none e hD)]
                exact s2 _ _ e
              · rw [List.length_append]
                show ws.length + 1 ≤ i + 1 + 1
                omega
              · intro y hy
                rcases List.mem_append.mp hy with hy | hy
                · have := hys y hy
                  omega
                · rw [List.mem_singleton.mp hy]
                  exact Nat.zero_le _
              · intro y hy
                rcases List.mem_append.mp hy with hy | hy
                · exact hfree y hy
                · rw [List.mem_singleton.mp hy]
                  intro h
                  cases h
              · rw [List.map_append, show List.map cs [("" : Str)] = [[]] from rfl, joinL_snoc (by simpa using hne), hj, et, hc32]
                rfl
              · rw [upd_same, List.map_append]
                rfl
          · have nc32 : c ≠ 32 := fun e => h32 (decide_eq_true e)
            obtain ⟨ini, wl, rfl⟩ : ∃ ini wl, ws = ini ++ [wl] := ⟨ws.dropLast, ws.getLast hne, (List.dropLast_concat_getLast hne).symm⟩
            have hwl := hys wl (by simp)
            have em : (ini ++ [wl]).map V.str = ini.map V.str ++ [V.str wl] := by
              rw [List.map_append]
              rfl
            have ix : ixN ((ini ++ [wl]).map V.str).length (-1) = some ini.length := by
              have hn : ((ini ++ [wl]).map V.str).length = ini.length + 1 := by
                rw [List.length_map, List.length_append]
                rfl
              rw [hn]
              unfold ixN
              rw [if_neg (by decide), if_pos (by omega)]
              exact congrArg some (by omega)
            refine ⟨_, rfl, 1, rfl, D, _, -1, .str wl, rfl, rfl, .of e2, by rw [em]; exact atI_last _ _, _, rfl, _, _, rfl, rfl, ?_, ?_⟩
            · show wl.length + 1 ≤ sizeLine
              rw [sizeLine_eq]
              omega
            refine ⟨_, rfl, 1, rfl, D, _, -1, ini.length, rfl, rfl, e2, ix, ?_⟩
            have cone : cs (⟨#[c]⟩ : Str) = [c] := rfl
            refine ⟨fun a o e => ?_, ini ++ [wl ++ ⟨#[c]⟩], _, rfl, by simp, ?_, ?_, ?_, ?_, h10', ?_⟩
            · rw [upd_ne (ne_of_none e hD)]
              exact s2 _ _ e
            · simp only [List.length_append, List.length_cons, List.length_nil] at hlen ⊢
              omega
            · intro y hy
              rcases List.mem_append.mp hy with hy | hy
              · have := hys y (List.mem_append_left _ hy)
                omega
              · rw [List.mem_singleton.mp hy, app_len]
                show wl.length + 1 ≤ i + 1
                omega
            · intro y hy
              rcases List.mem_append.mp hy with hy | hy
              · exact hfree y (List.mem_append_left _ hy)
              · rw [List.mem_singleton.mp hy, cs_app, cone]
                intro hm
                rcases List.mem_append.mp hm with hm | hm
                · exact hfree wl (by simp) hm
                · exact nc32 (List.mem_singleton.mp hm).symm
            · have e3 : (ini ++ [wl ++ ⟨#[c]⟩]).map cs = ini.map cs ++ [cs wl ++ [c]] := by
                rw [List.map_append]
                show _ ++ [cs (wl ++ ⟨#[c]⟩)] = _
                rw [cs_app, cone]
              have e4 : (ini ++ [wl]).map cs = ini.map cs ++ [cs wl] := by
                rw [List.map_append]
                rfl
              rw [e3, joinL_last, ← e4, hj, et]
            · rw [upd_same, em]
              have e5 : (ini.map V.str ++ [V.str wl]).set ini.length (V.str (wl ++ ⟨#[c]⟩)) = ini.map V.str ++ [V.str (wl ++ ⟨#[c]⟩)] := by
                have := List.set_append_right (s := ini.map V.str) (t := [V.str wl]) ini.length (V.str (wl ++ ⟨#[c]⟩)) (by rw [List.length_map]; exact Nat.le_refl _)
                rw [this, List.length_map, Nat.sub_self]
                rfl
              rw [e5, List.map_append]
              rfl
      · rintro σ H2 ⟨s2, ws, x2, rfl, hne, hlen, hys, hfree, hj, h10, e2⟩
        have hs : z.cps.size = (cs z).length := by simp [cs]
        rw [hs, List.take_length] at hj h10
        have esp := split_is hne hfree hj
        refine ⟨_, rfl, D, _, rfl, .inl (.of e2), rfl, ?_, _, rfl, ?_⟩
        · rw [List.all_map]
          exact List.all_eq_true.mpr fun _ _ => rfl
        · have ew : wordsD (.str z) = if emptyIn ws = true then none else some ws := by
            show (if 10 ∈ cs z then none else _) = _
            rw [if_neg h10, esp]
          show if (emptyIn ws) = true then _ else _
          cases e2' : emptyIn ws with
          | true =>
            refine iteT ?_
            rw [e2'] at ew
            exact q1 (ew.trans (if_pos rfl)) _ s2
          | false =>
            refine iteF ?_
            rw [e2'] at ew
            exact ⟨_, rfl, q2 _ (ew.trans (if_neg Bool.false_ne_true)) D _ s2 hD e2⟩
end
end G
set_option Elab.async false
set_option linter.all false
set_option maxRecDepth 100000
set_option maxHeartbeats 2000000
/-! S6: the law's drawn texts. -/
namespace G
open PySem PySem.Spec PyProof.Rows L2 PySem.NumText
def spText : Sp := fun vs H Q _ => ∃ (b : Addr) (n : Nat), vs = [.ref b] ∧ BoxAt H b n ∧ n ≤ 80000 ∧
  ∀ (z : Str) (H' : Hp), Asc z → z.length ≤ 110 → BoxAt H' b (n + 100) → But b H H' → Q (.str z) H'
theorem box_new {H : Hp} {b p : Addr} {n : Nat} {o : HO} (B : BoxAt H b n) (h : H p = none) : BoxAt (upd H p o) b n := B.keep fun o' e => Same.new h b o' e
theorem box_ne {H : Hp} {b p : Addr} {n : Nat} (B : BoxAt H b n) (h : H p = none) : p ≠ b := fun z => by
  obtain ⟨_, _, _, e, _⟩ := B
  rw [← z, h] at e
  cases e
theorem box_upd {H : Hp} {b p : Addr} {n : Nat} {o : HO} (B : BoxAt H b n) (h : p ≠ b) : BoxAt (upd H p o) b n := by
  obtain ⟨x, y, z, e, r⟩ := B
  exact ⟨x, y, z, (upd_ne h.symm).trans e, r⟩
/-- a store at what was new -/
theorem but_upd {b p : Addr} {H H1 : Hp} {o : HO} (k : But b H H1) (h : H p = none) : But b H (upd H1 p o) := fun c u n e => by
  rw [upd_ne (ne_of_none e h)]
  exact k c u n e
theorem free_of {b p : Addr} {H H' : Hp} (k : But b H H') (n : p ≠ b) (h : H' p = none) : H p = none := by
  cases e : H p with
  | none => rfl
  | some o =>
    rw [k p o n e] at h
    cases h
theorem sum_le {L : Nat} : ∀ {ys : List Str}, (∀ y ∈ ys, y.length ≤ L) → (ys.map (·.length)).sum ≤ ys.length * L
  | [], _ => Nat.zero_le _
  | y :: ys, h => by
    have h1 := h y List.mem_cons_self
    have h2 := sum_le (L := L) (ys := ys) fun x hx => h x (List.mem_cons_of_mem _ hx)
    rw [List.map_cons, List.sum_cons, List.length_cons, Nat.add_mul, Nat.one_mul]
    omega
theorem joinL_mem {S : List Nat} {c : Nat} : ∀ {ps : List (List Nat)}, c ∈ TL.joinL S ps → c ∈ S ∨ ∃ p ∈ ps, c ∈ p
  | [], h => nomatch h
  | [p], h => .inr ⟨p, List.mem_singleton.mpr rfl, h⟩
  | p :: q :: r, h => by
    have h' : c ∈ p ++ (S ++ TL.joinL S (q :: r)) := h
    rcases List.mem_append.mp h' with h | h
    · exact .inr ⟨p, List.mem_cons_self, h⟩
    · rcases List.mem_append.mp h with h | h
      · exact .inl h
      · rcases joinL_mem h with h | ⟨p', h1, h2⟩
        · exact .inl h
        · exact .inr ⟨p', List.mem_cons_of_mem _ h1, h2⟩
theorem join_asc {y : Str} {ys : List Str} (h1 : Asc y) (h2 : ∀ w ∈ ys, Asc w) : Asc (Txt.join y ys) := fun c hc => by
  rw [TL.join_eq] at hc
  have hc' : c ∈ TL.joinL (cs y) (ys.map cs) := by
    rw [← show cs (Str.join y ys) = _ from TL.tl_join y ys]
    exact hc
  rcases joinL_mem hc' with h | ⟨p, hp, h⟩
  · exact h1 c h
  · obtain ⟨w, hw, rfl⟩ := List.mem_map.mp hp
    exact h2 w hw c h
theorem join_len (y : Str) (ys : List Str) : (Txt.join y ys).length ≤ (ys.map (·.length)).sum + ys.length * y.length := by
  rw [TL.join_eq]
  exact StrLaws.join_length_le y ys
theorem asc_at {z : Str} (h : Asc z) {j : Nat} (hj : j < z.length) : ∃ c, z.cps[j]? = some c ∧ c < 128 := by
  have h1 : j < z.cps.size := hj
  refine ⟨z.cps[j], by simp [h1], h _ ?_⟩
  simp [cs]
theorem asc_of {z : Str} (h : (cs z).all (fun c => decide (c < 128)) = true) : Asc z := fun c hc => of_decide_eq_true (List.all_eq_true.mp h c hc)
theorem asc_one {c : Nat} (h : c < 128) : Asc ⟨#[c]⟩ := fun x hx => by
  have : x ∈ [c] := hx
  rw [List.mem_singleton.mp this]
  exact h
theorem pick_str {l : List Str} {j : Nat} (h : j < l.length) : (l.map V.str)[j]? = some (V.str l[j]) := by
  rw [List.getElem?_map, List.getElem?_eq_getElem h]
  rfl
section
variable {P : Program} {w : World} {K : PySem.W.Frag} {mg : Str → Option Value} {base : Heap}
theorem ok_digits {f fT : Addr} {fd fdT : FuncData} (F : Fun K "_law_digits" "_law_digits" sDigits f fd) (FT : Fun K "_law_take" "_law_take" sTake fT fdT) (bT : Binds K fdT ["_law_box_here", "_law_many"] [])
    (gT : mg "_law_take" = some (.ref fT)) (mr : mg "range" = none) (ml : mg "len" = none) : FnOk P w K mg base CX0 2 f fd ["_law_box_here"] spText := by
  have GT : FnOk P w K mg base CX0 1 fT fdT ["_law_box_here", "_law_many"] spTake := ok_take FT
  refine F.ok scDigits (fun vs H Q E h => ?_) (fun cdv A outer s H vs Q E hr h => ?_)
  · obtain ⟨b, n, rfl, _⟩ := h
    rfl
  · obtain ⟨b, n, rfl, hB, hn, q⟩ := h
    refine ⟨_, pss_cons (ps_set (i := 1) scDigits.nd rfl (.inl rfl) (pe_ix ix_list (pe_lst (pa_cons pe_int (pa_cons pe_int (pa_cons pe_int (pa_cons pe_int (pa_cons pe_int (pa_cons pe_int (pa_cons pe_int (pa_cons pe_int pa_nil)))))))))
        (pe_call GT hr rfl gT FT.kp bT .nil pass0 (pa_cons (pv 0) (pa_cons pe_int pa_nil))) (fun _ _ => rfl)))
      (pss_cons (ps_set (i := 2) scDigits.nd rfl (.inl rfl) (pe_join pe_str (pe_lc (own := [("_law_k", 4)]) (g := gName 4) (tt := tYes) (by rfl) scDigits.nd (pi_range1 rfl mr (pa_cons (pv 1) pa_nil))
        (blkOk_by (own := [("_law_k", 4)]) (N := ["_law_box_here", "_law_many", "_law_text", "_law_at", "_law_k"]) (sc := defScope sDigits) (by decide +kernel)) (fun _ _ _ _ _ => pg_name (i := 4) scDigits.nd rfl (.inl rfl)) (fun _ _ _ _ _ => pts_nil)
        (fun _ _ _ _ _ => pe_item_str pe_str (pe_call GT hr rfl gT FT.kp bT .nil pass0 (pa_cons (pv 0) (pa_cons pe_int pa_nil))) (fun _ _ => rfl)))))
      (pss_cons (ps_set (i := 2) scDigits.nd rfl (.inl rfl) (pe_op op_add_str (pe_ix ix_list (pe_lst (pa_cons pe_str (pa_cons pe_str (pa_cons pe_str (pa_cons pe_str (pa_cons pe_str (pa_cons pe_str pa_nil)))))))
        (pe_call GT hr rfl gT FT.kp bT .nil pass0 (pa_cons (pv 0) (pa_cons pe_int pa_nil))) (fun _ _ => rfl)) (pv 2)))
      (pss_cons (ps_if (pt_cmpR op_eq (pe_call GT hr rfl gT FT.kp bT .nil pass0 (pa_cons (pv 0) (pa_cons pe_int pa_nil))) pe_int (nomark _))
        (pss_cons (ps_set (i := 3) scDigits.nd rfl (.inl rfl) (pe_call GT hr rfl gT FT.kp bT .nil pass0 (pa_cons (pv 0) (pa_cons (pe_op op_add (pe_callB call_len_str (by rfl) ml PySem.boot_len (pa_cons (pv 2) pa_nil)) pe_int) pa_nil))))
        (pss_one (ps_set (i := 2) scDigits.nd rfl (.inl rfl) (pe_op op_add_str (pe_op op_add_str (pe_slice sl_str (pv 2) po_none (po_some (pv 3)))
          (pe_ix ix_list (pe_lst (pa_cons pe_str (pa_cons pe_str (pa_cons pe_str (pa_cons pe_str (pa_cons pe_str (pa_cons pe_str (pa_cons pe_str pa_nil)))))))) (pe_call GT hr rfl gT FT.kp bT .nil pass0 (pa_cons (pv 0) (pa_cons pe_int pa_nil))) (fun _ _ => rfl)))
          (pe_slice sl_str (pv 2) (po_some (pv 3)) po_none))))) pss_nil)
      (pss_one (ps_ret (pv 2)))))), ?_⟩
    -- many
    refine ⟨(by show 8 ≤ sizeLine; decide), fun p hp => ?_⟩
    refine ⟨_, rfl, b, 8, n, rfl, box_new hB hp, by omega, by decide, by decide, fun r H1 r0 r1 B1 k1 => ?_⟩
    obtain ⟨j, rfl, hj⟩ := draw_at (n := 8) r0 r1 rfl
    have np := box_ne hB hp
    have e1 := k1 _ _ np upd_same
    have kk1 : But b H H1 := (But.new hp).trans k1
    obtain ⟨m, hm, hm31⟩ : ∃ m : Nat, ([.int 1, .int 1, .int 2, .int 3, .int 3, .int 4, .int 30, .int 31] : List V)[j]? = some (.int m) ∧ m ≤ 31 := by
      match j, hj with
      | 0, _ => exact ⟨1, rfl, by decide⟩
      | 1, _ => exact ⟨1, rfl, by decide⟩
      | 2, _ => exact ⟨2, rfl, by decide⟩
      | 3, _ => exact ⟨3, rfl, by decide⟩
      | 4, _ => exact ⟨3, rfl, by decide⟩
      | 5, _ => exact ⟨4, rfl, by decide⟩
      | 6, _ => exact ⟨30, rfl, by decide⟩
      | 7, _ => exact ⟨31, rfl, by decide⟩
    refine ⟨p, _, _, .int m, rfl, rfl, .of e1, atI_nat hm, ?_⟩
    -- the digits
    refine ⟨⟨_, rfl⟩, ?_⟩
    refine ⟨_, rfl, m, rfl, by omega, by omega, fun D hD => ?_⟩
    have nD := box_ne B1 hD
    have fD := free_of kk1 nD hD
    refine lc_range (lo := 0) (n := (m : Int).toNat) (fun i H2 => ∃ ys : List Str, H2 D = some (.lst (ys.map V.str)) ∧ ys.length = i ∧ (∀ y ∈ ys, Asc y ∧ y.length ≤ 1) ∧ BoxAt H2 b (n + 1 + i) ∧ But b H H2) ?_ ?_ ?_
    · exact ⟨[], upd_same, rfl, (fun y h => nomatch h), box_new B1 hD, but_upd kk1 fD⟩
    · rintro i H2 hi ⟨ys, e2, hl, hy, B2, k2⟩
      refine ⟨rfl, ?_⟩
      unfold tYes
      dsimp only
      rw [if_pos rfl]
      refine ⟨_, rfl, b, 10, n + 1 + i, rfl, B2, by omega, by decide, by decide, fun r H3 r0 r1 B3 k3 => ?_⟩
      obtain ⟨j, rfl, hj⟩ := draw_at (n := 10) r0 r1 rfl
      obtain ⟨c, hc, c128⟩ := asc_at (z := "0123456789") (asc_of (by decide +kernel)) (j := j) hj
      refine ⟨_, _, c, rfl, rfl, by omega, by omega, (show ((j : Nat) : Int) < ((10 : Nat) : Int) by omega), hc, ?_⟩
      have e3 := k3 _ _ nD e2
      refine ⟨_, e3, ?_, ys ++ [⟨#[c]⟩], ?_, ?_, ?_, ?_, ?_⟩
      · rw [List.length_map]
        exact small1000 (by omega)
      · rw [upd_same, List.map_append]
        rfl
      · rw [List.length_append, hl]
        rfl
      · intro y h
        rcases List.mem_append.mp h with h | h
        · exact hy y h
        · rw [List.mem_singleton.mp h]
          exact ⟨asc_one c128, Nat.le_refl _⟩
      · exact (box_upd B3 nD).mono (by omega)
      · exact but_upd (k2.trans k3) fD
    · rintro H2 ⟨ys, e2, hl, hy, B2, k2⟩
      have hl31 : ys.length ≤ 31 := by omega
      have hsum := sum_le (L := 1) fun y h => (hy y h).2
      refine ⟨"", D, ys, rfl, rfl, .inl (.of e2), ?_, ?_⟩
      · show _ + ys.length * 0 ≤ _
        omega
      have ascD : Asc (Txt.join "" ys) := join_asc (fun c h => nomatch h) fun y h => (hy y h).1
      have lenD : (Txt.join "" ys).length ≤ 31 := by
        have := join_len "" ys
        have e0 : ("" : Str).length = 0 := rfl
        rw [e0] at this
        omega
      generalize Txt.join "" ys = z0 at ascD lenD
      -- the sign
      refine ⟨(by show 6 ≤ sizeLine; decide), fun p2 hp2 => ?_⟩
      refine ⟨_, rfl, b, 6, n + 40, rfl, (box_new B2 hp2).mono (by omega), by omega, by decide, by decide, fun r H3 r0 r1 B3 k3 => ?_⟩
      obtain ⟨j, rfl, hj⟩ := draw_at (n := 6) r0 r1 rfl
      have np2 := box_ne B2 hp2
      have e3 := k3 _ _ np2 upd_same
      obtain ⟨x, hx, ascx, lenx⟩ : ∃ x : Str, ([.str "", .str "", .str "-", .str "--", .str "+", .str "-"] : List V)[j]? = some (.str x) ∧ Asc x ∧ x.length ≤ 2 := by
        match j, hj with
        | 0, _ => exact ⟨"", rfl, asc_of (by decide +kernel), by decide +kernel⟩
        | 1, _ => exact ⟨"", rfl, asc_of (by decide +kernel), by decide +kernel⟩
        | 2, _ => exact ⟨"-", rfl, asc_of (by decide +kernel), by decide +kernel⟩
        | 3, _ => exact ⟨"--", rfl, asc_of (by decide +kernel), by decide +kernel⟩
        | 4, _ => exact ⟨"+", rfl, asc_of (by decide +kernel), by decide +kernel⟩
        | 5, _ => exact ⟨"-", rfl, asc_of (by decide +kernel), by decide +kernel⟩
      refine ⟨p2, _, _, .str x, rfl, rfl, .of e3, atI_nat hx, _, rfl, _, _, rfl, rfl, ?_, ?_⟩
      · rw [sizeLine_eq]
        omega
      have asc1 : Asc (x ++ z0) := ascx.app ascD
      have len1 : (x ++ z0).length ≤ 33 := by
        rw [app_len]
        omega
      generalize x ++ z0 = z1 at asc1 len1
      have kk3 : But b H H3 := (k2.trans (But.new hp2)).trans k3
      -- another sign somewhere
      refine ⟨_, rfl, b, 4, n + 41, rfl, B3, by omega, by decide, by decide, fun r H4 _ _ B4 k4 => ?_⟩
      refine ⟨rfl, _, rfl, ite2 (fun _ => ?_) (fun _ => ?_)⟩
      · refine ⟨_, rfl, _, rfl, z1, rfl, small_size (by omega), _, _, rfl, rfl, b, _, n + 42, rfl, B4, by omega, by omega, by omega, fun at_ H5 a0 a1 B5 k5 => ?_⟩
        refine ⟨_, rfl, _, rfl, at_, rfl, z1, rfl, small_size (by omega), ?_⟩
        refine ⟨(by show 7 ≤ sizeLine; decide), fun p3 hp3 => ?_⟩
        refine ⟨_, rfl, b, 7, n + 43, rfl, box_new B5 hp3, by omega, by decide, by decide, fun r H6 r0 r1 B6 k6 => ?_⟩
        obtain ⟨j, rfl, hj⟩ := draw_at (n := 7) r0 r1 rfl
        have np3 := box_ne B5 hp3
        have e6 := k6 _ _ np3 upd_same
        obtain ⟨y, hy, ascy, leny⟩ : ∃ y : Str, ([.str " ", .str "a", .str "_", .str "-", .str "\n", .str "0", .str "."] : List V)[j]? = some (.str y) ∧ Asc y ∧ y.length ≤ 2 := by
          match j, hj with
          | 0, _ => exact ⟨" ", rfl, asc_of (by decide +kernel), by decide +kernel⟩
          | 1, _ => exact ⟨"a", rfl, asc_of (by decide +kernel), by decide +kernel⟩
          | 2, _ => exact ⟨"_", rfl, asc_of (by decide +kernel), by decide +kernel⟩
          | 3, _ => exact ⟨"-", rfl, asc_of (by decide +kernel), by decide +kernel⟩
          | 4, _ => exact ⟨"\n", rfl, asc_of (by decide +kernel), by decide +kernel⟩
          | 5, _ => exact ⟨"0", rfl, asc_of (by decide +kernel), by decide +kernel⟩
          | 6, _ => exact ⟨".", rfl, asc_of (by decide +kernel), by decide +kernel⟩
        have c1 := cutS_length z1 none (some at_)
        have c2 := cutS_length z1 (some at_) none
        refine ⟨p3, _, _, .str y, rfl, rfl, .of e6, atI_nat hy, _, _, rfl, rfl, ?_, ?_⟩
        · rw [sizeLine_eq]
          omega
        refine ⟨_, rfl, _, rfl, at_, rfl, z1, rfl, small_size (by omega), _, _, rfl, rfl, ?_, ?_⟩
        · rw [sizeLine_eq, app_len]
          omega
        refine ⟨_, rfl, ?_⟩
        refine q _ H6 ((asc1.cut _ _).app ascy |>.app (asc1.cut _ _)) ?_ (B6.mono (by omega)) ((((kk3.trans k4).trans k5).trans (But.new hp3)).trans k6)
        rw [app_len, app_len]
        omega
      · refine ⟨_, rfl, ?_⟩
        exact q z1 H4 asc1 (by omega) (B4.mono (by omega)) (kk3.trans k4)
end
end G
set_option Elab.async false
set_option linter.all false
set_option maxRecDepth 100000
set_option maxHeartbeats 2000000
/-! S7: the law's drawn line. -/
namespace G
open PySem PySem.Spec PyProof.Rows L2 PySem.NumText
section
variable {P : Program} {w : World} {K : PySem.W.Frag} {mg : Str → Option Value} {base : Heap}
theorem ok_line {f fT : Addr} {fd fdT : FuncData} (F : Fun K "_law_line" "_law_line" sLine f fd) (FT : Fun K "_law_take" "_law_take" sTake fT fdT) (bT : Binds K fdT ["_law_box_here", "_law_many"] [])
    (gT : mg "_law_take" = some (.ref fT)) (mr : mg "range" = none) (ml : mg "len" = none) : FnOk P w K mg base CX0 2 f fd ["_law_box_here"] spText := by
  have GT : FnOk P w K mg base CX0 1 fT fdT ["_law_box_here", "_law_many"] spTake := ok_take FT
  refine F.ok scLine (fun vs H Q E h => ?_) (fun cdv A outer s H vs Q E hr h => ?_)
  · obtain ⟨b, n, rfl, _⟩ := h
    rfl
  · obtain ⟨b, n, rfl, hB, hn, q⟩ := h
    -- with any signs
    obtain ⟨tl, pl, ql⟩ : ∃ t, PSs (cxOf CX0 P w K mg base ["_law_box_here", "_law_signs", "_law_words_here", "_law_k", "_law_text", "_law_at", "_law_j"] "_law_line" (defScope sLine) f cdv A outer s H E).nox ((defBody sLine).drop 1) t ∧
        ∀ sg : Str, Asc sg → 0 < sg.length → sg.length ≤ 200 → t { nx := fun _ H' => Q .non H', rt := Q } [some (.ref b), some (.str sg), none, none, none, none, none] H := by
      refine ⟨_, pss_cons (ps_set (i := 2) scLine.nd rfl (.inl rfl) (pe_lst pa_nil))
        (pss_cons (ps_for PassesOwn.never rfl (pi_range1 rfl mr (pa_cons (pe_op op_add pe_int (pe_call GT hr rfl gT FT.kp bT .nil pass0 (pa_cons (pv 0) (pa_cons pe_int pa_nil)))) pa_nil)) (pg_name (i := 3) scLine.nd rfl (.inl rfl))
          (pss_one (ps_expr (pe_bm PySem.F.plainAttrs_list PySem.F.slot_list_append PySem.F.type_list_append mt_append (pv 2) (pa_cons (pe_join pe_str
            (pe_lc (own := [("_law_j", 6)]) (g := gName 6) (tt := tYes) (by rfl) scLine.nd (pi_range1 rfl mr (pa_cons (pe_op op_add pe_int (pe_call GT hr rfl gT FT.kp bT .nil pass0 (pa_cons (pv 0) (pa_cons pe_int pa_nil)))) pa_nil))
              (blkOk_by (own := [("_law_j", 6)]) (N := ["_law_box_here", "_law_signs", "_law_words_here", "_law_k", "_law_text", "_law_at", "_law_j"]) (sc := defScope sLine) (by decide +kernel)) (fun _ _ _ _ _ => pg_name (i := 6) scLine.nd rfl (.inl rfl)) (fun _ _ _ _ _ => pts_nil)
              (fun _ _ _ _ _ => pe_item_str (pv 1) (pe_call GT hr rfl gT FT.kp bT .nil pass0 (pa_cons (pv 0) (pa_cons (pe_callB call_len_str (by rfl) ml PySem.boot_len (pa_cons (pv 1) pa_nil)) pa_nil))) (fun _ _ => rfl)))) pa_nil)))))
        (pss_cons (ps_set (i := 4) scLine.nd rfl (.inl rfl) (pe_join pe_str (pv 2)))
        (pss_cons (ps_if (pt_cmpR op_eq (pe_call GT hr rfl gT FT.kp bT .nil pass0 (pa_cons (pv 0) (pa_cons pe_int pa_nil))) pe_int (nomark _))
          (pss_cons (ps_set (i := 5) scLine.nd rfl (.inl rfl) (pe_call GT hr rfl gT FT.kp bT .nil pass0 (pa_cons (pv 0) (pa_cons (pe_op op_add (pe_callB call_len_str (by rfl) ml PySem.boot_len (pa_cons (pv 4) pa_nil)) pe_int) pa_nil))))
          (pss_one (ps_set (i := 4) scLine.nd rfl (.inl rfl) (pe_op op_add_str (pe_op op_add_str (pe_slice sl_str (pv 4) po_none (po_some (pv 5)))
            (pe_ix ix_list (pe_lst (pa_cons pe_str (pa_cons pe_str (pa_cons pe_str pa_nil)))) (pe_call GT hr rfl gT FT.kp bT .nil pass0 (pa_cons (pv 0) (pa_cons pe_int pa_nil))) (fun _ _ => rfl)))
            (pe_slice sl_str (pv 4) (po_some (pv 5)) po_none))))) pss_nil)
        (pss_one (ps_ret (pv 4)))))), ?_⟩
      intro sg ascg pos lg
      refine ⟨Nat.zero_le _, fun D hD => ?_⟩
      have nD := box_ne hB hD
      refine ⟨_, rfl, b, 8, n, rfl, box_new hB hD, by omega, by decide, by decide, fun r H1 r0 r1 B1 k1 => ?_⟩
      have e1 := k1 _ _ nD upd_same
      have kk1 : But b H H1 := (But.new hD).trans k1
      refine ⟨_, _, rfl, rfl, _, rfl, by omega, by omega, ?_⟩
      obtain ⟨m, rfl, hm⟩ := draw_at (n := 8) r0 r1 rfl
      have em : ((1 : Int) + (m : Int)).toNat = 1 + m := by omega
      rw [em]
      refine for_range (lo := 0) (n := 1 + m) (fun i σ H2 => ∃ (ws : List Str) (x3 : Option V), σ = [some (.ref b), some (.str sg), some (.ref D), x3, none, none, none] ∧ H2 D = some (.lst (ws.map V.str)) ∧ ws.length = i ∧ (∀ y ∈ ws, Asc y ∧ y.length ≤ 5) ∧
        BoxAt H2 b (n + 1 + 6 * i) ∧ But b H H2) ?_ ?_ ?_
      · exact ⟨[], none, rfl, e1, rfl, (fun y h => nomatch h), B1, kk1⟩
      · rintro i σ H2 hi ⟨ws, x3, rfl, e2, hl, hw, B2, k2⟩
        refine ⟨_, rfl, .inl ⟨rfl, _, .of e2⟩, ⟨_, rfl⟩, ?_⟩
        refine ⟨_, rfl, b, 5, n + 1 + 6 * i, rfl, B2, by omega, by decide, by decide, fun r H3 r0 r1 B3 k3 => ?_⟩
        have e3 := k3 _ _ nD e2
        refine ⟨_, _, rfl, rfl, _, rfl, by omega, by omega, fun D2 hD2 => ?_⟩
        have nD2 := box_ne B3 hD2
        have kk3 := k2.trans k3
        have fD2 := free_of kk3 nD2 hD2
        have nDD : D ≠ D2 := ne_of_none e3 hD2
        obtain ⟨m2, rfl, hm2⟩ := draw_at (n := 5) r0 r1 rfl
        have em2 : ((1 : Int) + (m2 : Int)).toNat = 1 + m2 := by omega
        rw [em2]
        refine lc_range (lo := 0) (n := 1 + m2) (fun i2 H4 => ∃ ys : List Str, H4 D2 = some (.lst (ys.map V.str)) ∧ ys.length = i2 ∧ (∀ y ∈ ys, Asc y ∧ y.length ≤ 1) ∧ BoxAt H4 b (n + 1 + 6 * i + 1 + i2) ∧ But b H H4 ∧ H4 D = some (.lst (ws.map V.str))) ?_ ?_ ?_
        · exact ⟨[], upd_same, rfl, (fun y h => nomatch h), box_new B3 hD2, but_upd kk3 fD2, (upd_ne nDD).trans e3⟩
        · rintro i2 H4 hi2 ⟨ys, e4, hl2, hy, B4, k4, e4D⟩
          refine ⟨rfl, ?_⟩
          unfold tYes
          dsimp only
          rw [if_pos rfl]
          refine ⟨_, rfl, _, rfl, _, rfl, sg, rfl, small_size (by omega), b, _, n + 1 + 6 * i + 1 + i2, rfl, B4, by omega, by omega, by omega, fun r H5 r0 r1 B5 k5 => ?_⟩
          obtain ⟨j, rfl, hj⟩ := draw_at r0 r1 rfl
          obtain ⟨c, hc, c128⟩ := asc_at ascg hj
          refine ⟨sg, _, c, rfl, rfl, by omega, by omega, by omega, hc, ?_⟩
          have e5 := k5 _ _ nD2 e4
          refine ⟨_, e5, ?_, ys ++ [⟨#[c]⟩], ?_, ?_, ?_, ?_, ?_, ?_⟩
          · rw [List.length_map]
            exact small1000 (by omega)
          · rw [upd_same, List.map_append]
            rfl
          · rw [List.length_append, hl2]
            rfl
          · intro y h
            rcases List.mem_append.mp h with h | h
            · exact hy y h
            · rw [List.mem_singleton.mp h]
              exact ⟨asc_one c128, Nat.le_refl _⟩
          · exact (box_upd B5 nD2).mono (by omega)
          · exact but_upd (k4.trans k5) fD2
          · exact (upd_ne nDD).trans (k5 _ _ nD e4D)
        · rintro H4 ⟨ys, e4, hl2, hy, B4, k4, e4D⟩
          have hsum := sum_le (L := 1) fun y h => (hy y h).2
          refine ⟨"", D2, ys, rfl, rfl, .inl (.of e4), ?_, ?_⟩
          · show _ + ys.length * 0 ≤ _
            omega
          have ascD : Asc (Txt.join "" ys) := join_asc (fun c h => nomatch h) fun y h => (hy y h).1
          have lenD : (Txt.join "" ys).length ≤ 5 := by
            have := join_len "" ys
            have e0 : ("" : Str).length = 0 := rfl
            rw [e0] at this
            omega
          generalize Txt.join "" ys = y0 at ascD lenD
          refine ⟨D, _, _, rfl, rfl, e4D, ?_, ws ++ [y0], _, rfl, ?_, ?_, ?_, ?_, ?_⟩
          · rw [List.length_map]
            exact small1000 (by omega)
          · rw [upd_same, List.map_append]
            rfl
          · rw [List.length_append, hl]
            rfl
          · intro y h
            rcases List.mem_append.mp h with h | h
            · exact hw y h
            · rw [List.mem_singleton.mp h]
              exact ⟨ascD, lenD⟩
          · exact (box_upd B4 nD).mono (by omega)
          · exact but_upd k4 hD
      · rintro σ H2 ⟨ws, x3, rfl, e2, hl, hw, B2, k2⟩
        have hsum := sum_le (L := 5) fun y h => (hw y h).2
        have hl8 : ws.length ≤ 8 := by omega
        refine ⟨⟨_, rfl⟩, _, rfl, " ", D, ws, rfl, rfl, .inl (.of e2), ?_, ?_⟩
        · show _ + ws.length * 1 ≤ _
          omega
        have asc1 : Asc (Txt.join " " ws) := join_asc (asc_of (by decide +kernel)) fun y h => (hw y h).1
        have len1 : (Txt.join " " ws).length ≤ 48 := by
          have := join_len " " ws
          have e0 : (" " : Str).length = 1 := rfl
          rw [e0] at this
          omega
        generalize Txt.join " " ws = z1 at asc1 len1
        refine ⟨_, rfl, b, 2, n + 60, rfl, B2.mono (by omega), by omega, by decide, by decide, fun r H4 _ _ B4 k4 => ?_⟩
        refine ⟨rfl, _, rfl, ite2 (fun _ => ?_) (fun _ => ?_)⟩
        · refine ⟨_, rfl, _, rfl, z1, rfl, small_size (by omega), _, _, rfl, rfl, b, _, n + 61, rfl, B4, by omega, by omega, by omega, fun at_ H5 a0 a1 B5 k5 => ?_⟩
          refine ⟨_, rfl, _, rfl, at_, rfl, z1, rfl, small_size (by omega), ?_⟩
          refine ⟨(by show 3 ≤ sizeLine; decide), fun p3 hp3 => ?_⟩
          refine ⟨_, rfl, b, 3, n + 62, rfl, box_new B5 hp3, by omega, by decide, by decide, fun r H6 r0 r1 B6 k6 => ?_⟩
          obtain ⟨j, rfl, hj⟩ := draw_at (n := 3) r0 r1 rfl
          have np3 := box_ne B5 hp3
          have e6 := k6 _ _ np3 upd_same
          obtain ⟨y, hy, ascy, leny⟩ : ∃ y : Str, ([.str " ", .str "  ", .str "\n"] : List V)[j]? = some (.str y) ∧ Asc y ∧ y.length ≤ 2 := by
            match j, hj with
            | 0, _ => exact ⟨" ", rfl, asc_of (by decide +kernel), by decide +kernel⟩
            | 1, _ => exact ⟨"  ", rfl, asc_of (by decide +kernel), by decide +kernel⟩
            | 2, _ => exact ⟨"\n", rfl, asc_of (by decide +kernel), by decide +kernel⟩
          have c1 := cutS_length z1 none (some at_)
          have c2 := cutS_length z1 (some at_) none
          refine ⟨p3, _, _, .str y, rfl, rfl, .of e6, atI_nat hy, _, _, rfl, rfl, ?_, ?_⟩
          · rw [sizeLine_eq]
            omega
          refine ⟨_, rfl, _, rfl, at_, rfl, z1, rfl, small_size (by omega), _, _, rfl, rfl, ?_, ?_⟩
          · rw [sizeLine_eq, app_len]
            omega
          refine ⟨_, rfl, ?_⟩
          refine q _ H6 ((asc1.cut _ _).app ascy |>.app (asc1.cut _ _)) ?_ (B6.mono (by omega)) ((((k2.trans k4).trans k5).trans (But.new hp3)).trans k6)
          rw [app_len, app_len]
          omega
        · refine ⟨_, rfl, ?_⟩
          exact q z1 H4 asc1 (by omega) (B4.mono (by omega)) (k2.trans k4)
    refine ⟨_, pss_cons (ps_set (i := 1) scLine.nd rfl (.inr rfl) pe_str) pl, ?_⟩
    exact ql _ (asc_of (by decide +kernel)) (by decide +kernel) (by decide +kernel)
end
end G
set_option Elab.async false
set_option linter.all false
set_option maxRecDepth 100000
set_option maxHeartbeats 2000000
/-! S8: parse_integer's calls. -/
namespace G
open PySem PySem.Spec PyProof.Rows L2 PySem.NumText
section
variable {K : PySem.W.Frag} {f : Addr} {fd : FuncData}
abbrev FP (K : PySem.W.Frag) (f : Addr) (fd : FuncData) : Prop := FunD K "parse_integer" "parse_integer" (defArgs sParse) (defBody sParse) (defScope sParse) [] [("low", .int (-999)), ("high", .int 999)] f fd
theorem bind_none (F : FP K f fd) : ∃ ds, Vals [V.int (-999), V.int 999] ds ∧ Binds K fd ["text", "low", "high"] ds :=
  F.binds0 (ps := ["text", "low", "high"]) 1 (by simp) rfl fun D doc pm an cdv ct us ks h1 h2 => match us, ks, h1, h2 with
    | [_], [_, _], _, _ => ⟨_, _, _, _, _, _, rfl, rfl, _, _, _, _, _, _, rfl, rfl, rfl⟩
theorem bind_both (F : FP K f fd) : ∃ mv : List Value, KBn K fd ["text", "low", "high"] 1 ["low", "high"] (fun us ws => us ++ ws) (fun vs zs => vs ++ zs) :=
  F.kbinds0 (ps := ["text", "low", "high"]) 1 ["low", "high"] [] (fun us _ ws => us ++ ws) (by simp) (fun q h => nomatch h) (fun r1 _ r3 => r1.append r3)
    fun D doc pm an cdv ct us mv ws h1 h2 h3 => match us, mv, ws, h1, h2, h3 with
    | [_], [], [_, _], _, _, _ => rfl
theorem bind_high (F : FP K f fd) : ∃ mv : List Value, KBn K fd ["text", "low", "high"] 1 ["high"] (fun us ws => us ++ (mv ++ ws)) (fun vs zs => vs ++ ([V.int (-999)] ++ zs)) :=
  F.kbinds0 (ps := ["text", "low", "high"]) 1 ["high"] [("low", .int (-999))] (fun us mv ws => us ++ (mv ++ ws)) (by simp) (by simp) (fun r1 r2 r3 => r1.append (r2.append r3))
    fun D doc pm an cdv ct us mv ws h1 h2 h3 => match us, mv, ws, h1, h2, h3 with
    | [_], [_], [_], _, _, _ => ⟨_, _, _, _, _, _, rfl, rfl, rfl⟩
theorem bind_low (F : FP K f fd) : ∃ mv : List Value, KBn K fd ["text", "low", "high"] 1 ["low"] (fun us ws => us ++ (ws ++ mv)) (fun vs zs => vs ++ (zs ++ [V.int 999])) :=
  F.kbinds0 (ps := ["text", "low", "high"]) 1 ["low"] [("high", .int 999)] (fun us mv ws => us ++ (ws ++ mv)) (by simp) (by simp) (fun r1 r2 r3 => r1.append (r3.append r2))
    fun D doc pm an cdv ct us mv ws h1 h2 h3 => match us, mv, ws, h1, h2, h3 with
    | [_], [_], [_], _, _, _ => ⟨_, _, _, _, _, _, rfl, rfl, rfl⟩
end
end G
set_option Elab.async false
set_option linter.all false
set_option maxRecDepth 100000
set_option maxHeartbeats 4000000
/-! S9: repr of None too; the laps over a line. -/
namespace G
open PySem PySem.Spec PyProof.Rows L2 PySem.NumText
abbrev sLaw : Stmt := topS 14
theorem scLaw : FnScope ["_law_script", "_law_k", "_law_box_here", "_law_turn", "_law_odd", "_law_text", "_law_least", "_law_most", "_law_found", "_law_due", "_law_line_here", "_law_lap", "_law_words_here"] ["_law_script"] (defScope sLaw) := ⟨rfl, rfl, rfl, by decide +kernel, rfl, by decide +kernel, by decide +kernel⟩
abbrev NL : List Str := ["_law_script", "_law_k", "_law_box_here", "_law_turn", "_law_odd", "_law_text", "_law_least", "_law_most", "_law_found", "_law_due", "_law_line_here", "_law_lap", "_law_words_here"]
def forBody : Stmt → List Stmt
  | .For _ _ b _ _ => b
  | _ => []
/-- the inner loop's body -/
def turnS : List Stmt := forBody ((forBody ((defBody sLaw).getD 0 (.Pass ⟨0, 0, 0, 0⟩))).getD 1 (.Pass ⟨0, 0, 0, 0⟩))
/-- repr(None), repr of a list of data -/
def rRepr2 (K : PySem.W.Frag) : List V → Hp → VK → Prop := fun vs H Q => (vs = [.non] ∧ Q (.str "None") H) ∨ rRepr K vs H Q
theorem call_repr2 {X : Cx} (hg : X.A.guards = some []) (hu : X.A.units + 64 < cLine) : CallR X (.builtin "repr") (rRepr2 X.K) := by
  intro pins s σ H xs us Q I r h
  rcases h with ⟨rfl, q⟩ | h
  · obtain ⟨u, rfl, hu'⟩ := vals1 r
    cases hu'
    exact PySem.P.repr_of_none ⟨.str "None", H, I.tok _, ⟨_, rfl⟩, q⟩
  · exact call_repr hg hu pins s σ H xs us Q I r h
theorem same_upd {p : Addr} {H H1 : Hp} {o : HO} (s : Same H H1) (n : H p = none) : Same H (upd H1 p o) := fun c u e => by
  rw [upd_ne (ne_of_none e n)]
  exact s c u e
/-! ### words as data -/
theorem joinL_len : ∀ {ps : List (List Nat)}, ps ≠ [] → (TL.joinL [32] ps).length + 1 = (ps.map (·.length)).sum + ps.length
  | [], h => absurd rfl h
  | [p], _ => by
    show p.length + 1 = (p.length + 0) + 1
    omega
  | p :: q :: r, _ => by
    have ih := joinL_len (ps := q :: r) (by simp)
    show (p ++ ([32] ++ TL.joinL [32] (q :: r))).length + 1 = (p.length + ((q :: r).map (·.length)).sum) + ((q :: r).length + 1)
    rw [List.length_append, List.length_append]
    show p.length + (1 + (TL.joinL [32] (q :: r)).length) + 1 = _
    omega
theorem mem_joinL {S : List Nat} {c : Nat} : ∀ {ps : List (List Nat)} {p : List Nat}, p ∈ ps → c ∈ p → c ∈ TL.joinL S ps
  | [], _, h, _ => nomatch h
  | [x], p, h, hc => by
    rw [List.mem_singleton.mp h] at hc
    exact hc
  | x :: y :: r, p, h, hc => by
    show c ∈ x ++ (S ++ TL.joinL S (y :: r))
    rcases List.mem_cons.mp h with rfl | h
    · exact List.mem_append_left _ hc
    · exact List.mem_append_right _ (List.mem_append_right _ (mem_joinL h hc))
theorem split_joinL (z : Str) : TL.joinL [32] ((Txt.split z " ").map cs) = cs z := by
  have h := congrArg cs (StrLaws.join_split z " ")
  exact (show cs (Str.join " " (Txt.split z " ")) = TL.joinL [32] ((Txt.split z " ").map cs) from TL.tl_join " " _).symm.trans h
theorem strs_rp {K : PySem.W.Frag} {H : Hp} : ∀ ws : List Str, RpAll K H (ws.map V.str) (ws.map PyData.str)
  | [] => .nil
  | y :: ws => .cons (.str y) (strs_rp ws)
theorem strs_show : ∀ ws : List Str, PyData.showableAll (ws.map PyData.str) = true
  | [] => by simp [PyData.showableAll]
  | y :: ws => by
    simp only [List.map_cons, PyData.showableAll, PyData.showable, strs_show ws]
    rfl
theorem strs_dict : ∀ ws : List Str, PyData.hasDictAll (ws.map PyData.str) = false
  | [] => by simp [PyData.hasDictAll]
  | y :: ws => by
    simp only [List.map_cons, PyData.hasDictAll, PyData.hasDict, strs_dict ws]
    rfl
theorem strs_depth : ∀ ws : List Str, PyData.depthAll (ws.map PyData.str) = 0
  | [] => by simp [PyData.depthAll]
  | y :: ws => by
    simp only [List.map_cons, PyData.depthAll, PyData.depth, strs_depth ws]
    rfl
theorem strs_mass : ∀ {ws : List Str}, (∀ y ∈ ws, Asc y) → massAll (ws.map PyData.str) ≤ 10 * (ws.map (·.length)).sum + 4 * ws.length
  | [], _ => Nat.zero_le _
  | y :: ws, h => by
    have h1 := StrLaws.reprText_len y fun c hc => Nat.lt_of_lt_of_le (h y List.mem_cons_self c hc) (by decide)
    have h2 := strs_mass (ws := ws) fun x hx => h x (List.mem_cons_of_mem _ hx)
    simp only [List.map_cons, massAll, mass, List.sum_cons, List.length_cons]
    omega
/-- what repr asks of the words of a moderate text -/
theorem words_fit {d : PyData} {ws : List Str} (hT : TxtOk d) (h : wordsD d = some ws) : 3 + massAll (ws.map PyData.str) ≤ sizeLine ∧ ws.length ≤ 7001 := by
  cases d with
  | str z =>
    obtain ⟨asc, hz⟩ := hT z rfl
    have e : (if 10 ∈ cs z then none else if emptyIn (Txt.split z " ") = true then none else some (Txt.split z " ")) = some ws := h
    have e2 : Txt.split z " " = ws := by
      split at e
      · cases e
      · split at e
        · cases e
        · exact Option.some.inj e
    subst e2
    have hj := split_joinL z
    have hne : (Txt.split z " ").map cs ≠ [] := fun y => by
      have hl := congrArg List.length y
      rw [List.length_map, List.length_nil] at hl
      have h0 : Txt.split z " " = [] := List.eq_nil_of_length_eq_zero hl
      rw [h0] at e
      have e3 : (if 10 ∈ cs z then none else if emptyIn [] = true then none else some []) = some ([] : List Str) := e
      have h4 := StrLaws.split_free z 32
      unfold Txt.split at h0
      split at h0
      · cases h0
      · split at h0
        · cases h0
        · rw [StrLaws.partsBetween_eq] at h0
          obtain ⟨p, q, e5⟩ := StrLaws.partsFrom_ne z (" " : Str).length 0 (Builtin.Str.occurrences z " " 0 z.length (z.length + 1))
          rw [e5] at h0
          cases h0
    have hlen := joinL_len hne
    rw [hj, cs_len, List.map_map, List.length_map] at hlen
    have em : ((Txt.split z " ").map (List.length ∘ cs)).sum = ((Txt.split z " ").map (·.length)).sum := by
      congr 1
    have hlen2 : z.length + 1 = ((Txt.split z " ").map (·.length)).sum + (Txt.split z " ").length := by
      rw [← em]
      exact hlen
    have hm := strs_mass (ws := Txt.split z " ") fun y hy c hc => asc c (by
      rw [← hj]
      exact mem_joinL (List.mem_map.mpr ⟨y, hy, rfl⟩) hc)
    rw [sizeLine_eq]
    omega
  | none => cases h
  | bool _ => cases h
  | int _ => cases h
  | list _ => cases h
  | tuple _ => cases h
  | dict _ => cases h
end G
set_option Elab.async false
set_option linter.all false
set_option maxRecDepth 100000
set_option maxHeartbeats 4000000
/-! SA: the law's turn, from its end to its start. -/
namespace G
open PySem PySem.Spec PyProof.Rows L2 PySem.NumText
/-- where a def stands, how it binds, what it keeps -/
structure At (P : Program) (w : World) (K : PySem.W.Frag) (mg : Str → Option Value) (base : Heap) (k : Nat) (x : Str) (ps : List Str) (sp : Sp) where
  f : Addr
  fd : FuncData
  g : mg x = some (.ref f)
  kp : PySem.W.keepIn K (.ref f) = true
  b : Binds K fd ps []
  ok : FnOk P w K mg base CX0 k f fd ps sp
/-- a short text, or no text -/
def Short (d : PyData) : Prop := ∀ z, d = .str z → Asc z ∧ z.length ≤ 110
theorem Short.ok {d : PyData} (h : Short d) : TxtOk d := fun z e => ⟨(h z e).1, Nat.le_trans (h z e).2 (by decide)⟩
theorem num_rp {K : PySem.W.Frag} {H : Hp} (d : PyData) (lo hi : Int) : Rp K H (numV d lo hi) (numD d lo hi) := by
  have key : (∃ i, numD d lo hi = .int i) ∨ numD d lo hi = .none := by
    unfold numD
    cases d with
    | str z =>
      dsimp only
      split
      · exact .inl ⟨_, rfl⟩
      · exact .inr rfl
    | none => exact .inr rfl
    | bool _ => exact .inr rfl
    | int _ => exact .inr rfl
    | list _ => exact .inr rfl
    | tuple _ => exact .inr rfl
    | dict _ => exact .inr rfl
  unfold numV
  rcases key with ⟨i, e⟩ | e
  · rw [e]
    exact .int i
  · rw [e]
    exact .non
theorem num_show (d : PyData) {lo hi : Int} (h1 : -(10 ^ 30) ≤ lo) (h2 : hi ≤ 10 ^ 30) : (numD d lo hi).showable = true ∧ (numD d lo hi).hasDict = false ∧ (numD d lo hi).depth = 0 ∧ mass (numD d lo hi) ≤ 1921 := by
  have none_ok : PyData.none.showable = true ∧ PyData.none.hasDict = false ∧ PyData.none.depth = 0 ∧ mass PyData.none ≤ 1921 := ⟨by simp [PyData.showable], by simp [PyData.hasDict], by simp [PyData.depth], by simp [mass]⟩
  unfold numD
  cases d with
  | str z =>
    dsimp only
    split
    · rename_i h
      obtain ⟨_, h3, h4⟩ := h
      refine ⟨?_, by simp [PyData.hasDict], by simp [PyData.depth], by simp [mass]⟩
      have hb : (valN z).natAbs ≤ 10 ^ 30 := by omega
      simp only [PyData.showable]
      refine decide_eq_true ?_
      by_cases h0 : (valN z).natAbs = 0
      · rw [h0]
        decide
      · rw [Nat.log2_lt h0]
        exact Nat.lt_of_le_of_lt hb (Nat.lt_of_lt_of_le (show 10 ^ 30 < 2 ^ 100 by decide) (Nat.pow_le_pow_right (by decide) (by decide)))
    · exact none_ok
  | none => exact none_ok
  | bool _ => exact none_ok
  | int _ => exact none_ok
  | list _ => exact none_ok
  | tuple _ => exact none_ok
  | dict _ => exact none_ok
section
variable {P : Program} {w : World} {K : PySem.W.Frag} {mg : Str → Option Value} {base : Heap}
/-- for lap in range(2): .. -/
theorem turn_laps {f : Addr} {cdv : Value} {A : Around} {outer : List Env} {s : Shared} {H0 : Hp} {E : XK} (hg : A.guards = some []) (hr : Room 4 (A.deeper (envOfC "law" (defScope sLaw) s.heap.objs.size f cdv)))
    (aS : At P w K mg base 1 "split_words" ["text"] (spWords K)) (aW : At P w K mg base 1 "_law_words" ["_law_text"] (spWords K)) (mr : mg "range" = none) (mre : mg "repr" = none) :
    ∃ t, PSs (cxOf CX0 P w K mg base NL "law" (defScope sLaw) f cdv A outer s H0 E).nox (turnS.drop 11) t ∧
      ∀ (D : Ends) (H : Hp) (v : V) (d : PyData) (s0 s1 s2 s3 s4 s5 s6 s7 s8 s9 s11 s12 : Option V), Rp K H v d → TxtOk d →
        (∀ H', Same H H' → ∀ s11 s12 : Option V, D.nx [s0, s1, s2, s3, s4, s5, s6, s7, s8, s9, some v, s11, s12] H') → t D [s0, s1, s2, s3, s4, s5, s6, s7, s8, s9, some v, s11, s12] H := by
  have hr1 : Room 1 _ := hr.mono (by decide)
  refine ⟨_, pss_one (ps_for PassesOwn.never rfl (pi_range1 rfl mr (pa_cons pe_int pa_nil)) (pg_name (i := 11) scLaw.nd rfl (.inl rfl))
    (pss_cons (ps_set (i := 12) scLaw.nd rfl (.inl rfl) (pe_call aS.ok hr1 rfl aS.g aS.kp aS.b .nil pass0 (pa_cons (pv 10) pa_nil)))
    (pss_cons (ps_if (pt_cmpR op_ne (pe_callB (call_repr2 hg hr.units) (by rfl) mre (by decide +kernel) (pa_cons (pv 12) pa_nil))
        (pe_callB (call_repr2 hg hr.units) (by rfl) mre (by decide +kernel) (pa_cons (pe_call aW.ok hr1 rfl aW.g aW.kp aW.b .nil pass0 (pa_cons (pv 10) pa_nil)) pa_nil)) (nomark _)) (pss_one (ps_ret pe_bl)) pss_nil)
    (pss_one (ps_if (pt_cmpR op_notN (pv 12) pe_non (nomark _)) (pss_one (ps_expr (pe_bm PySem.F.plainAttrs_list PySem.F.slot_list_append PySem.F.type_list_append mt_append (pv 12) (pa_cons pe_str pa_nil)))) pss_nil))))), ?_⟩
  intro D H v d s0 s1 s2 s3 s4 s5 s6 s7 s8 s9 s11 s12 hR hT nx
  refine ⟨2, rfl, by decide, by decide, ?_⟩
  refine for_range (lo := 0) (n := 2) (fun i σ H' => Same H H' ∧ ∃ x11 x12 : Option V, σ = [s0, s1, s2, s3, s4, s5, s6, s7, s8, s9, some v, x11, x12]) ?_ ?_ ?_
  · exact ⟨Same.refl H, s11, s12, rfl⟩
  · rintro i σ H1 hi ⟨z1, x11, x12, rfl⟩
    have R1 := rp_same z1 _ _ hR
    cases e : wordsD d with
    | none =>
      refine ⟨_, rfl, v, d, rfl, R1, hT, fun _ H2 z2 => ?_, fun ws e' => ?_⟩
      · refine ⟨_, rfl, .inl ⟨rfl, ?_⟩⟩
        refine ⟨_, rfl, v, d, rfl, rp_same z2 _ _ R1, hT, fun _ H3 z3 => ?_, fun ws e' => ?_⟩
        · refine .inl ⟨rfl, rfl, _, rfl, iteNS rfl ?_⟩
          refine ⟨_, rfl, rfl, _, rfl, ?_⟩
          refine iteNS (by rfl) ?_
          exact ⟨(z1.trans z2).trans z3, _, _, rfl⟩
        · rw [e] at e'
          cases e'
      · rw [e] at e'
        cases e'
    | some ws =>
      obtain ⟨fit, few⟩ := words_fit hT e
      have nod : PyData.hasDictAll (ws.map PyData.str) = true → okSAll (ws.map PyData.str) = true := fun y => by
        rw [strs_dict] at y
        cases y
      have dep : (PyData.list (ws.map PyData.str)).depth ≤ 20 := by
        simp only [PyData.depth, strs_depth]
        decide
      refine ⟨_, rfl, v, d, rfl, R1, hT, fun e' => ?_, fun ws' e' p H2 z2 n2 h2 => ?_⟩
      · rw [e] at e'
        cases e'
      · rw [e] at e'
        cases e'
        refine ⟨_, rfl, ?_⟩
        refine .inr ⟨p, _, ws.map PyData.str, rfl, h2, strs_rp ws, strs_show ws, nod, dep, fit, ?_⟩
        refine ⟨_, rfl, v, d, rfl, rp_same z2 _ _ R1, hT, fun e' => ?_, fun ws' e' p3 H3 z3 n3 h3 => ?_⟩
        · rw [e] at e'
          cases e'
        · rw [e] at e'
          cases e'
          refine .inr ⟨p3, _, ws.map PyData.str, rfl, h3, strs_rp ws, strs_show ws, nod, dep, fit, ?_⟩
          refine ⟨rfl, _, rfl, iteNS rfl ?_⟩
          refine ⟨_, rfl, rfl, _, rfl, ?_⟩
          refine iteT ?_
          have h2' := z3 _ _ h2
          refine ⟨_, rfl, .inl ⟨rfl, _, .of h2'⟩, p, _, _, rfl, rfl, h2', ?_, ?_⟩
          · rw [List.length_map]
            exact Nat.lt_of_le_of_lt few (by rw [sizeLine_eq]; omega)
          · exact ⟨same_upd ((z1.trans z2).trans z3) (z1.free n2), _, _, rfl⟩
  · rintro σ H1 ⟨z1, x11, x12, rfl⟩
    exact nx H1 z1 x11 x12
end
end G
set_option Elab.async false
set_option linter.all false
set_option maxRecDepth 100000
set_option maxHeartbeats 4000000
/-! SB: the law's turn, further to its start. -/
namespace G
open PySem PySem.Spec PyProof.Rows L2 PySem.NumText
theorem sixty (z : Str) : (List.replicate (60 : Int).toNat [V.str z]).flatten = (List.replicate 60 z).map V.str := rfl
theorem sixty_ok {z : Str} (asc : Asc z) (hz : z.length ≤ 110) : ((List.replicate 60 z).map (·.length)).sum + (List.replicate 60 z).length * (" " : Str).length ≤ 7000 ∧ Asc (Txt.join " " (List.replicate 60 z)) ∧ (Txt.join " " (List.replicate 60 z)).length ≤ 7000 := by
  have h1 : ∀ y ∈ List.replicate 60 z, y.length ≤ 110 := fun y hy => by
    rw [(List.mem_replicate.mp hy).2]
    exact hz
  have h2 := sum_le h1
  have h3 : (List.replicate 60 z).length = 60 := List.length_replicate
  have h4 : (" " : Str).length = 1 := rfl
  have h5 := join_len " " (List.replicate 60 z)
  rw [h3, h4] at h5 ⊢
  rw [h3] at h2
  refine ⟨by omega, join_asc (asc_of (by decide +kernel)) fun y hy => ?_, by omega⟩
  rw [(List.mem_replicate.mp hy).2]
  exact asc
section
variable {P : Program} {w : World} {K : PySem.W.Frag} {mg : Str → Option Value} {base : Heap}
/-- from the line on -/
theorem turn_line {f : Addr} {cdv : Value} {A : Around} {outer : List Env} {s : Shared} {H0 : Hp} {E : XK} (hg : A.guards = some []) (hr : Room 4 (A.deeper (envOfC "law" (defScope sLaw) s.heap.objs.size f cdv)))
    (aT : At P w K mg base 1 "_law_take" ["_law_box_here", "_law_many"] spTake) (aS : At P w K mg base 1 "split_words" ["text"] (spWords K)) (aW : At P w K mg base 1 "_law_words" ["_law_text"] (spWords K))
    (mr : mg "range" = none) (mre : mg "repr" = none) (mi : mg "isinstance" = none) (ms : mg "str" = none) :
    ∃ t, PSs (cxOf CX0 P w K mg base NL "law" (defScope sLaw) f cdv A outer s H0 E).nox (turnS.drop 10) t ∧
      ∀ (D : Ends) (H : Hp) (b : Addr) (n : Nat) (v : V) (d : PyData) (s0 s1 s3 s4 s5 s6 s7 s8 s9 s11 s12 : Option V), Rp K (hide b H) v d → Short d → BoxAt H b n → n ≤ 50000 →
        (∀ H', But b H H' → BoxAt H' b (n + 1) → ∀ s10 s11 s12 : Option V, D.nx [s0, s1, some (.ref b), s3, s4, s5, s6, s7, s8, s9, s10, s11, s12] H') → t D [s0, s1, some (.ref b), s3, s4, s5, s6, s7, s8, s9, some v, s11, s12] H := by
  have hr1 : Room 1 _ := hr.mono (by decide)
  obtain ⟨tl, pl, ql⟩ := turn_laps (P := P) (w := w) (K := K) (mg := mg) (base := base) (outer := outer) (H0 := H0) (E := E) hg hr aS aW mr mre
  refine ⟨_, pss_cons (ps_if (PW.pt (pw_and (pt_val (pt_isi "str" (pv 10) (hm := mi) (mn := ms))) (pw_and1 (pt_cmpR op_eq (pe_call aT.ok hr1 rfl aT.g aT.kp aT.b .nil pass0 (pa_cons (pv 2) (pa_cons pe_int pa_nil))) pe_int (nomark _)))))
      (pss_one (ps_set (i := 10) scLaw.nd rfl (.inl rfl) (pe_join pe_str (pe_op op_rep (pe_lst (pa_cons (pv 10) pa_nil)) pe_int)))) pss_nil) pl, ?_⟩
  intro D H b n v d s0 s1 s3 s4 s5 s6 s7 s8 s9 s11 s12 hR hS hB hn nx
  have R1 := rp_same (hide_same b H) _ _ hR
  refine ⟨_, rfl, _, _, _, _, _, rfl, .ty _, rp_ty R1, kit_s d, _, rfl, ?_⟩
  cases e1 : isS d with
  | false =>
    refine iteF ?_
    refine ql D H v d _ _ _ _ _ _ _ _ _ _ _ _ R1 hS.ok fun H' z s11 s12 => ?_
    exact nx H' (But.same z) ((hB.keep fun o e => z _ _ e).mono (by omega)) _ _ _
  | true =>
    refine iteT ?_
    obtain ⟨z, rfl⟩ := isS_str e1
    cases hR
    obtain ⟨asc, hz⟩ := hS z rfl
    refine ⟨_, rfl, b, 9, n, rfl, hB, by omega, by decide, by decide, fun r H1 _ _ B1 k1 => ?_⟩
    refine ⟨rfl, _, rfl, ite2 (fun _ => ?_) (fun _ => ?_)⟩
    · obtain ⟨j1, j2, j3⟩ := sixty_ok asc hz
      refine ⟨⟨_, rfl⟩, ?_⟩
      refine ⟨_, rfl, (by show 1 ≤ sizeLine; decide), fun p hp => ?_⟩
      refine ⟨p, 60, [.str z], rfl, rfl, upd_same, by decide, by decide, (by show 60 ≤ sizeLine; decide), fun p2 hp2 => ?_⟩
      refine ⟨" ", p2, List.replicate 60 z, rfl, rfl, .inl (.of (upd_same.trans (by rw [sixty]))), by omega, ?_⟩
      have z1 := Same.new (o := .lst [.str z]) hp
      have z2 := Same.new (o := .lst (List.replicate (60 : Int).toNat [V.str z]).flatten) hp2
      refine ql D _ _ (.str (Txt.join " " (List.replicate 60 z))) _ _ _ _ _ _ _ _ _ _ _ _ (.str _) (fun y e => by cases e; exact ⟨j2, j3⟩) fun H' z3 s11 s12 => ?_
      have zz := (z1.trans z2).trans z3
      exact nx H' (k1.trans (But.same zz)) (B1.keep fun o e => zz _ _ e) _ _ _
    · refine ql D H1 (.str z) (.str z) _ _ _ _ _ _ _ _ _ _ _ _ (.str z) hS.ok fun H' z3 s11 s12 => ?_
      exact nx H' (k1.trans (But.same z3)) (B1.keep fun o e => z3 _ _ e) _ _ _
/-- the number's checks: from the bounds on -/
theorem turn_nums {f fP : Addr} {fdP : FuncData} {cdv : Value} {A : Around} {outer : List Env} {s : Shared} {H0 : Hp} {E : XK} (hg : A.guards = some []) (hr : Room 4 (A.deeper (envOfC "law" (defScope sLaw) s.heap.objs.size f cdv)))
    (aT : At P w K mg base 1 "_law_take" ["_law_box_here", "_law_many"] spTake) (aS : At P w K mg base 1 "split_words" ["text"] (spWords K)) (aW : At P w K mg base 1 "_law_words" ["_law_text"] (spWords K))
    (aL : At P w K mg base 2 "_law_line" ["_law_box_here"] spText) (aI : At P w K mg base 1 "_law_integer" ["_law_page", "_law_least", "_law_most"] (spParse K))
    (FPa : FP K fP fdP) (gP : mg "parse_integer" = some (.ref fP)) (GP : FnOk P w K mg base CX0 2 fP fdP ["text", "low", "high"] (spParse K))
    (mr : mg "range" = none) (mre : mg "repr" = none) (mi : mg "isinstance" = none) (ms : mg "str" = none) :
    ∃ t, PSs (cxOf CX0 P w K mg base NL "law" (defScope sLaw) f cdv A outer s H0 E).nox (turnS.drop 2) t ∧
      ∀ (D : Ends) (H : Hp) (b : Addr) (n : Nat) (v o : V) (d od : PyData) (s0 s1 s3 s6 s7 s8 s9 s10 s11 s12 : Option V), Rp K (hide b H) v d → Short d → Rp K (hide b H) o od → Short od → BoxAt H b n → n ≤ 40000 →
        (∀ H', But b H H' → BoxAt H' b (n + 120) → ∀ s6 s7 s8 s9 s10 s11 s12 : Option V, D.nx [s0, s1, some (.ref b), s3, some o, some v, s6, s7, s8, s9, s10, s11, s12] H') →
        t D [s0, s1, some (.ref b), s3, some o, some v, s6, s7, s8, s9, s10, s11, s12] H := by
  have hr1 : Room 1 _ := hr.mono (by decide)
  have hr2 : Room 2 _ := hr.mono (by decide)
  obtain ⟨tl, pl, ql⟩ := turn_line (P := P) (w := w) (K := K) (mg := mg) (base := base) (outer := outer) (H0 := H0) (E := E) hg hr aT aS aW mr mre mi ms
  obtain ⟨ds, vds, bN⟩ := bind_none FPa
  obtain ⟨_, bB⟩ := bind_both FPa
  obtain ⟨_, bH⟩ := bind_high FPa
  obtain ⟨_, bL⟩ := bind_low FPa
  refine ⟨_, pss_cons (ps_set (i := 6) scLaw.nd rfl (.inl rfl) (pe_ix ix_list (pe_lst (pa_cons (pe_op op_sub (pe_call aT.ok hr1 rfl aT.g aT.kp aT.b .nil pass0 (pa_cons (pv 2) (pa_cons pe_int pa_nil))) pe_int) (pa_cons (pe_op op_sub pe_int (pe_op op_pow pe_int pe_int)) pa_nil)))
      (pe_call aT.ok hr1 rfl aT.g aT.kp aT.b .nil pass0 (pa_cons (pv 2) (pa_cons pe_int pa_nil))) (fun _ _ => rfl)))
    (pss_cons (ps_set (i := 7) scLaw.nd rfl (.inl rfl) (pe_ix ix_list (pe_lst (pa_cons (pe_op op_sub (pe_call aT.ok hr1 rfl aT.g aT.kp aT.b .nil pass0 (pa_cons (pv 2) (pa_cons pe_int pa_nil))) pe_int) (pa_cons (pe_op op_pow pe_int pe_int) pa_nil)))
      (pe_call aT.ok hr1 rfl aT.g aT.kp aT.b .nil pass0 (pa_cons (pv 2) (pa_cons pe_int pa_nil))) (fun _ _ => rfl)))
    (pss_cons (ps_set (i := 8) scLaw.nd rfl (.inl rfl) (pe_lst (pa_cons (pe_call GP hr2 rfl gP FPa.kp bN vds pass0 (pa_cons (pv 5) pa_nil)) (pa_cons (pe_callN GP hr2 rfl gP FPa.kp bB pass0 (pa_cons (pv 5) pa_nil) (pk_cons (pv 6) (pk_cons (pv 7) pk_nil))) pa_nil))))
    (pss_cons (ps_set (i := 8) scLaw.nd rfl (.inl rfl) (pe_op op_cat (pv 8) (pe_lst (pa_cons (pe_callN GP hr2 rfl gP FPa.kp bH pass0 (pa_cons (pv 5) pa_nil) (pk_cons (pv 7) pk_nil)) (pa_cons (pe_callN GP hr2 rfl gP FPa.kp bL pass0 (pa_cons (pv 5) pa_nil) (pk_cons (pv 6) pk_nil)) pa_nil)))))
    (pss_cons (ps_set (i := 9) scLaw.nd rfl (.inl rfl) (pe_lst (pa_cons (pe_call aI.ok hr1 rfl aI.g aI.kp aI.b .nil pass0 (pa_cons (pv 5) (pa_cons (pe_un un_neg pe_int) (pa_cons pe_int pa_nil))))
      (pa_cons (pe_call aI.ok hr1 rfl aI.g aI.kp aI.b .nil pass0 (pa_cons (pv 5) (pa_cons (pv 6) (pa_cons (pv 7) pa_nil)))) (pa_cons (pe_call aI.ok hr1 rfl aI.g aI.kp aI.b .nil pass0 (pa_cons (pv 5) (pa_cons (pe_un un_neg pe_int) (pa_cons (pv 7) pa_nil)))) pa_nil)))))
    (pss_cons (ps_expr (pe_bm PySem.F.plainAttrs_list PySem.F.slot_list_append PySem.F.type_list_append mt_append (pv 9) (pa_cons (pe_call aI.ok hr1 rfl aI.g aI.kp aI.b .nil pass0 (pa_cons (pv 5) (pa_cons (pv 6) (pa_cons pe_int pa_nil)))) pa_nil)))
    (pss_cons (ps_if (pt_cmpR op_ne (pe_callB (call_repr2 hg hr.units) (by rfl) mre (by decide +kernel) (pa_cons (pv 8) pa_nil)) (pe_callB (call_repr2 hg hr.units) (by rfl) mre (by decide +kernel) (pa_cons (pv 9) pa_nil)) (nomark _)) (pss_one (ps_ret pe_bl)) pss_nil)
    (pss_cons (ps_set (i := 10) scLaw.nd rfl (.inl rfl) (pe_ifExp (pt_cmpR op_gt (pe_call aT.ok hr1 rfl aT.g aT.kp aT.b .nil pass0 (pa_cons (pv 2) (pa_cons pe_int pa_nil))) pe_int (nomark _)) (pe_call aL.ok hr2 rfl aL.g aL.kp aL.b .nil pass0 (pa_cons (pv 2) pa_nil)) (pv 4))) pl))))))), ?_⟩
  intro D H b n v o d od s0 s1 s3 s6 s7 s8 s9 s10 s11 s12 hR hS hO hOS hB hn nx
  -- least
  refine ⟨_, rfl, b, 2001, n, rfl, hB, by omega, by decide, by decide, fun r1 H1 a1 b1 B1 k1 => ?_⟩
  refine ⟨_, _, rfl, rfl, _, _, rfl, rfl, ⟨by decide, by decide, by decide⟩, _, _, rfl, rfl, (by show 2 ≤ sizeLine; decide), fun q1 hq1 => ?_⟩
  refine ⟨_, rfl, b, 2, n + 1, rfl, box_new B1 hq1, by omega, by decide, by decide, fun r2 H2 a2 b2 B2 k2 => ?_⟩
  obtain ⟨j, rfl, hj⟩ := draw_at (n := 2) a2 b2 rfl
  have nq1 := box_ne B1 hq1
  have f2 := k2 _ _ nq1 upd_same
  obtain ⟨lo, hlo, lo1⟩ : ∃ lo : Int, ([.int (r1 - 1000), .int (1 - 10 ^ (30 : Int).toNat)] : List V)[j]? = some (.int lo) ∧ -(10 ^ 30) ≤ lo := by
    match j, hj with
    | 0, _ => exact ⟨_, rfl, by omega⟩
    | 1, _ => exact ⟨_, rfl, by decide⟩
  refine ⟨q1, _, _, .int lo, rfl, rfl, .of f2, atI_nat hlo, ?_⟩
  have kk2 : But b H H2 := (k1.trans (But.new hq1)).trans k2
  -- most
  refine ⟨_, rfl, b, 2001, n + 2, rfl, B2, by omega, by decide, by decide, fun r3 H3 a3 b3 B3 k3 => ?_⟩
  refine ⟨_, _, rfl, rfl, _, _, rfl, rfl, ⟨by decide, by decide, by decide⟩, (by show 2 ≤ sizeLine; decide), fun q2 hq2 => ?_⟩
  refine ⟨_, rfl, b, 2, n + 3, rfl, box_new B3 hq2, by omega, by decide, by decide, fun r4 H4 a4 b4 B4 k4 => ?_⟩
  obtain ⟨j4, rfl, hj4⟩ := draw_at (n := 2) a4 b4 rfl
  have nq2 := box_ne B3 hq2
  have f4 := k4 _ _ nq2 upd_same
  obtain ⟨hi, hhi, hi1⟩ : ∃ hi : Int, ([.int (r3 - 1000), .int (10 ^ (29 : Int).toNat)] : List V)[j4]? = some (.int hi) ∧ hi ≤ 10 ^ 30 := by
    match j4, hj4 with
    | 0, _ => exact ⟨_, rfl, by omega⟩
    | 1, _ => exact ⟨_, rfl, by decide⟩
  refine ⟨q2, _, _, .int hi, rfl, rfl, .of f4, atI_nat hhi, ?_⟩
  have kk4 : But b H H4 := ((kk2.trans k3).trans (But.new hq2)).trans k4
  have R4 : Rp K (hide b H4) v d := rp_same (hide_but kk4) _ _ hR
  have O4 : Rp K (hide b H4) o od := rp_same (hide_but kk4) _ _ hO
  have V4 := rp_same (hide_same b H4) _ _ R4
  have T := hS.ok
  -- found = [..]
  refine ⟨_, rfl, v, d, -999, 999, rfl, V4, T, fun H5 z5 => ?_⟩
  refine ⟨_, rfl, _, rfl, _, rfl, rfl, rfl, v, d, lo, hi, rfl, rp_same z5 _ _ V4, T, fun H6 z6 => ?_⟩
  refine ⟨(by show 2 ≤ sizeLine; decide), fun p1 hp1 => ?_⟩
  have z46 := z5.trans z6
  have zp1 := Same.new (o := .lst [numV d (-999) 999, numV d lo hi]) hp1
  have z47 := z46.trans zp1
  -- found = found + [..]
  refine ⟨_, rfl, _, rfl, _, rfl, rfl, rfl, v, d, -999, hi, rfl, rp_same z47 _ _ V4, T, fun H8 z8 => ?_⟩
  refine ⟨_, rfl, _, rfl, rfl, rfl, v, d, lo, 999, rfl, rp_same (z47.trans z8) _ _ V4, T, fun H9 z9 => ?_⟩
  refine ⟨(by show 2 ≤ sizeLine; decide), fun p2 hp2 => ?_⟩
  have zp2 := Same.new (o := .lst [numV d (-999) hi, numV d lo 999]) hp2
  have z79 := (z8.trans z9).trans zp2
  refine ⟨p1, p2, _, _, rfl, rfl, z79 _ _ upd_same, upd_same, (by show 2 + 2 ≤ sizeLine; decide), fun p3 hp3 => ?_⟩
  have zp3 := Same.new (o := .lst ([numV d (-999) 999, numV d lo hi] ++ [numV d (-999) hi, numV d lo 999])) hp3
  have z4a := (z47.trans z79).trans zp3
  -- due = [..]
  refine ⟨_, rfl, _, rfl, v, d, -999, 999, rfl, rp_same z4a _ _ V4, T, fun Ha za => ?_⟩
  refine ⟨_, rfl, _, rfl, _, rfl, v, d, lo, hi, rfl, rp_same (z4a.trans za) _ _ V4, T, fun Hb zb => ?_⟩
  refine ⟨_, rfl, _, rfl, _, rfl, v, d, -999, hi, rfl, rp_same ((z4a.trans za).trans zb) _ _ V4, T, fun Hc zc => ?_⟩
  refine ⟨(by show 3 ≤ sizeLine; decide), fun p4 hp4 => ?_⟩
  have zp4 := Same.new (o := .lst [numV d (-999) 999, numV d lo hi, numV d (-999) hi]) hp4
  have zad := ((za.trans zb).trans zc).trans zp4
  refine ⟨_, rfl, .inl ⟨rfl, _, .of upd_same⟩, _, rfl, _, rfl, v, d, lo, 999, rfl, rp_same (z4a.trans zad) _ _ V4, T, fun He ze => ?_⟩
  have ed := ze _ _ upd_same
  refine ⟨p4, _, _, rfl, rfl, ed, (by show 3 < sizeLine; decide), ?_⟩
  have np3 : p3 ≠ p4 := ne_of_none (((za.trans zb).trans zc) _ _ upd_same) hp4
  have e3 := (upd_ne (o := .lst ([numV d (-999) 999, numV d lo hi, numV d (-999) hi] ++ [numV d lo 999])) np3).trans ((zad.trans ze) _ _ upd_same)
  have Z : Same H4 (upd He p4 (.lst ([numV d (-999) 999, numV d lo hi, numV d (-999) hi] ++ [numV d lo 999]))) := same_upd ((z4a.trans zad).trans ze) (((z4a.trans za).trans zb |>.trans zc).free hp4)
  generalize hF : upd He p4 (.lst ([numV d (-999) 999, numV d lo hi, numV d (-999) hi] ++ [numV d lo 999])) = Hf at e3 Z
  have e4 : Hf p4 = some (.lst ([numV d (-999) 999, numV d lo hi, numV d (-999) hi] ++ [numV d lo 999])) := by rw [← hF]; exact upd_same
  obtain ⟨n11, n12, n13, n14⟩ := num_show d (lo := -999) (hi := 999) (by decide) (by decide)
  obtain ⟨n21, n22, n23, n24⟩ := num_show d (lo := lo) (hi := hi) lo1 hi1
  obtain ⟨n31, n32, n33, n34⟩ := num_show d (lo := -999) (hi := hi) (by decide) hi1
  obtain ⟨n41, n42, n43, n44⟩ := num_show d (lo := lo) (hi := 999) lo1 (by decide)
  have rpL : RpAll K Hf [numV d (-999) 999, numV d lo hi, numV d (-999) hi, numV d lo 999] [numD d (-999) 999, numD d lo hi, numD d (-999) hi, numD d lo 999] := .cons (num_rp ..) (.cons (num_rp ..) (.cons (num_rp ..) (.cons (num_rp ..) .nil)))
  have shL : PyData.showableAll [numD d (-999) 999, numD d lo hi, numD d (-999) hi, numD d lo 999] = true := by simp [PyData.showableAll, n11, n21, n31, n41]
  have dcL : PyData.hasDictAll [numD d (-999) 999, numD d lo hi, numD d (-999) hi, numD d lo 999] = true → okSAll [numD d (-999) 999, numD d lo hi, numD d (-999) hi, numD d lo 999] = true := by simp [PyData.hasDictAll, n12, n22, n32, n42]
  have dpL : (PyData.list [numD d (-999) 999, numD d lo hi, numD d (-999) hi, numD d lo 999]).depth ≤ 20 := by simp [PyData.depth, PyData.depthAll, n13, n23, n33, n43]
  have maL : 3 + massAll [numD d (-999) 999, numD d lo hi, numD d (-999) hi, numD d lo 999] ≤ sizeLine := by
    simp only [massAll]
    rw [sizeLine_eq]
    omega
  refine ⟨_, rfl, .inr ⟨p3, _, _, rfl, e3, rpL, shL, dcL, dpL, maL, ?_⟩⟩
  refine ⟨_, rfl, .inr ⟨p4, _, _, rfl, e4, rpL, shL, dcL, dpL, maL, ?_⟩⟩
  refine ⟨rfl, _, rfl, iteNS rfl ?_⟩
  have Bf : BoxAt Hf b (n + 4) := B4.keep fun o e => Z _ _ e
  have kf : But b H Hf := kk4.trans (But.same Z)
  have Of : Rp K (hide b Hf) o od := rp_same (hide_mono Z) _ _ O4
  -- line = _law_line(box) if take(box, 5) > 0 else odd
  refine ⟨_, rfl, b, 5, n + 4, rfl, Bf, by omega, by decide, by decide, fun r5 H7 _ _ B7 k7 => ?_⟩
  refine ⟨_, _, rfl, rfl, _, rfl, ite2 (fun _ => ?_) (fun _ => ?_)⟩
  · refine ⟨_, rfl, b, n + 5, rfl, B7, by omega, fun z H8 asc hz B8 k8 => ?_⟩
    refine ql D H8 b (n + 105) (.str z) (.str z) _ _ _ _ _ _ _ _ _ _ _ (.str z) (fun y e => by cases e; exact ⟨asc, hz⟩) B8 (by omega) fun H9 k9 B9 x10 x11 x12 => ?_
    exact nx H9 (((kf.trans k7).trans k8).trans k9) (B9.mono (by omega)) _ _ _ _ _ _ _
  · refine ⟨_, rfl, ?_⟩
    refine ql D H7 b (n + 5) o od _ _ _ _ _ _ _ _ _ _ _ (rp_same (hide_but k7) _ _ Of) hOS B7 (by omega) fun H9 k9 B9 x10 x11 x12 => ?_
    exact nx H9 ((kf.trans k7).trans k9) (B9.mono (by omega)) _ _ _ _ _ _ _
end
end G
set_option Elab.async false
set_option linter.all false
set_option maxRecDepth 100000
set_option maxHeartbeats 4000000
/-! SC: the law. -/
namespace G
open PySem PySem.Spec PyProof.Rows L2 PySem.NumText
theorem same_but {b : Addr} {H H1 H2 : Hp} (s : Same H H1) (k : But b H1 H2) (n : H b = none) : Same H H2 := fun c o e => k c o (ne_of_none e n) (s c o e)
def spLaw (K : PySem.W.Frag) : Sp := fun vs H Q _ => ∃ (a : Addr) (ns : List Int), vs = [.ref a] ∧ SqL K H a (ns.map V.int) ∧ ns.length ≤ 63 ∧ ∀ H', Q (.bl true) H'
theorem short_other {d : PyData} (h : isS d = false) : Short d := fun z e => absurd e (isS_no h z)
theorem short_str {z : Str} (h : (cs z).all (fun c => decide (c < 128)) = true) (hl : z.length ≤ 110) : Short (.str z) := fun y e => by
  cases e
  exact ⟨asc_of h, hl⟩
section
variable {P : Program} {w : World} {K : PySem.W.Frag} {mg : Str → Option Value} {base : Heap}
theorem ok_law {f fP : Addr} {fd fdP : FuncData} (F : Fun K "law" "law" sLaw f fd) (aC : At P w K mg base 1 "_law_cell" ["_law_script", "_law_k"] (spCell' K)) (aB : At P w K mg base 1 "_law_box" ["_law_cell_here"] spBox)
    (aT : At P w K mg base 1 "_law_take" ["_law_box_here", "_law_many"] spTake) (aS : At P w K mg base 1 "split_words" ["text"] (spWords K)) (aW : At P w K mg base 1 "_law_words" ["_law_text"] (spWords K))
    (aD : At P w K mg base 2 "_law_digits" ["_law_box_here"] spText) (aL : At P w K mg base 2 "_law_line" ["_law_box_here"] spText) (aI : At P w K mg base 1 "_law_integer" ["_law_page", "_law_least", "_law_most"] (spParse K))
    (FPa : FP K fP fdP) (gP : mg "parse_integer" = some (.ref fP)) (GP : FnOk P w K mg base CX0 2 fP fdP ["text", "low", "high"] (spParse K))
    (mr : mg "range" = none) (mx : mg "max" = none) (mn : mg "min" = none) (ml : mg "len" = none) (mre : mg "repr" = none) (mi : mg "isinstance" = none) (ms : mg "str" = none) :
    FnG P w K mg base CX0 5 f fd ["_law_script"] (spLaw K) := by
  refine FnG.of_body F scLaw (fun vs H Q E h => ?_) (fun cdv A outer s H vs Q E hg hr h => ?_)
  · obtain ⟨a, ns, rfl, _⟩ := h
    rfl
  · obtain ⟨a, ns, rfl, hS, hlen, q⟩ := h
    have hr1 : Room 1 _ := hr.mono (by decide)
    have hr2 : Room 2 _ := hr.mono (by decide)
    obtain ⟨tl, pl, ql⟩ := turn_nums (P := P) (w := w) (K := K) (mg := mg) (base := base) (outer := outer) (H0 := H) (E := E) hg hr aT aS aW aL aI FPa gP GP mr mre mi ms
    refine ⟨_, pss_cons (ps_for PassesOwn.never rfl (pi_range1 rfl mr (pa_cons (pe_callB (call_max2 rfl) (by rfl) mx (by decide +kernel) (pa_cons pe_int (pa_cons (pe_callB (call_min2 rfl) (by rfl) mn (by decide +kernel) (pa_cons pe_int
          (pa_cons (pe_callB call_len_seq (by rfl) ml PySem.boot_len (pa_cons (pv 0) pa_nil)) pa_nil))) pa_nil))) pa_nil)) (pg_name (i := 1) scLaw.nd rfl (.inl rfl))
        (pss_cons (ps_set (i := 2) scLaw.nd rfl (.inl rfl) (pe_call aB.ok hr1 rfl aB.g aB.kp aB.b .nil pass0 (pa_cons (pe_call aC.ok hr1 rfl aC.g aC.kp aC.b .nil pass0 (pa_cons (pv 0) (pa_cons (pv 1) pa_nil))) pa_nil)))
        (pss_one (ps_for PassesOwn.never rfl (pi_range1 rfl mr (pa_cons pe_int pa_nil)) (pg_name (i := 3) scLaw.nd rfl (.inl rfl))
          (pss_cons (ps_set (i := 4) scLaw.nd rfl (.inl rfl) (pe_ix ix_list (pe_lst (pa_cons pe_non (pa_cons pe_int (pa_cons pe_bl (pa_cons (pe_lst (pa_cons pe_str pa_nil)) (pa_cons (pe_tup (pa_cons pe_str pa_nil)) (pa_cons pe_dnewK
              (pa_cons pe_str (pa_cons pe_str (pa_cons pe_str (pa_cons pe_str (pa_cons pe_str pa_nil)))))))))))) (pe_call aT.ok hr1 rfl aT.g aT.kp aT.b .nil pass0 (pa_cons (pv 2) (pa_cons pe_int pa_nil))) (fun _ _ => rfl)))
          (pss_cons (ps_set (i := 5) scLaw.nd rfl (.inl rfl) (pe_ifExp (pt_cmpR op_gt (pe_call aT.ok hr1 rfl aT.g aT.kp aT.b .nil pass0 (pa_cons (pv 2) (pa_cons pe_int pa_nil))) pe_int (nomark _)) (pe_call aD.ok hr2 rfl aD.g aD.kp aD.b .nil pass0 (pa_cons (pv 2) pa_nil)) (pv 4))) pl))))))
      (pss_one (ps_ret pe_bl)), ?_⟩
    refine ⟨_, rfl, a, _, rfl, .inl hS, _, _, rfl, ?_⟩
    refine ⟨_, _, rfl, ?_⟩
    refine ⟨_, rfl, ?_, ?_, ?_⟩
    · split <;> (try split) <;> omega
    · split <;> (try split) <;> omega
    generalize hm : (if (if (((ns.map V.int).length : Nat) : Int) < 8 then (((ns.map V.int).length : Nat) : Int) else 8) > 2 then (if (((ns.map V.int).length : Nat) : Int) < 8 then (((ns.map V.int).length : Nat) : Int) else 8) else 2) = m
    have m8 : m ≤ 8 := by
      rw [← hm]
      split <;> (try split) <;> omega
    refine for_range (lo := 0) (n := m.toNat) (fun i σ H' => Same H H' ∧ ∃ x1 x2 x3 x4 x5 x6 x7 x8 x9 x10 x11 x12 : Option V, σ = [some (.ref a), x1, x2, x3, x4, x5, x6, x7, x8, x9, x10, x11, x12]) ?_ ?_ ?_
    · exact ⟨Same.refl H, none, none, none, none, none, none, none, none, none, none, none, none, rfl⟩
    · rintro i σ H1 hi ⟨s1, x1, x2, x3, x4, x5, x6, x7, x8, x9, x10, x11, x12, rfl⟩
      refine ⟨_, rfl, _, rfl, a, ns, _, rfl, s1.seq hS, by omega, by omega, fun z => ?_⟩
      refine ⟨z, rfl, fun b H2 nb s2 B2 => ?_⟩
      have nbH : H b = none := s1.free nb
      have s12 := s1.trans s2
      refine ⟨12, rfl, by decide, by decide, ?_⟩
      refine for_range (lo := 0) (n := 12) (fun t σ H' => Same H H' ∧ BoxAt H' b (300 * t) ∧ ∃ x3 x4 x5 x6 x7 x8 x9 x10 x11 x12 : Option V, σ = [some (.ref a), some (.int (0 + i)), some (.ref b), x3, x4, x5, x6, x7, x8, x9, x10, x11, x12]) ?_ ?_ ?_
      · exact ⟨s12, B2, x3, x4, x5, x6, x7, x8, x9, x10, x11, x12, rfl⟩
      · rintro t σ H3 ht ⟨s3, B3, y3, y4, y5, y6, y7, y8, y9, y10, y11, y12, rfl⟩
        -- odd
        refine ⟨(by show 1 ≤ sizeLine; decide), fun l1 n1 => ?_⟩
        refine ⟨(by show 1 ≤ sizeLine; decide), fun t1 m1 => ?_⟩
        intro d1 m2
        refine ⟨(by show 11 ≤ sizeLine; decide), fun l2 n2 => ?_⟩
        have z1 := Same.new (o := .lst [.str "1"]) n1
        have z2 := Same.new (o := .tup [.str "a b"]) m1
        have z3 := Same.new (o := .dK []) m2
        have z4 := Same.new (o := .lst [.non, .int 7, .bl true, .ref l1, .ref t1, .ref d1, .str "", .str " ", .str "-", .str "0", .str "-0"]) n2
        have zz := ((z1.trans z2).trans z3).trans z4
        have B4 := B3.keep fun o e => zz _ _ e
        refine ⟨_, rfl, b, 11, 300 * t, rfl, B4, by omega, by decide, by decide, fun j H4 j0 j1 B5 k5 => ?_⟩
        obtain ⟨j, rfl, hj⟩ := draw_at (n := 11) j0 j1 rfl
        have c1 := box_ne B3 n1
        have c2 := box_ne (B3.keep fun o e => z1 _ _ e) m1
        have c3 := box_ne (B3.keep fun o e => (z1.trans z2) _ _ e) m2
        have c4 := box_ne (B3.keep fun o e => ((z1.trans z2).trans z3) _ _ e) n2
        have f1 : H4 l1 = some (.lst [.str "1"]) := k5 _ _ c1 (z4 _ _ (z3 _ _ (z2 _ _ upd_same)))
        have f2 : H4 t1 = some (.tup [.str "a b"]) := k5 _ _ c2 (z4 _ _ (z3 _ _ upd_same))
        have f3 : H4 d1 = some (.dK []) := k5 _ _ c3 (z4 _ _ upd_same)
        have f4 : H4 l2 = some (.lst [.non, .int 7, .bl true, .ref l1, .ref t1, .ref d1, .str "", .str " ", .str "-", .str "0", .str "-0"]) := k5 _ _ c4 upd_same
        have kk : But b H3 H4 := (But.same zz).trans k5
        obtain ⟨o, od, ho, ro, so⟩ : ∃ (o : V) (od : PyData), ([.non, .int 7, .bl true, .ref l1, .ref t1, .ref d1, .str "", .str " ", .str "-", .str "0", .str "-0"] : List V)[j]? = some o ∧ Rp K (hide b H4) o od ∧ Short od := by
          match j, hj with
          | 0, _ => exact ⟨_, .none, rfl, .non, short_other rfl⟩
          | 1, _ => exact ⟨_, .int 7, rfl, .int 7, short_other rfl⟩
          | 2, _ => exact ⟨_, .bool true, rfl, .bl true, short_other rfl⟩
          | 3, _ => exact ⟨_, .list [.str "1"], rfl, .lst ((hide_ne c1).trans f1) (.cons (.str _) .nil), short_other rfl⟩
          | 4, _ => exact ⟨_, .tuple [.str "a b"], rfl, .tup ((hide_ne c2).trans f2) (.cons (.str _) .nil), short_other rfl⟩
          | 5, _ => exact ⟨_, .dict [], rfl, .dic (ds := []) ((hide_ne c3).trans f3) .nil .nil, short_other rfl⟩
          | 6, _ => exact ⟨_, .str "", rfl, .str _, short_str (by decide +kernel) (by decide +kernel)⟩
          | 7, _ => exact ⟨_, .str " ", rfl, .str _, short_str (by decide +kernel) (by decide +kernel)⟩
          | 8, _ => exact ⟨_, .str "-", rfl, .str _, short_str (by decide +kernel) (by decide +kernel)⟩
          | 9, _ => exact ⟨_, .str "0", rfl, .str _, short_str (by decide +kernel) (by decide +kernel)⟩
          | 10, _ => exact ⟨_, .str "-0", rfl, .str _, short_str (by decide +kernel) (by decide +kernel)⟩
        refine ⟨l2, _, _, o, rfl, rfl, .of f4, atI_nat ho, ?_⟩
        -- text
        refine ⟨_, rfl, b, 5, 300 * t + 1, rfl, B5, by omega, by decide, by decide, fun r5 H5 _ _ B6 k6 => ?_⟩
        have ro5 := rp_same (hide_but k6) _ _ ro
        refine ⟨_, _, rfl, rfl, _, rfl, ite2 (fun _ => ?_) (fun _ => ?_)⟩
        · refine ⟨_, rfl, b, 300 * t + 2, rfl, B6, by omega, fun z H6 asc hz B7 k7 => ?_⟩
          refine ql _ H6 b (300 * t + 102) (.str z) o (.str z) od _ _ _ _ _ _ _ _ _ _ (.str z) (fun y e => by cases e; exact ⟨asc, hz⟩) (rp_same (hide_but k7) _ _ ro5) so B7 (by omega) fun H9 k9 B9 w6 w7 w8 w9 w10 w11 w12 => ?_
          exact ⟨same_but s3 (((kk.trans k6).trans k7).trans k9) nbH, B9.mono (by omega), _, _, _, _, _, _, _, _, _, _, rfl⟩
        · refine ⟨_, rfl, ?_⟩
          refine ql _ H5 b (300 * t + 2) o o od od _ _ _ _ _ _ _ _ _ _ ro5 so ro5 so B6 (by omega) fun H9 k9 B9 w6 w7 w8 w9 w10 w11 w12 => ?_
          exact ⟨same_but s3 ((kk.trans k6).trans k9) nbH, B9.mono (by omega), _, _, _, _, _, _, _, _, _, _, rfl⟩
      · rintro σ H3 ⟨s3, _, y3, y4, y5, y6, y7, y8, y9, y10, y11, y12, rfl⟩
        exact ⟨s3, _, _, _, _, _, _, _, _, _, _, _, _, rfl⟩
    · rintro σ H1 ⟨s1, x1, x2, x3, x4, x5, x6, x7, x8, x9, x10, x11, x12, rfl⟩
      exact q H1
end
end G
set_option Elab.async false
set_option linter.all false
set_option maxRecDepth 100000
set_option maxHeartbeats 4000000
/-! SD: what the top has written, and the end. -/
namespace G
open PySem PySem.Spec PyProof.Rows L2 PySem.NumText
theorem all_mk {l : PySem.W.OpenLaw} {w : World} {K : PySem.W.Frag} {h : Heap} {mg : Str → Option Value} {fa D0 : Addr} {tM tD tl th : Tok} (X : K.In h) (G : h.Ns mainGlobals mg) (hfa : mg "law" = some (.ref fa))
    {f0 f1 f2 f3 f4 f5 f6 f7 f8 f9 f10 : Addr}
    {od0 an0 od1 an1 od2 an2 od3 an3 od4 an4 od5 an5 od6 an6 od7 an7 od8 an8 od9 an9 od10 an10 : Option Addr} {sl0 sl1 sl2 sl3 sl4 sl5 sl6 sl7 sl8 sl9 sl10 : Array (Option Value)} {oc0 kV0 dc0 pm0 cd0 ct0 oc1 kV1 dc1 pm1 cd1 ct1 oc2 kV2 dc2 pm2 cd2 ct2 oc3 kV3 dc3 pm3 cd3 ct3 oc4 kV4 dc4 pm4 cd4 ct4 oc5 kV5 dc5 pm5 cd5 ct5 oc6 kV6 dc6 pm6 cd6 ct6 oc7 kV7 dc7 pm7 cd7 ct7 oc8 kV8 dc8 pm8 cd8 ct8 oc9 kV9 dc9 pm9 cd9 ct9 oc10 dc10 pm10 cd10 ct10 : Value}
    (aM : PySem.W.nsIn K mainGlobals "MOST_DIGITS" = some (some (.int 30 tM))) (aD : PySem.W.nsIn K mainGlobals "DIGITS" = some (some (.str "0123456789" tD)))
    (a0 : PySem.W.nsIn K mainGlobals "is_decimal" = some (some (.ref f0))) (l0 : K.lookup f0 = some ⟨oc0, od0, .func (PySem.W.fnOf "is_decimal" "is_decimal" (defArgs sDec) (defBody sDec) (defScope sDec) .none kV0 dc0 pm0 an0 cd0 ct0), sl0⟩) (c0 : PySem.W.codeIn K cd0 "is_decimal" = true) (k0 : PySem.W.keepIn K (.ref f0) = true)
    (a1 : PySem.W.nsIn K mainGlobals "split_words" = some (some (.ref f1))) (l1 : K.lookup f1 = some ⟨oc1, od1, .func (PySem.W.fnOf "split_words" "split_words" (defArgs sSplit) (defBody sSplit) (defScope sSplit) .none kV1 dc1 pm1 an1 cd1 ct1), sl1⟩) (c1 : PySem.W.codeIn K cd1 "split_words" = true) (k1 : PySem.W.keepIn K (.ref f1) = true)
    (a2 : PySem.W.nsIn K mainGlobals "_law_cell" = some (some (.ref f2))) (l2 : K.lookup f2 = some ⟨oc2, od2, .func (PySem.W.fnOf "_law_cell" "_law_cell" (defArgs sCell) (defBody sCell) (defScope sCell) .none kV2 dc2 pm2 an2 cd2 ct2), sl2⟩) (c2 : PySem.W.codeIn K cd2 "_law_cell" = true) (k2 : PySem.W.keepIn K (.ref f2) = true)
    (a3 : PySem.W.nsIn K mainGlobals "_law_box" = some (some (.ref f3))) (l3 : K.lookup f3 = some ⟨oc3, od3, .func (PySem.W.fnOf "_law_box" "_law_box" (defArgs sBox) (defBody sBox) (defScope sBox) .none kV3 dc3 pm3 an3 cd3 ct3), sl3⟩) (c3 : PySem.W.codeIn K cd3 "_law_box" = true) (k3 : PySem.W.keepIn K (.ref f3) = true)
    (a4 : PySem.W.nsIn K mainGlobals "_law_take" = some (some (.ref f4))) (l4 : K.lookup f4 = some ⟨oc4, od4, .func (PySem.W.fnOf "_law_take" "_law_take" (defArgs sTake) (defBody sTake) (defScope sTake) .none kV4 dc4 pm4 an4 cd4 ct4), sl4⟩) (c4 : PySem.W.codeIn K cd4 "_law_take" = true) (k4 : PySem.W.keepIn K (.ref f4) = true)
    (a5 : PySem.W.nsIn K mainGlobals "_law_digits" = some (some (.ref f5))) (l5 : K.lookup f5 = some ⟨oc5, od5, .func (PySem.W.fnOf "_law_digits" "_law_digits" (defArgs sDigits) (defBody sDigits) (defScope sDigits) .none kV5 dc5 pm5 an5 cd5 ct5), sl5⟩) (c5 : PySem.W.codeIn K cd5 "_law_digits" = true) (k5 : PySem.W.keepIn K (.ref f5) = true)
    (a6 : PySem.W.nsIn K mainGlobals "_law_integer" = some (some (.ref f6))) (l6 : K.lookup f6 = some ⟨oc6, od6, .func (PySem.W.fnOf "_law_integer" "_law_integer" (defArgs sLint) (defBody sLint) (defScope sLint) .none kV6 dc6 pm6 an6 cd6 ct6), sl6⟩) (c6 : PySem.W.codeIn K cd6 "_law_integer" = true) (k6 : PySem.W.keepIn K (.ref f6) = true)
    (a7 : PySem.W.nsIn K mainGlobals "_law_line" = some (some (.ref f7))) (l7 : K.lookup f7 = some ⟨oc7, od7, .func (PySem.W.fnOf "_law_line" "_law_line" (defArgs sLine) (defBody sLine) (defScope sLine) .none kV7 dc7 pm7 an7 cd7 ct7), sl7⟩) (c7 : PySem.W.codeIn K cd7 "_law_line" = true) (k7 : PySem.W.keepIn K (.ref f7) = true)
    (a8 : PySem.W.nsIn K mainGlobals "_law_words" = some (some (.ref f8))) (l8 : K.lookup f8 = some ⟨oc8, od8, .func (PySem.W.fnOf "_law_words" "_law_words" (defArgs sLwords) (defBody sLwords) (defScope sLwords) .none kV8 dc8 pm8 an8 cd8 ct8), sl8⟩) (c8 : PySem.W.codeIn K cd8 "_law_words" = true) (k8 : PySem.W.keepIn K (.ref f8) = true)
    (a9 : PySem.W.nsIn K mainGlobals "law" = some (some (.ref f9))) (l9 : K.lookup f9 = some ⟨oc9, od9, .func (PySem.W.fnOf "law" "law" (defArgs sLaw) (defBody sLaw) (defScope sLaw) .none kV9 dc9 pm9 an9 cd9 ct9), sl9⟩) (c9 : PySem.W.codeIn K cd9 "law" = true) (k9 : PySem.W.keepIn K (.ref f9) = true)
    (a10 : PySem.W.nsIn K mainGlobals "parse_integer" = some (some (.ref f10))) (l10 : K.lookup f10 = some ⟨oc10, od10, .func (PySem.W.fnOf "parse_integer" "parse_integer" (defArgs sParse) (defBody sParse) (defScope sParse) .none (.ref D0) dc10 pm10 an10 cd10 ct10), sl10⟩) (c10 : PySem.W.codeIn K cd10 "parse_integer" = true) (k10 : PySem.W.keepIn K (.ref f10) = true)
    (dl : PySem.W.nsIn K D0 "low" = some (some (.int (-999) tl))) (dh : PySem.W.nsIn K D0 "high" = some (some (.int 999 th)))
    (z0 : PySem.W.nsIn K mainGlobals "isinstance" = some none) (z1 : PySem.W.nsIn K mainGlobals "int" = some none) (z2 : PySem.W.nsIn K mainGlobals "str" = some none) (z3 : PySem.W.nsIn K mainGlobals "len" = some none) (z4 : PySem.W.nsIn K mainGlobals "all" = some none) (z5 : PySem.W.nsIn K mainGlobals "max" = some none) (z6 : PySem.W.nsIn K mainGlobals "range" = some none) (z7 : PySem.W.nsIn K mainGlobals "repr" = some none) (z8 : PySem.W.nsIn K mainGlobals "min" = some none) :
    ∃ fd : FuncData, (∀ (s : Shared) (u : Value), BindsTo s fd ⟨[u], []⟩ [("_law_script", u)]) ∧ ∀ base : Heap, K.In base → base.Ns mainGlobals mg → FnG l.prog w K mg base CX0 5 fa fd ["_law_script"] (spLaw K) := by
  have e := hfa.symm.trans (PySem.W.mg_of X G a9)
  cases e
  have F0 := fun_mk (st := sDec) l0 c0 k0
  have b0 := F0.binds (ps := ["text"]) fun _ _ _ _ _ _ us hl => match us, hl with | [_], _ => rfl
  have g0 := PySem.W.mg_of X G a0
  have F1 := fun_mk (st := sSplit) l1 c1 k1
  have b1 := F1.binds (ps := ["text"]) fun _ _ _ _ _ _ us hl => match us, hl with | [_], _ => rfl
  have g1 := PySem.W.mg_of X G a1
  have F2 := fun_mk (st := sCell) l2 c2 k2
  have b2 := F2.binds (ps := ["_law_script", "_law_k"]) fun _ _ _ _ _ _ us hl => match us, hl with | [_, _], _ => rfl
  have g2 := PySem.W.mg_of X G a2
  have F3 := fun_mk (st := sBox) l3 c3 k3
  have b3 := F3.binds (ps := ["_law_cell_here"]) fun _ _ _ _ _ _ us hl => match us, hl with | [_], _ => rfl
  have g3 := PySem.W.mg_of X G a3
  have F4 := fun_mk (st := sTake) l4 c4 k4
  have b4 := F4.binds (ps := ["_law_box_here", "_law_many"]) fun _ _ _ _ _ _ us hl => match us, hl with | [_, _], _ => rfl
  have g4 := PySem.W.mg_of X G a4
  have F5 := fun_mk (st := sDigits) l5 c5 k5
  have b5 := F5.binds (ps := ["_law_box_here"]) fun _ _ _ _ _ _ us hl => match us, hl with | [_], _ => rfl
  have g5 := PySem.W.mg_of X G a5
  have F6 := fun_mk (st := sLint) l6 c6 k6
  have b6 := F6.binds (ps := ["_law_page", "_law_least", "_law_most"]) fun _ _ _ _ _ _ us hl => match us, hl with | [_, _, _], _ => rfl
  have g6 := PySem.W.mg_of X G a6
  have F7 := fun_mk (st := sLine) l7 c7 k7
  have b7 := F7.binds (ps := ["_law_box_here"]) fun _ _ _ _ _ _ us hl => match us, hl with | [_], _ => rfl
  have g7 := PySem.W.mg_of X G a7
  have F8 := fun_mk (st := sLwords) l8 c8 k8
  have b8 := F8.binds (ps := ["_law_text"]) fun _ _ _ _ _ _ us hl => match us, hl with | [_], _ => rfl
  have g8 := PySem.W.mg_of X G a8
  have F9 := fun_mk (st := sLaw) l9 c9 k9
  have g10 := PySem.W.mg_of X G a10
  have n0 := PySem.W.mg_none_of X G z0
  have n1 := PySem.W.mg_none_of X G z1
  have n2 := PySem.W.mg_none_of X G z2
  have n3 := PySem.W.mg_none_of X G z3
  have n4 := PySem.W.mg_none_of X G z4
  have n5 := PySem.W.mg_none_of X G z5
  have n6 := PySem.W.mg_none_of X G z6
  have n7 := PySem.W.mg_none_of X G z7
  have n8 := PySem.W.mg_none_of X G z8
  have kw : KwdV K (.ref D0) [("low", .int (-999)), ("high", .int 999)] := .inr ⟨D0, rfl, fun q hq => by
    rcases List.mem_cons.mp hq with rfl | hq
    · exact ⟨_, dl, ⟨_, rfl⟩⟩
    · rw [List.mem_singleton.mp hq]
      exact ⟨_, dh, ⟨_, rfl⟩⟩⟩
  have FPa : FP K f10 _ := ⟨⟨_, _, _, _, _, _, _, _, _, _, rfl, l10, c10, .inl ⟨rfl, rfl⟩, kw⟩, k10⟩
  refine ⟨PySem.W.fnOf "law" "law" (defArgs sLaw) (defBody sLaw) (defScope sLaw) .none kV9 dc9 pm9 an9 cd9 ct9, fun s u => .of_eq rfl, fun base _ _ => ?_⟩
  have GD : FnOk l.prog w K mg base CX0 1 f0 _ ["text"] spDec := ok_dec F0 (PySem.W.mg_of X G aM) (PySem.W.mg_of X G aD) n3 n4
  have GP : FnOk l.prog w K mg base CX0 2 f10 _ ["text", "low", "high"] (spParse K) := ok_parse FPa GD g0 k0 b0 n0 n2 n1
  exact ok_law F9 ⟨f2, _, g2, k2, b2, ok_cell F2 n3⟩ ⟨f3, _, g3, k3, b3, ok_box F3 n5⟩ ⟨f4, _, g4, k4, b4, ok_take F4⟩ ⟨f1, _, g1, k1, b1, ok_split F1 n0 n2⟩ ⟨f8, _, g8, k8, b8, ok_lwords F8 n0 n2⟩ ⟨f5, _, g5, k5, b5, ok_digits F5 F4 b4 g4 n6 n3⟩ ⟨f7, _, g7, k7, b7, ok_line F7 F4 b4 g4 n6 n3⟩ ⟨f6, _, g6, k6, b6, ok_lint F6 n0 n2 n3 n1⟩ FPa g10 GP n6 n5 n8 n3 n7 n0 n2
end G
open PySem PySem.W PyProof.Rows
set_option maxRecDepth 100000 in
set_option maxHeartbeats 0 in
theorem PySem.Challenge.cw_listviews_k03_numbers_and_words_in_texts_holds : PySem.Challenge.rw_listviews_k03_numbers_and_words_in_texts.Holds := by
  w_on; o_law; k_head; (case hw => w_witness2)
  k_fill
  refine G.walk_go (l := PySem.Challenge.rw_listviews_k03_numbers_and_words_in_texts) (n := 63) (k := 5) (x := "_law_script") (sp := G.spLaw) rfl (by decide) rfl ⟨rfl, by decide, by decide⟩ (fun w h Y => PySem.W.kIn_of Y) ?F (fun K H a ns hl _ hS => ⟨a, ns, rfl, hS, hl, fun _ => rfl⟩)
  case F =>
    intro w mg fa h KX GX hmg
    refine' G.all_mk KX GX hmg ?aM ?aD ?a0 ?l0 ?c0 ?k0 ?a1 ?l1 ?c1 ?k1 ?a2 ?l2 ?c2 ?k2 ?a3 ?l3 ?c3 ?k3 ?a4 ?l4 ?c4 ?k4 ?a5 ?l5 ?c5 ?k5 ?a6 ?l6 ?c6 ?k6 ?a7 ?l7 ?c7 ?k7 ?a8 ?l8 ?c8 ?k8 ?a9 ?l9 ?c9 ?k9 ?a10 ?l10 ?c10 ?k10 ?dl ?dh ?z0 ?z1 ?z2 ?z3 ?z4 ?z5 ?z6 ?z7 ?z8
    (case aM => k_is); (case aD => k_is); (case a0 => k_is); (case l0 => k_is); (case c0 => k_is); (case k0 => k_is); (case a1 => k_is); (case l1 => k_is)
    (case c1 => k_is); (case k1 => k_is); (case a2 => k_is); (case l2 => k_is); (case c2 => k_is); (case k2 => k_is); (case a3 => k_is); (case l3 => k_is)
    (case c3 => k_is); (case k3 => k_is); (case a4 => k_is); (case l4 => k_is); (case c4 => k_is); (case k4 => k_is); (case a5 => k_is); (case l5 => k_is)
    (case c5 => k_is); (case k5 => k_is); (case a6 => k_is); (case l6 => k_is); (case c6 => k_is); (case k6 => k_is); (case a7 => k_is); (case l7 => k_is)
    (case c7 => k_is); (case k7 => k_is); (case a8 => k_is); (case l8 => k_is); (case c8 => k_is); (case k8 => k_is); (case a9 => k_is); (case l9 => k_is)
    (case c9 => k_is); (case k9 => k_is); (case a10 => k_is); (case l10 => k_is); (case c10 => k_is); (case k10 => k_is); (case dl => k_is); (case dh => k_is)
    (case z0 => k_is); (case z1 => k_is); (case z2 => k_is); (case z3 => k_is); (case z4 => k_is); (case z5 => k_is); (case z6 => k_is); (case z7 => k_is)
    (case z8 => k_is)
