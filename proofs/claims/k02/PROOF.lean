import PyProof.Rows.All
import Wide.All
import OpenK.AllK
import Wide.FinOn
import HandS.ForMost
import HandS.ForExc
import HandS.ExcInit
import HandS.ExcField
import HandS.TryMany
import HandS.IsInst
import HandS.Wide
import HandS.Small
import HandS.RaiseMore
import PyProof.ReprRoads
import PySem.Challenge.RW_listviews_k02_answers_made_whole
set_option Elab.async false
set_option linter.all false
set_option maxRecDepth 100000
set_option maxHeartbeats 2000000
/-! G1: what a def keeps where no guard is under way; repr of data at any depth, dicts too. -/
namespace G
open PySem PySem.Spec PyProof.Rows L2

/-! ### how long a shown text is -/
mutual
def mass : PyData → Nat
  | .none => 4
  | .bool _ => 5
  | .int _ => 1921
  | .str x => (reprText x).length
  | .list xs => 3 + massAll xs
  | .tuple xs => 4 + massAll xs
  | .dict kvs => 3 + massKv kvs
def massAll : List PyData → Nat
  | [] => 0
  | x :: xs => mass x + 2 + massAll xs
def massKv : List (PyData × PyData) → Nat
  | [] => 0
  | (k, v) :: r => mass k + mass v + 4 + massKv r
end
theorem text_from_le : ∀ (ts : List Str) (k : Nat) (acc : Str), (textFrom k acc ts).length ≤ acc.length + piled ts
  | [], k, acc => by
    show acc.length ≤ acc.length + 0
    omega
  | t :: r, k, acc => by
    have h1 := text_from_le r (k + 1) (acc ++ (if k > 0 then ", " else "" : String) ++ t)
    rw [strLen_append, strLen_append] at h1
    have h2 : (((if k > 0 then ", " else "" : String) : Str)).length ≤ 2 := by
      split <;> decide
    show (textFrom (k + 1) _ r).length ≤ _
    rw [piled_cons]
    omega
theorem list_text_le (ts : List Str) : (listText ts).length ≤ 3 + piled ts := by
  unfold listText
  rw [strLen_append]
  have h1 := text_from_le ts 0 "["
  have e1 : ((("[" : String) : Str)).length = 1 := rfl
  have e2 : ((("]" : String) : Str)).length = 1 := rfl
  rw [e1] at h1
  rw [e2]
  omega
theorem join_le (ts : List Str) : (Str.join ", " ts).length ≤ piled ts := by
  by_cases h : ts = []
  · subst h
    exact Nat.le_refl 0
  · have := join_length_add ts h
    omega
theorem tuple_text_le (ts : List Str) : (tupleText ts).length ≤ 4 + piled ts := by
  unfold tupleText
  rw [strLen_append, strLen_append]
  have h1 := join_le ts
  have e1 : ((("(" : String) : Str)).length = 1 := rfl
  have e3 : (((if ts.length == 1 then ",)" else ")" : String) : Str)).length ≤ 2 := by split <;> decide
  rw [e1]
  omega
theorem dict_text_le (ts : List Str) : (dictText ts).length ≤ 3 + piled ts := by
  unfold dictText
  rw [strLen_append, strLen_append]
  have h1 := join_le ts
  have e1 : ((("{" : String) : Str)).length = 1 := rfl
  have e3 : ((("}" : String) : Str)).length = 1 := rfl
  rw [e1, e3]
  omega
mutual
theorem shown_le : ∀ d : PyData, d.showable = true → d.shown.length ≤ mass d
  | .none, _ => by decide
  | .bool b, _ => by cases b <;> decide
  | .int i, h => by
    have h' : i.natAbs.log2 < 1920 := by simpa [PyData.showable] using h
    have h2 := int_text_length_le (by decide) h'
    show (Str.ofString (toString i)).length ≤ 1921
    rw [PySem.ofString_length]
    exact h2
  | .str x, _ => by
    simp only [PyData.shown, mass]
    exact Nat.le_refl _
  | .list xs, h => by
    have h' : PyData.showableAll xs = true := by simpa [PyData.showable] using h
    have h1 := list_text_le (PyData.shownAll xs)
    have h2 := shown_all_le xs h'
    simp only [PyData.shown, mass]
    omega
  | .tuple xs, h => by
    have h' : PyData.showableAll xs = true := by simpa [PyData.showable] using h
    have h1 := tuple_text_le (PyData.shownAll xs)
    have h2 := shown_all_le xs h'
    simp only [PyData.shown, mass]
    omega
  | .dict kvs, h => by
    have h' : PyData.showableKv kvs = true := by simpa [PyData.showable] using h
    have h1 := dict_text_le (PyData.shownKv kvs)
    have h2 := shown_kv_le kvs h'
    simp only [PyData.shown, mass]
    omega
theorem shown_all_le : ∀ xs : List PyData, PyData.showableAll xs = true → piled (PyData.shownAll xs) ≤ massAll xs
  | [], _ => by
    simp only [PyData.shownAll, massAll, piled_nil]
    exact Nat.le_refl _
  | x :: xs, h => by
    simp only [PyData.showableAll, Bool.and_eq_true] at h
    have h1 := shown_le x h.1
    have h2 := shown_all_le xs h.2
    simp only [PyData.shownAll, massAll, piled_cons]
    omega
theorem shown_kv_le : ∀ xs : List (PyData × PyData), PyData.showableKv xs = true → piled (PyData.shownKv xs) ≤ massKv xs
  | [], _ => by
    simp only [PyData.shownKv, massKv, piled_nil]
    exact Nat.le_refl _
  | (k, v) :: xs, h => by
    simp only [PyData.showableKv, Bool.and_eq_true] at h
    have h1 := shown_le k h.1.1
    have h2 := shown_le v h.1.2
    have h3 := shown_kv_le xs h.2
    have e : (((": " : String) : Str)).length = 2 := rfl
    simp only [PyData.shownKv, massKv, piled_cons, strLen_append, e]
    omega
end

/-! ### data that stands in the heap: lists, tuples, dicts by int and text keys -/
mutual
inductive Rp (K : PySem.W.Frag) (H : Hp) : V → PyData → Prop
  | non : Rp K H .non .none
  | bl (b : Bool) : Rp K H (.bl b) (.bool b)
  | int (i : Int) : Rp K H (.int i) (.int i)
  | str (x : Str) : Rp K H (.str x) (.str x)
  | lst {a : Addr} {xs : List V} {ds : List PyData} : H a = some (.lst xs) → RpAll K H xs ds → Rp K H (.ref a) (.list ds)
  | tup {a : Addr} {xs : List V} {ds : List PyData} : H a = some (.tup xs) → RpAll K H xs ds → Rp K H (.ref a) (.tuple ds)
  | dic {a : Addr} {kvs : List (Key × V)} {ds : List (PyData × PyData)} : H a = some (.dK kvs) → RpAll K H (kvs.map fun p => kV p.1) (ds.map (·.1)) → RpAll K H (kvs.map (·.2)) (ds.map (·.2)) → Rp K H (.ref a) (.dict ds)
inductive RpAll (K : PySem.W.Frag) (H : Hp) : List V → List PyData → Prop
  | nil : RpAll K H [] []
  | cons {v : V} {vs : List V} {d : PyData} {ds : List PyData} : Rp K H v d → RpAll K H vs ds → RpAll K H (v :: vs) (d :: ds)
end

/-! ### .. and how it is read -/
mutual
/-- no list in it: each address that a reading of it counts is a dict's -/
def okS : PyData → Bool
  | .none | .bool _ | .int _ | .str _ => true
  | .list _ => false
  | .tuple xs => okSAll xs
  | .dict kvs => okSKv kvs
def okSAll : List PyData → Bool
  | [] => true
  | x :: xs => okS x && okSAll xs
def okSKv : List (PyData × PyData) → Bool
  | [] => true
  | (k, v) :: r => okS k && okS v && okSKv r
end
theorem okSKv_split : ∀ {kvs : List (PyData × PyData)}, okSKv kvs = true → okSAll (kvs.map (·.1)) = true ∧ okSAll (kvs.map (·.2)) = true
  | [], _ => ⟨rfl, rfl⟩
  | (k, v) :: r, h => by
    simp only [okSKv, Bool.and_eq_true] at h
    obtain ⟨h1, h2⟩ := okSKv_split h.2
    simp only [List.map_cons, okSAll, Bool.and_eq_true]
    exact ⟨⟨h.1.1, h1⟩, h.1.2, h2⟩
theorem pairs_vals {P : Program} {w : World} : ∀ {kvs : List (Key × V)} {vs : List (Key × Value)} {es : List DictEntry}, KV kvs vs → Pairs (mixKind P w) es vs →
    Vals (kvs.map fun p => kV p.1) (es.map (·.key)) ∧ Vals (kvs.map (·.2)) (es.map (·.val))
  | _, _, _, .nil, .nil => ⟨.nil, .nil⟩
  | _, _, _, .cons r t, .cons hk hv p => by
    obtain ⟨h1, h2⟩ := pairs_vals t p
    refine ⟨.cons ?_ h1, .cons ?_ h2⟩
    · dsimp only
      rw [r.1]
      rcases keyIs_shape hk with ⟨i, tk, e1, e2⟩ | ⟨x, tk, e1, e2⟩
      · rw [e1, e2]
        exact ⟨tk, rfl⟩
      · rw [e1, e2]
        exact ⟨tk, rfl⟩
    · dsimp only
      rw [hv]
      exact r.2
section
variable {X : Cx} {pins : List (Addr × Obj)} {σ : L2.St} {H : Hp} {s : Shared}
mutual
theorem rp_reads (I : Inv X pins σ H s) : ∀ (d : PyData) (v : V) (u : Value), Rp X.K H v d → RelV v u → ∃ as, Reads s.heap u d as ∧ (okS d = true → sysModules ∉ as)
  | .none, _, _, h, r => by
    cases h
    cases r
    exact ⟨_, Reads.none, fun _ => by simp⟩
  | .bool b, _, _, h, r => by
    cases h
    cases r
    exact ⟨_, Reads.bool b, fun _ => by simp⟩
  | .int i, _, _, h, r => by
    cases h
    obtain ⟨t, rfl⟩ := r
    exact ⟨_, Reads.int i t, fun _ => by simp⟩
  | .str x, _, _, h, r => by
    cases h
    obtain ⟨t, rfl⟩ := r
    exact ⟨_, Reads.str x t, fun _ => by simp⟩
  | .list ds, _, _, h, r => by
    cases h with
    | lst hs ha =>
      cases r
      obtain ⟨its, rv, ⟨o, n, ho, hc, _, hd⟩, _⟩ := I.list (.of hs)
      obtain ⟨as, hr, _⟩ := rp_readsAll I ds _ its ha rv
      exact ⟨_, Reads.list ho hc hd hr, fun z => by simp [okS] at z⟩
  | .tuple ds, _, _, h, r => by
    cases h with
    | tup hs ha =>
      cases r
      obtain ⟨its, rv, ⟨o, ho, hc, n, hd⟩, _⟩ := I.tuple (.of hs)
      obtain ⟨as, hr, q⟩ := rp_readsAll I ds _ its ha rv
      exact ⟨_, Reads.tuple ho hc hd hr, fun z => q (by simpa [okS] using z)⟩
  | .dict ds, _, _, h, r => by
    cases h with
    | dic hs hk hv =>
      cases r
      obtain ⟨_, hm, vs, rel, o, es, ep, e1, e2, e3, e4, e5, e6⟩ := I.hok _ _ hs
      obtain ⟨r1, r2⟩ := pairs_vals rel e5
      obtain ⟨as, q1, z1⟩ := rp_readsKeys I ds _ _ hk r1
      obtain ⟨bs, q2, z2⟩ := rp_readsVals I ds _ _ hv r2
      refine ⟨_, Reads.dict e1 e2.1 e3 q1 q2, fun z => ?_⟩
      have hz : okSKv ds = true := by simpa [okS] using z
      obtain ⟨k1, k2⟩ := okSKv_split hz
      have hm' := beq_eq_false_iff_ne.mp hm
      intro hin
      rcases List.mem_cons.mp hin with hx | hx
      · exact hm' hx.symm
      · rcases List.mem_append.mp hx with hx | hx
        · exact z1 k1 hx
        · exact z2 k2 hx
theorem rp_readsAll (I : Inv X pins σ H s) : ∀ (ds : List PyData) (vs : List V) (us : List Value), RpAll X.K H vs ds → Vals vs us → ∃ as, ReadsAll s.heap us ds as ∧ (okSAll ds = true → sysModules ∉ as)
  | [], _, _, h, r => by
    cases h
    cases r
    exact ⟨_, ReadsAll.nil, fun _ => by simp⟩
  | d :: ds, _, _, h, r => by
    cases h with
    | cons h1 h2 =>
      cases r with
      | cons r1 r2 =>
        obtain ⟨as, q1, z1⟩ := rp_reads I d _ _ h1 r1
        obtain ⟨bs, q2, z2⟩ := rp_readsAll I ds _ _ h2 r2
        refine ⟨_, ReadsAll.cons q1 q2, fun z => ?_⟩
        simp only [okSAll, Bool.and_eq_true] at z
        intro hin
        rcases List.mem_append.mp hin with hx | hx
        · exact z1 z.1 hx
        · exact z2 z.2 hx
theorem rp_readsKeys (I : Inv X pins σ H s) : ∀ (ds : List (PyData × PyData)) (vs : List V) (us : List Value), RpAll X.K H vs (ds.map (·.1)) → Vals vs us → ∃ as, ReadsAll s.heap us (ds.map (·.1)) as ∧ (okSAll (ds.map (·.1)) = true → sysModules ∉ as)
  | [], _, _, h, r => by
    cases h
    cases r
    exact ⟨_, ReadsAll.nil, fun _ => by simp⟩
  | (d, _) :: ds, _, _, h, r => by
    cases h with
    | cons h1 h2 =>
      cases r with
      | cons r1 r2 =>
        obtain ⟨as, q1, z1⟩ := rp_reads I d _ _ h1 r1
        obtain ⟨bs, q2, z2⟩ := rp_readsKeys I ds _ _ h2 r2
        refine ⟨_, ReadsAll.cons q1 q2, fun z => ?_⟩
        simp only [List.map_cons, okSAll, Bool.and_eq_true] at z
        intro hin
        rcases List.mem_append.mp hin with hx | hx
        · exact z1 z.1 hx
        · exact z2 z.2 hx
theorem rp_readsVals (I : Inv X pins σ H s) : ∀ (ds : List (PyData × PyData)) (vs : List V) (us : List Value), RpAll X.K H vs (ds.map (·.2)) → Vals vs us → ∃ as, ReadsAll s.heap us (ds.map (·.2)) as ∧ (okSAll (ds.map (·.2)) = true → sysModules ∉ as)
  | [], _, _, h, r => by
    cases h
    cases r
    exact ⟨_, ReadsAll.nil, fun _ => by simp⟩
  | (_, d) :: ds, _, _, h, r => by
    cases h with
    | cons h1 h2 =>
      cases r with
      | cons r1 r2 =>
        obtain ⟨as, q1, z1⟩ := rp_reads I d _ _ h1 r1
        obtain ⟨bs, q2, z2⟩ := rp_readsVals I ds _ _ h2 r2
        refine ⟨_, ReadsAll.cons q1 q2, fun z => ?_⟩
        simp only [List.map_cons, okSAll, Bool.and_eq_true] at z
        intro hin
        rcases List.mem_append.mp hin with hx | hx
        · exact z1 z.1 hx
        · exact z2 z.2 hx
end
end

/-! ### repr of a list of such data -/
/-- a list at the top: its own address is not counted -/
theorem repr_top {prog : Program} {w : World} {A : Around} {E : Value → Shared → Prop} {s : Shared} {Q : Value → Shared → Prop} {a : Addr} {o : Obj} {vs : Array Value} {n : Nat} {xs : List PyData} {as : List Addr}
    (h1 : s.heap.get? a = some o) (h2 : o.cls = .type "list") (h3 : o.data = .seq vs n) (h4 : ReadsAll s.heap vs.toList xs as) (hs : PyData.showableAll xs = true) (hsm : PyData.hasDictAll xs = true → sysModules ∉ as)
    (hg : A.guards = some []) (hu : A.units + ((PyData.list xs).depth + 1) < cLine) (hsz : (listText (PyData.shownAll xs)).length ≤ sizeLine)
    (hQ : ∀ h' u tk, (∀ b o, s.heap.get? b = some o → h'.get? b = some o) → Q (.str (listText (PyData.shownAll xs)) u) { s with heap := h', toks := tk }) :
    wpAny (model prog w) A (call (.builtin "repr") [.ref a]) Q E s := by
  obtain ⟨bs, hb, hk⟩ := ReprAllK.of_readsAll (prog := prog) (w := w) h4 hs hsm (fun t ht => Nat.le_trans (listText_mem_le ht) hsz)
  have hna : a ∉ bs :=
    not_mem_of_deeper (.list h1 h2 h3 h4) (by simp only [PyData.depth]; omega) hb
  simp only [PyData.depth] at hu
  refine call_repr_slot (A := A) (by omega) (idr := "list.__repr__") (T := "list") (show s.TypeIs (.ref a) "list" from ⟨o, h1, h2⟩) F.slot_list_repr.toG ?_
  have hu1 : A.in1.units = A.units + 1 := rfl
  obtain ⟨l⟩ := vs
  cases l with
  | nil =>
    have h4' : ReadsAll s.heap [] xs as := h4
    cases h4'
    have ht := hQ s.heap
    rw [show listText (PyData.shownAll []) = ("[]" : Str) by simp only [PyData.shownAll]; exact listText_nil] at ht
    exact call_list_repr_empty ⟨o, h1, h2⟩ h1 h3 ⟨_, _, rfl, ht _ _ fun _ _ e => e⟩
  | cons x l =>
    refine call_list_reprK h1 h2 h3 hna (by simpa using hk.length_eq) (fun i y e => hk.item i y (by simpa using e)) (by exact hg) (fun b _ => Clear.nil b) (by rw [hu1]; omega) (fun _ _ e => e) (fun h' u tk k => ⟨_, _, rfl, hQ h' u tk k⟩) hsz
/-- repr(xs), xs a list of data -/
def rRepr (K : PySem.W.Frag) : List V → Hp → VK → Prop := fun vs H Q => ∃ (a : Addr) (xs : List V) (ds : List PyData), vs = [.ref a] ∧ H a = some (.lst xs) ∧ RpAll K H xs ds ∧ PyData.showableAll ds = true ∧ (PyData.hasDictAll ds = true → okSAll ds = true) ∧
  (PyData.list ds).depth ≤ 20 ∧ 3 + massAll ds ≤ sizeLine ∧ Q (.str (listText (PyData.shownAll ds))) H
theorem call_repr {X : Cx} (hg : X.A.guards = some []) (hu : X.A.units + 64 < cLine) : CallR X (.builtin "repr") (rRepr X.K) := by
  intro pins s σ H xs us Q I r h
  obtain ⟨a, ys, ds, rfl, ha, hr, hs, hd, hp, hm, q⟩ := h
  obtain rfl := Vals.ref1 r
  obtain ⟨its, rv, ⟨o, n, ho, hc, _, hdt⟩, _⟩ := I.list (.of ha)
  obtain ⟨as, q1, z1⟩ := rp_readsAll I ds _ its hr rv
  have hz := Nat.le_trans (list_text_le _) (Nat.le_trans (Nat.add_le_add_left (shown_all_le ds hs) 3) hm)
  exact repr_top ho hc hdt q1 hs (fun z => z1 (hd z)) hg (by omega) hz fun h' u tk k => ⟨.str _, H, I.kept k, ⟨u, rfl⟩, q⟩
end G
set_option Elab.async false
set_option linter.all false
set_option maxRecDepth 100000
set_option maxHeartbeats 2000000
/-! G2: a def that runs where no guard is under way, and the law's own call. -/
namespace G
open PySem PySem.Spec PyProof.Rows L2
/-- as FnOk, of arounds without guards -/
structure FnG (P : Program) (w : World) (K : PySem.W.Frag) (mg : Str → Option Value) (base : Heap) (CX : CXT) (k : Nat) (f : Addr) (fd : FuncData) (ps : List Str) (sp : Sp) : Prop where
  size : ∀ vs H Q E, sp vs H Q E → vs.length = ps.length
  go : ∀ (A : Around) (outer : List Env) (s : Shared) (H : Hp) (args : Args) (us : List Value) (vs : List V) (Q : VK) (E : XK),
    A.guards = some [] → Room k A → Env0 P w K mg base A outer s H → BindsTo s fd args (ps.zip us) → Vals vs us → sp vs H Q E → codeAny (model P w) A (.call (.ref f) args) (CR CX outer P w H s Q E) s
section
variable {P : Program} {w : World} {K : PySem.W.Frag} {mg : Str → Option Value} {base : Heap} {CX : CXT}
theorem FnG.of_body {x qual : Str} {st : Stmt} {f : Addr} {fd : FuncData} {N ps : List Str} {k : Nat} {sp : Sp} (F : Fun K x qual st f fd) (S : FnScope N ps (defScope st))
    (size : ∀ vs H Q E, sp vs H Q E → vs.length = ps.length)
    (body : ∀ (cdv : Value) (A : Around) (outer : List Env) (s : Shared) (H : Hp) (vs : List V) (Q : VK) (E : XK), A.guards = some [] →
      Room k (A.deeper (envOfC qual (defScope st) s.heap.objs.size f cdv)) → sp vs H Q E →
      ∃ t, PSs (cxOf CX P w K mg base N qual (defScope st) f cdv A outer s H E).nox (defBody st) t ∧ t { nx := fun _ H' => Q .non H', rt := Q } (start N vs) H) :
    FnG P w K mg base CX (k + 1) f fd ps sp := by
  obtain ⟨_, _, _, _, _, _, cdv, _, _, rfl, lk, hcd⟩ := F.ex
  refine ⟨size, fun A outer s H args us vs Q E hg hr e0 hb r h => ?_⟩
  have inS : K.In s.heap := e0.mod.kin.keeps fun b o e => (e0.bs b o e).1
  have noL : s.heap.NoLimit := e0.mod.nolimit.keeps fun b o e => (e0.bs b o e).1
  refine codeAny_call_function hr.depth (inS _ _ lk) rfl S.co S.gen rfl
    (PySem.W.codeRec_of inS hcd) (hb _ _ _ _ ?_)
  refine wpAny_newFunctionEnv_cells S.kind
    (fun ⟨n, v⟩ hy => ?_) fun env he s1 x => ?_
  · rcases S.par n (List.of_mem_zip hy).1 with q | q
    · exact Or.inl q
    · exact Or.inr ⟨q, PySem.W.cellsFrom_some _ _ _ (Or.inl q)⟩
  · subst he
    refine ⟨noL.keeps x.toInCall.keep, codeAny_func ?_⟩
    obtain ⟨t, ht, hq⟩ := body cdv A outer s H vs Q E hg (hr.deeper _) h
    have J := inv_start (CX := CX) (P := P) (w := w) (K := K) (mg := mg) (base := base) (E := E) S hr.hd e0 (size _ _ _ _ h) r x
    refine wpAny_mono (ht.nox.run [] s1 (start N vs) H _ J hq) (fun fl s' z => ?_) fun e s' z => z
    cases fl with
    | ret u =>
      obtain ⟨v, σ', H', J', rv, q⟩ := z
      exact ⟨v, H', J'.os, J'.bare, J'.base, J'.hok, rv, q⟩
    | next =>
      obtain ⟨σ', H', J', q⟩ := z
      exact ⟨.non, H', J'.os, J'.bare, J'.base, J'.hok, rfl, q⟩
    | brk =>
      obtain ⟨_, _, _, q⟩ := z
      exact q.elim
    | cont =>
      obtain ⟨_, _, _, q⟩ := z
      exact q.elim
end
section
variable {X : Cx} {CX : CXT} {k : Nat} {f : Addr} {fd : FuncData} {ps : List Str} {sp : Sp} {dvs : List V} {ds : List Value} {E : XK} {x : Str} {p pos : Pos} {e : Expr} {es : List Expr} {t : TA}
theorem FnG.run {pins : List (Addr × Obj)} {σ : L2.St} {H : Hp} {s : Shared} {Q : VK} {us : List Value} {vs : List V} (F : FnG X.prog X.w X.K X.mg X.base CX k f fd ps sp) (hg : X.A.guards = some []) (hr : Room k X.A) (hb : Binds X.K fd ps ds) (hd : Vals dvs ds)
    (hx : Passes CX X E) (I : Inv X pins σ H s) (r : Vals vs us) (h : sp (vs ++ dvs) H Q E) : wpAny (model X.prog X.w) X.A (call (.ref f) us) (EP X pins σ Q) X.xe s := by
  have both := r.append hd
  have size : (us ++ ds).length = ps.length := both.length.symm.trans (F.size _ _ _ _ h)
  refine wpAny_call (codeAny_mono (F.go X.A X.stack s H ⟨us, []⟩ (us ++ ds) (vs ++ dvs) Q E hg hr I.env0 (hb s us I.kIn size) both h) fun q s' z => ?_)
  match q, z with
  | .error er, z => exact hx pins σ H s er s' I z
  | .ok (.ret u), z => exact I.after z
/-- f(e, ..) -/
theorem pe_callG (F : FnG X.prog X.w X.K X.mg X.base CX k f fd ps sp) (hg : X.A.guards = some []) (hr : Room k X.A) (gl : Gl X x) (hm : X.mg x = some (.ref f)) (hk : PySem.W.keepIn X.K (.ref f) = true) (hb : Binds X.K fd ps ds) (hd : Vals dvs ds)
    (hx : Passes CX X E) (ha : PA X (e :: es) t) (hdb : (x == ("__debug__" : Str)) = false := by decide)
    (he : starEach (e :: es) X.env = (false, eval e X.env) :: starEach es X.env := by rfl) (hpl : (backTo pos (starEach es X.env)).any (·.1) = false := by rfl) : PE X (.Call (.Name x p) (e :: es) [] pos) (tCall sp dvs E t) := by
  constructor
  intro pins s σ H Q I h
  refine wpAny_Call_Name_kw (ld_glob I gl hm ?_ hdb)
  exact PySem.W.callWith_K (h₀ := X.base) I.ok.mod.kin hk
    (thn (ha.run pos pins s σ H _ I h) fun us s1 ⟨vs, H1, I1, r, q⟩ => ⟨I1.kIn, F.run hg hr hb hd hx I1 r q⟩) he hpl
end
/-- True comes out, what stood stands, nothing went in or out -/
def Fine (s : Shared) (r : Result) (s' : Shared) : Prop :=
  r = .ok (.ret (.bool true)) ∧ OldK s.heap s'.heap ∧ s'.os = s.os ∧ AllBare s'.gens
/-- the law's call, from the state that the top leaves -/
theorem law_go {P : Program} {w : World} {K : PySem.W.Frag} {mg mb : Str → Option Value} {k : Nat} {fa a : Addr} {fd : FuncData} {x : Str} {sp : Sp} {s₁ : Shared} {vs : List Value} {ns : List Int}
    (inK : K.In s₁.heap) (gl : s₁.heap.Ns mainGlobals mg)
    (bl : s₁.heap.Ns builtinsNs mb) (boot : ∀ y : Str, y ≠ "__name__" → mb y = bootBuiltins y)
    (lim : s₁.heap.NoLimit) (noG : s₁.gens = #[])
    (script : s₁.heap.get? a = some { cls := .type "list", data := .seq vs.toArray })
    (allInt : IntsAre vs ns) (few : ns.length ≤ sizeLine) (hr : Room k callerA)
    (F : ∀ base : Heap, K.In base → base.Ns mainGlobals mg → FnG P w K mg base CX0 k fa fd [x] sp) (hbind : ∀ (s : Shared) (u : Value), BindsTo s fd ⟨[u], []⟩ [(x, u)])
    (hsp : ∀ H : Hp, Only H → SqL K H a (ns.map V.int) → sp [.ref a] H (fun v _ => v = .bl true) fun _ _ _ => False) :
    codeAny (model P w) callerA (.call (.ref fa) ⟨[.ref a], []⟩)
      (Fine s₁) s₁ := by
  -- nothing but the script is tracked; if the written part holds the script, nothing at all
  have main : ∀ H : Hp, Only H → SqL K H a (ns.map V.int) → HOk P w H s₁.heap → (∀ b, H b ≠ none → b = a ∧ K.lookup a = none) →
      codeAny (model P w) callerA (.call (.ref fa) ⟨[.ref a], []⟩)
      (Fine s₁) s₁ := by
    intro H hO hS hok hA
    have nsK : ∀ {b : Addr} {m : Str → Option Value}, s₁.heap.Ns b m → (hidT s₁.heap H).Ns b m := by
      rintro b m ⟨o, es, ep, e, d, r⟩
      refine ⟨o, es, ep, hidT_get e ?_, d, r⟩
      cases q : H b with
      | none => rfl
      | some u =>
        exfalso
        have eb := (hA b (by rw [q]; simp)).1
        rw [eb, script] at e
        rw [← Option.some.inj e] at d
        cases d
    have inB : K.In (hidT s₁.heap H) := fun b o e => hidT_get (inK b o e) (by
      cases q : H b with
      | none => rfl
      | some u =>
        exfalso
        obtain ⟨e1, e2⟩ := hA b (by rw [q]; simp)
        rw [e1, e2] at e
        cases e)
    obtain ⟨mc, l1, l2⟩ := lim
    have hM : Mod K mg (hidT s₁.heap H) := ⟨inB, nsK gl, ⟨mb, nsK bl, boot⟩, ⟨mc, nsK l1, l2⟩⟩
    have e0 : Env0 P w K mg (hidT s₁.heap H) callerA [] s₁ H := ⟨rfl, hM, fun b o e => of_hidT e, Nat.le_of_eq (hidT_size _ _), trivial, fun b z => absurd (show b ∈ ([] : List Addr) from z) (by simp), hok, .of_eq noG⟩
    have run := (F _ inB (nsK gl)).go callerA [] s₁ H ⟨[.ref a], []⟩ [.ref a] [.ref a] _ _ rfl hr e0 (hbind s₁ (.ref a)) (.cons rfl .nil) (hsp H hO hS)
    refine codeAny_mono run fun r s' h => ?_
    match r, h with
    | .ok (.ret u), h =>
      obtain ⟨v, H', os, bare, un, hok', r', q⟩ := h
      obtain rfl : v = .bl true := q
      obtain rfl : u = Value.bool true := r'
      refine ⟨rfl, OldK.of_keep fun b o e => ?_, os, bare⟩
      rcases hO b with z | ⟨ob, xs, z⟩
      · exact un.keep b o e z (fun z => absurd (show b ∈ ([] : List Addr) from z) (by simp)) (by simp)
      · obtain ⟨e1, _⟩ := hok b _ z
        obtain ⟨e2, _⟩ := hok' b _ (un.frzs b ob _ z)
        rw [e] at e1
        cases e1
        exact e2
  cases hk : K.lookup a with
  | some o =>
    have e := inK a o hk
    rw [script] at e
    cases e
    refine main (fun _ => none) (fun _ => .inl rfl) (.inr ⟨_, vs.toArray, _, hk, rfl, rfl, rfl, ?_, ?_⟩) (fun b u z => nomatch z) fun b z => absurd rfl z
    · rw [List.size_toArray, allInt.length]
      exact few
    · simpa using vals_ints allInt
  | none =>
    let o : Obj := { cls := .type "list", data := .seq vs.toArray }
    let T : HO := .frz o (.lst (ns.map V.int))
    have at_a : upd (fun _ => none) a T a = some T := upd_same
    refine main (upd (fun _ => none) a T) (fun b => ?_) (.inl (.inr ⟨o, at_a⟩)) (fun b u z => ?_) fun b z => ?_
    · by_cases h : b = a
      · exact .inr ⟨o, _, by rw [h]; exact at_a⟩
      · exact .inl (upd_ne h)
    · by_cases h : b = a
      · subst h
        rw [at_a] at z
        cases z
        exact ⟨script, by rw [List.length_map]; exact few, vs, _, vals_ints allInt, script⟩
      · rw [upd_ne h] at z
        cases z
    · by_cases h : b = a
      · exact ⟨h, hk⟩
      · exact absurd (upd_ne h) z
/-- what k_head leaves, by the law's promise -/
theorem walk_go {l : PySem.W.OpenLaw} {n k : Nat} {q : Program} {loose : List Str} {XP : (Str → Option Value) → Heap → Prop} {YP : World → Heap → Prop} {d : DefRec} {K : Params → PySem.W.Frag} {sp : PySem.W.Frag → Sp} {x : Str}
    (most : l.most = some n) (few : n ≤ sizeLine)
    (nodf : d.params.defaults = []) (hr : Room k callerA)
    (hY : ∀ (w : World) (h : Heap), YP w h → (K w.params).In h)
    (F : ∀ (w : World) (mg : Str → Option Value) (fa : Addr) (h : Heap),
      (K w.params).In h → h.Ns mainGlobals mg → mg d.name = some (.ref fa) →
      ∃ fd : FuncData, (∀ (s : Shared) (u : Value), BindsTo s fd ⟨[u], []⟩ [(x, u)]) ∧ ∀ base : Heap, (K w.params).In base → base.Ns mainGlobals mg → FnG l.prog w (K w.params) mg base CX0 k fa fd [x] (sp (K w.params)))
    (hsp : ∀ (K : PySem.W.Frag) (H : Hp) (a : Addr) (ns : List Int), ns.length ≤ n → Only H → SqL K H a (ns.map V.int) → sp K [.ref a] H (fun v _ => v = .bl true) fun _ _ _ => False) :
    PySem.W.WalkO q loose XP YP l.row.toRowW d []
      (fun f vs => PySem.call f vs) := by
  refine Att.attach_call most nodf
    fun w _ s₁ mg mb fa _ _ _ _ a vs ns top Y _ _ _ atF obj allInt len noG => ?_
  have inK := hY w _ Y
  obtain ⟨fd, binds, keeps⟩ := F w mg fa _ inK top.T.g atF
  exact law_go inK top.T.g top.T.b top.T.builtins top.T.nolimit noG obj allInt (Nat.le_trans len few) hr keeps binds
    fun H hO hS => hsp _ H a ns len hO hS
end G
set_option Elab.async false
set_option linter.all false
set_option maxRecDepth 100000
set_option maxHeartbeats 2000000
/-! G3: a cell, its box, a draw from it. -/
namespace G
open PySem PySem.Spec PyProof.Rows L2
def topS (i : Nat) : Stmt := PySem.Challenge.pw_listviews_k02_answers_made_whole.main.body.getD i (.Pass ⟨0, 0, 0, 0⟩)
abbrev sCell : Stmt := topS 13
abbrev sBox : Stmt := topS 14
abbrev sTake : Stmt := topS 15
theorem scCell : FnScope ["_law_script", "_law_k"] ["_law_script", "_law_k"] (defScope sCell) := ⟨rfl, rfl, rfl, by decide +kernel, rfl, by decide +kernel, by decide +kernel⟩
theorem scBox : FnScope ["_law_cell_here"] ["_law_cell_here"] (defScope sBox) := ⟨rfl, rfl, rfl, by decide +kernel, rfl, by decide +kernel, by decide +kernel⟩
theorem scTake : FnScope ["_law_box_here", "_law_many", "_law_digit", "_law_mixed"] ["_law_box_here", "_law_many"] (defScope sTake) := ⟨rfl, rfl, rfl, by decide +kernel, rfl, by decide +kernel, by decide +kernel⟩
/-- all but b stands as it stood -/
def But (b : Addr) (H H' : Hp) : Prop := ∀ c o, c ≠ b → H c = some o → H' c = some o
theorem But.refl (b : Addr) (H : Hp) : But b H H := fun _ _ _ h => h
theorem But.trans {b : Addr} {H H1 H2 : Hp} (x : But b H H1) (y : But b H1 H2) : But b H H2 := fun c o n h => y c o n (x c o n h)
theorem But.upd {b : Addr} {H : Hp} {o : HO} : But b H (upd H b o) := fun c u n h => by
  rw [upd_ne n]
  exact h
theorem But.new {b p : Addr} {H : Hp} {o : HO} (h : H p = none) : But b H (L2.upd H p o) := fun c u n e => by
  rw [upd_ne (ne_of_none e h)]
  exact e
theorem But.same {b : Addr} {H H' : Hp} (h : Same H H') : But b H H' := fun c o _ e => h c o e
theorem Same.new {p : Addr} {H : Hp} {o : HO} (h : H p = none) : Same H (upd H p o) := fun c u e => by
  rw [upd_ne (ne_of_none e h)]
  exact e
/-- a box from which at most n draws were made -/
def BoxAt (H : Hp) (b : Addr) (n : Nat) : Prop := ∃ x y z : Int, H b = some (.lst [.int x, .int y, .int z]) ∧ 0 ≤ x ∧ 0 ≤ y ∧ y < 2147483629 ∧ 0 ≤ z ∧ z ≤ n
theorem BoxAt.mono {H : Hp} {b : Addr} {n m : Nat} (h : BoxAt H b n) (le : n ≤ m) : BoxAt H b m := by
  obtain ⟨x, y, z, e, h1, h2, h3, h4, h5⟩ := h
  exact ⟨x, y, z, e, h1, h2, h3, h4, by omega⟩
theorem BoxAt.keep {H H' : Hp} {b : Addr} {n : Nat} (h : BoxAt H b n) (s : ∀ o, H b = some o → H' b = some o) : BoxAt H' b n := by
  obtain ⟨x, y, z, e, r⟩ := h
  exact ⟨x, y, z, s _ e, r⟩
/-- a draw is one of so many -/
theorem draw_at {r m : Int} {n : Nat} (h0 : 0 ≤ r) (h1 : r < m) (e : m = n) : ∃ j : Nat, r = j ∧ j < n := ⟨r.toNat, by omega, by omega⟩
def spCell' (K : PySem.W.Frag) : Sp := fun vs H Q _ => ∃ (a : Addr) (ns : List Int) (z : Int), vs = [.ref a, .int z] ∧ SqL K H a (ns.map V.int) ∧ 0 ≤ z ∧ z < 1000 ∧ ∀ i : Int, Q (.int i) H
def spBox : Sp := fun vs H Q _ => ∃ i : Int, vs = [.int i] ∧ ∀ (b : Addr) (H' : Hp), H b = none → Same H H' → BoxAt H' b 0 → Q (.ref b) H'
def spTake : Sp := fun vs H Q _ => ∃ (b : Addr) (m : Int) (n : Nat), vs = [.ref b, .int m] ∧ BoxAt H b n ∧ n ≤ 100000 ∧ 0 < m ∧ m < 2 ^ 200 ∧
  ∀ (r : Int) (H' : Hp), 0 ≤ r → r < m → BoxAt H' b (n + 1) → But b H H' → Q (.int r) H'
section
variable {P : Program} {w : World} {K : PySem.W.Frag} {mg : Str → Option Value} {base : Heap}
theorem ok_cell {f : Addr} {fd : FuncData} (F : Fun K "_law_cell" "_law_cell" sCell f fd) (ml : mg "len" = none) : FnOk P w K mg base CX0 1 f fd ["_law_script", "_law_k"] (spCell' K) := by
  refine F.ok scCell (fun vs H Q E h => ?_) (fun cdv A outer s H vs Q E hr h => ?_)
  · obtain ⟨a, ns, j, rfl, _⟩ := h
    rfl
  · obtain ⟨a, ns, z, rfl, hS, z0, z1, q⟩ := h
    obtain ⟨j, rfl, hj⟩ := draw_at (n := 1000) z0 z1 rfl
    refine ⟨_, pss_cons (ps_if (pt_cmpR op_lt (pv 1) (pe_callB call_len_seq (by rfl) ml PySem.boot_len (pa_cons (pv 0) pa_nil)) (nomark _))
        (pss_one (ps_ret (pe_ix ix_list (pv 0) (pv 1) (fun _ _ => rfl)))) pss_nil)
      (pss_one (ps_ret (pe_op op_add (pe_op op_mul pe_int (pv 1)) pe_int))), ?_⟩
    refine ⟨_, rfl, _, rfl, a, _, rfl, .inl hS, _, _, rfl, rfl, _, rfl, ite2 (fun e => ?_) (fun _ => ?_)⟩
    · have e1 : (j : Int) < ((ns.map V.int).length : Nat) := of_decide_eq_true e
      have e2 : j < ns.length := by
        rw [List.length_map] at e1
        omega
      exact ⟨_, rfl, _, rfl, a, _, _, .int ns[j], rfl, rfl, hS, atI_nat (by rw [List.getElem?_map, List.getElem?_eq_getElem e2] <;> rfl), q _⟩
    · exact ⟨_, rfl, _, _, rfl, rfl, .inl ⟨by decide, by decide⟩, _, _, rfl, rfl, q _⟩
theorem ok_box {f : Addr} {fd : FuncData} (F : Fun K "_law_box" "_law_box" sBox f fd) (mm : mg "max" = none) : FnOk P w K mg base CX0 1 f fd ["_law_cell_here"] spBox := by
  refine F.ok scBox (fun vs H Q E h => ?_) (fun cdv A outer s H vs Q E hr h => ?_)
  · obtain ⟨i, rfl, _⟩ := h
    rfl
  · obtain ⟨i, rfl, q⟩ := h
    refine ⟨_, pss_one (ps_ret (pe_lst (pa_cons (pe_callB (call_max2 rfl) (by rfl) mm (by decide +kernel) (pa_cons pe_int (pa_cons (pe_op op_sub (pv 0) (pe_op op_pow pe_int pe_int)) pa_nil)))
      (pa_cons (pe_op op_mod (pv 0) pe_int) (pa_cons pe_int pa_nil))))), ?_⟩
    refine ⟨_, rfl, _, _, rfl, rfl, ⟨by decide, by decide, by decide⟩, _, _, rfl, rfl, _, _, rfl, _, rfl, _, _, rfl, rfl, (by show (0 : Int) < 2147483629; decide), (by show 3 ≤ sizeLine; decide), fun b hb => ?_⟩
    refine q b _ hb (Same.new hb) ⟨_, _, _, upd_same, ?_, Int.emod_nonneg _ (by decide), Int.emod_lt_of_pos _ (by decide), Int.le_refl _, Int.le_refl _⟩
    split <;> omega
theorem emod_in (a m : Int) (h : 0 < m) : 0 ≤ a % m ∧ a % m < m := ⟨Int.emod_nonneg _ (by omega), Int.emod_lt_of_pos _ h⟩
theorem ok_take {f : Addr} {fd : FuncData} (F : Fun K "_law_take" "_law_take" sTake f fd) : FnOk P w K mg base CX0 1 f fd ["_law_box_here", "_law_many"] spTake := by
  refine F.ok scTake (fun vs H Q E h => ?_) (fun cdv A outer s H vs Q E hr h => ?_)
  · obtain ⟨b, m, n, rfl, _⟩ := h
    rfl
  · obtain ⟨b, m, n, rfl, ⟨x, y, z, hb, hx, hy, hy2, hz, hzn⟩, hn, hm, hm2, q⟩ := h
    refine ⟨_, pss_cons (ps_if (pt_cmpR op_gt (pe_ix ix_list (pv 0) pe_int (fun _ _ => rfl)) pe_int (nomark _))
        (pss_cons (ps_set (i := 2) scTake.nd rfl (.inl rfl) (pe_op op_mod (pe_ix ix_list (pv 0) pe_int (fun _ _ => rfl)) (pv 1)))
        (pss_cons (ps_asg (pe_op op_fdivW (pe_ix ix_list (pv 0) pe_int (fun _ _ => rfl)) (pv 1)) (pg_sub (pv 0) pe_int set_list))
        (pss_one (ps_ret (pv 2))))) pss_nil)
      (pss_cons (ps_asg (pe_op op_add (pe_ix ix_list (pv 0) pe_int (fun _ _ => rfl)) pe_int) (pg_sub (pv 0) pe_int set_list))
      (pss_cons (ps_set (i := 3) scTake.nd rfl (.inl rfl) (pe_op op_mod (pe_op op_pow (pe_op op_add (pe_op op_add (pe_ix ix_list (pv 0) pe_int (fun _ _ => rfl)) (pe_op op_mul pe_int (pe_ix ix_list (pv 0) pe_int (fun _ _ => rfl)))) pe_int) pe_int) pe_int))
      (pss_cons (ps_set (i := 3) scTake.nd rfl (.inl rfl) (pe_op op_mod (pe_op op_pow (pe_op op_add (pv 3) (pe_op op_mul pe_int (pe_ix ix_list (pv 0) pe_int (fun _ _ => rfl)))) pe_int) pe_int))
      (pss_one (ps_ret (pe_op op_mod (pe_op op_fdivW (pv 3) pe_int) (pv 1))))))), ?_⟩
    -- if box[0] > 0
    refine ⟨_, rfl, b, _, 0, .int x, rfl, rfl, .of hb, rfl, _, _, rfl, rfl, _, rfl, ite2 (fun e => ?_) (fun _ => ?_)⟩
    · refine ⟨_, rfl, b, _, 0, .int x, rfl, rfl, .of hb, rfl, _, rfl, _, _, rfl, rfl, hm, ?_⟩
      refine ⟨_, rfl, b, _, 0, .int x, rfl, rfl, .of hb, rfl, _, rfl, _, _, rfl, rfl, wide_div hm (b := 200) (by omega) (by decide) (by decide), ?_⟩
      refine ⟨_, rfl, b, _, 0, 0, rfl, rfl, hb, rfl, _, rfl, ?_⟩
      have r := emod_in x m hm
      exact q _ _ r.1 r.2 ⟨_, _, _, upd_same, Int.ediv_nonneg hx (by omega), hy, hy2, hz, by omega⟩ But.upd
    · refine ⟨_, rfl, b, _, 2, .int z, rfl, rfl, .of hb, rfl, _, _, rfl, rfl, ?_⟩
      refine ⟨_, rfl, b, _, 2, 2, rfl, rfl, hb, rfl, ?_⟩
      have hb' : (upd H b (.lst [.int x, .int y, .int (z + 1)])) b = some (.lst [.int x, .int y, .int (z + 1)]) := upd_same
      refine ⟨_, rfl, b, _, 1, .int y, rfl, rfl, .of hb', rfl, _, rfl, b, _, 2, .int (z + 1), rfl, rfl, .of hb', rfl, _, _, rfl, rfl, .inl ⟨by decide, by decide⟩, _, _, rfl, rfl, _, _, rfl, rfl,
        _, _, rfl, rfl, ⟨by decide, by decide, by omega⟩, _, _, rfl, rfl, (by show (0 : Int) < 2147483647; decide), ?_⟩
      generalize h1 : ((y + 8423 * (z + 1) + 127) ^ (5 : Int).toNat : Int) = t1
      have r1 := emod_in t1 2147483647 (by decide)
      refine ⟨_, rfl, _, rfl, b, _, 2, .int (z + 1), rfl, rfl, .of hb', rfl, _, _, rfl, rfl, .inl ⟨by decide, by decide⟩, _, _, rfl, rfl, _, _, rfl, rfl, ⟨by decide, by decide, by omega⟩, _, _, rfl, rfl, (by show (0 : Int) < 2147483587; decide), ?_⟩
      generalize h2 : ((t1 % 2147483647 + 104729 * (z + 1)) ^ (3 : Int).toNat : Int) = t2
      refine ⟨_, rfl, _, _, rfl, rfl, wide_div (by decide) (b := 200) (by decide) (by decide) (by decide), _, rfl, _, _, rfl, rfl, hm, ?_⟩
      have r := emod_in (t2 % 2147483587 / 16) m hm
      exact q _ _ r.1 r.2 ⟨_, _, _, upd_same, hx, hy, hy2, by omega, by omega⟩ But.upd
end
end G
set_option Elab.async false
set_option linter.all false
set_option maxRecDepth 100000
set_option maxHeartbeats 2000000
/-! G4: a drawn number. -/
namespace G
open PySem PySem.Spec PyProof.Rows L2
abbrev sNumber : Stmt := topS 16
theorem scNumber : FnScope ["_law_box_here", "_law_some"] ["_law_box_here"] (defScope sNumber) := ⟨rfl, rfl, rfl, by decide +kernel, rfl, by decide +kernel, by decide +kernel⟩
def spNumber : Sp := fun vs H Q _ => ∃ (b : Addr) (n : Nat), vs = [.ref b] ∧ BoxAt H b n ∧ n ≤ 90000 ∧
  ∀ (i : Int) (H' : Hp), i.natAbs ≤ 10 ^ 29 → BoxAt H' b (n + 2) → But b H H' → Q (.int i) H'
theorem box_new {H : Hp} {b p : Addr} {n : Nat} {o : HO} (B : BoxAt H b n) (h : H p = none) : BoxAt (upd H p o) b n := B.keep fun o' e => Same.new h b o' e
section
variable {P : Program} {w : World} {K : PySem.W.Frag} {mg : Str → Option Value} {base : Heap}
theorem ok_number {f fT : Addr} {fd fdT : FuncData} (F : Fun K "_law_number" "_law_number" sNumber f fd) (FT : Fun K "_law_take" "_law_take" sTake fT fdT) (bT : Binds K fdT ["_law_box_here", "_law_many"] [])
    (gT : mg "_law_take" = some (.ref fT)) : FnOk P w K mg base CX0 2 f fd ["_law_box_here"] spNumber := by
  have GT : FnOk P w K mg base CX0 1 fT fdT ["_law_box_here", "_law_many"] spTake := ok_take FT
  refine F.ok scNumber (fun vs H Q E h => ?_) (fun cdv A outer s H vs Q E hr h => ?_)
  · obtain ⟨b, n, rfl, _⟩ := h
    rfl
  · obtain ⟨b, n, rfl, hB, hn, q⟩ := h
    refine ⟨_, pss_cons (ps_set (i := 1) scNumber.nd rfl (.inl rfl) (pe_lst (pa_cons pe_int (pa_cons (pe_un un_neg pe_int) (pa_cons pe_int (pa_cons (pe_un un_neg pe_int) (pa_cons pe_int (pa_cons (pe_op op_pow pe_int pe_int)
        (pa_cons (pe_op op_sub (pe_call GT hr rfl gT FT.kp bT .nil pass0 (pa_cons (pv 0) (pa_cons pe_int pa_nil))) pe_int) pa_nil)))))))))
      (pss_one (ps_ret (pe_ix ix_list (pv 1) (pe_ix ix_list (pe_lst (pa_cons pe_int (pa_cons pe_int (pa_cons pe_int (pa_cons pe_int (pa_cons pe_int (pa_cons pe_int (pa_cons pe_int (pa_cons pe_int (pa_cons pe_int (pa_cons pe_int pa_nil)))))))))))
        (pe_call GT hr rfl gT FT.kp bT .nil pass0 (pa_cons (pv 0) (pa_cons pe_int pa_nil))) (fun _ _ => rfl)) (fun _ _ => rfl)))), ?_⟩
    refine ⟨_, rfl, _, rfl, _, _, rfl, rfl, ⟨by decide, by decide, by decide⟩, _, rfl, b, 19999, n, rfl, hB, by omega, by decide, by decide, fun r H1 r0 r1 B1 k1 => ?_⟩
    refine ⟨_, _, rfl, rfl, (by show 7 ≤ sizeLine; decide), fun p hp => ?_⟩
    refine ⟨_, rfl, (by show 10 ≤ sizeLine; decide), fun p2 hp2 => ?_⟩
    have B2 := box_new (o := .lst [.int 9999, .int (-9999), .int 10000, .int (-10000), .int 0, .int (10 ^ (29 : Int).toNat), .int (r - 9999)]) B1 hp
    refine ⟨_, rfl, b, 10, n + 1, rfl, box_new B2 hp2, by omega, by decide, by decide, fun j H2 j0 j1 B3 k2 => ?_⟩
    have bp : b ≠ p := by
      obtain ⟨_, _, _, e, _⟩ := B1
      exact ne_of_none e hp
    have bp2 : b ≠ p2 := by
      obtain ⟨_, _, _, e, _⟩ := B2
      exact ne_of_none e hp2
    have pp : p ≠ p2 := ne_of_none upd_same hp2
    have e1 : H2 p = some (.lst [.int 9999, .int (-9999), .int 10000, .int (-10000), .int 0, .int (10 ^ (29 : Int).toNat), .int (r - 9999)]) := k2 p _ bp.symm (by rw [upd_ne pp, upd_same])
    have e2 := k2 p2 _ bp2.symm upd_same
    have kk : But b H H2 := k1.trans ((But.new hp).trans ((But.new hp2).trans k2))
    obtain ⟨t, rfl, ht⟩ := draw_at (n := 10) j0 j1 rfl
    have fin : ∀ (i : Int), i.natAbs ≤ 10 ^ 29 → Q (.int i) H2 := fun i hi => q i H2 hi B3 kk
    match t, ht with
    | 0, _ => exact ⟨p2, _, _, _, rfl, rfl, .of e2, atI_nat rfl, p, _, _, _, rfl, rfl, .of e1, atI_nat (j := 0) rfl, fin _ (by decide)⟩
    | 1, _ => exact ⟨p2, _, _, _, rfl, rfl, .of e2, atI_nat rfl, p, _, _, _, rfl, rfl, .of e1, atI_nat (j := 1) rfl, fin _ (by decide)⟩
    | 2, _ => exact ⟨p2, _, _, _, rfl, rfl, .of e2, atI_nat rfl, p, _, _, _, rfl, rfl, .of e1, atI_nat (j := 2) rfl, fin _ (by decide)⟩
    | 3, _ => exact ⟨p2, _, _, _, rfl, rfl, .of e2, atI_nat rfl, p, _, _, _, rfl, rfl, .of e1, atI_nat (j := 3) rfl, fin _ (by decide)⟩
    | 4, _ => exact ⟨p2, _, _, _, rfl, rfl, .of e2, atI_nat rfl, p, _, _, _, rfl, rfl, .of e1, atI_nat (j := 4) rfl, fin _ (by decide)⟩
    | 5, _ => exact ⟨p2, _, _, _, rfl, rfl, .of e2, atI_nat rfl, p, _, _, _, rfl, rfl, .of e1, atI_nat (j := 5) rfl, fin _ (by decide)⟩
    | 6, _ => exact ⟨p2, _, _, _, rfl, rfl, .of e2, atI_nat rfl, p, _, _, _, rfl, rfl, .of e1, atI_nat (j := 6) rfl, fin _ (by omega)⟩
    | 7, _ => exact ⟨p2, _, _, _, rfl, rfl, .of e2, atI_nat rfl, p, _, _, _, rfl, rfl, .of e1, atI_nat (j := 6) rfl, fin _ (by omega)⟩
    | 8, _ => exact ⟨p2, _, _, _, rfl, rfl, .of e2, atI_nat rfl, p, _, _, _, rfl, rfl, .of e1, atI_nat (j := 6) rfl, fin _ (by omega)⟩
    | 9, _ => exact ⟨p2, _, _, _, rfl, rfl, .of e2, atI_nat rfl, p, _, _, _, rfl, rfl, .of e1, atI_nat (j := 6) rfl, fin _ (by omega)⟩
end
end G
set_option Elab.async false
set_option linter.all false
set_option maxRecDepth 100000
set_option maxHeartbeats 2000000
/-! G5: what data in the heap keeps, its type, == of it. -/
namespace G
open PySem PySem.Spec PyProof.Rows L2
section
variable {K : PySem.W.Frag} {H H' : Hp}
mutual
theorem rp_same (s : Same H H') : ∀ (d : PyData) (v : V), Rp K H v d → Rp K H' v d
  | .none, _, h => by
    cases h
    exact .non
  | .bool b, _, h => by
    cases h
    exact .bl b
  | .int i, _, h => by
    cases h
    exact .int i
  | .str x, _, h => by
    cases h
    exact .str x
  | .list ds, _, h => by
    cases h with
    | lst e r => exact .lst (s _ _ e) (rp_sameAll s ds _ r)
  | .tuple ds, _, h => by
    cases h with
    | tup e r => exact .tup (s _ _ e) (rp_sameAll s ds _ r)
  | .dict ds, _, h => by
    cases h with
    | dic e r q => exact .dic (s _ _ e) (rp_sameK s ds _ r) (rp_sameV s ds _ q)
theorem rp_sameAll (s : Same H H') : ∀ (ds : List PyData) (vs : List V), RpAll K H vs ds → RpAll K H' vs ds
  | [], _, h => by
    cases h
    exact .nil
  | d :: ds, _, h => by
    cases h with
    | cons a b => exact .cons (rp_same s d _ a) (rp_sameAll s ds _ b)
theorem rp_sameK (s : Same H H') : ∀ (ds : List (PyData × PyData)) (vs : List V), RpAll K H vs (ds.map (·.1)) → RpAll K H' vs (ds.map (·.1))
  | [], _, h => by
    cases h
    exact .nil
  | (d, _) :: ds, _, h => by
    cases h with
    | cons a b => exact .cons (rp_same s d _ a) (rp_sameK s ds _ b)
theorem rp_sameV (s : Same H H') : ∀ (ds : List (PyData × PyData)) (vs : List V), RpAll K H vs (ds.map (·.2)) → RpAll K H' vs (ds.map (·.2))
  | [], _, h => by
    cases h
    exact .nil
  | (_, d) :: ds, _, h => by
    cases h with
    | cons a b => exact .cons (rp_same s d _ a) (rp_sameV s ds _ b)
end
theorem rp_len : ∀ {ds : List PyData} {vs : List V}, RpAll K H vs ds → vs.length = ds.length
  | [], _, h => by
    cases h
    rfl
  | _ :: ds, _, h => by
    cases h with
    | cons a b =>
      rw [List.length_cons, List.length_cons, rp_len b]
theorem rp_at : ∀ {ds : List PyData} {vs : List V} {i : Nat} {v : V}, RpAll K H vs ds → vs[i]? = some v → ∃ d, ds[i]? = some d ∧ Rp K H v d
  | [], _, i, v, h, e => by
    cases h
    simp at e
  | d :: ds, _, i, v, h, e => by
    cases h with
    | cons a b =>
      cases i with
      | zero =>
        have e' := Option.some.inj e
        subst e'
        exact ⟨d, rfl, a⟩
      | succ j => exact rp_at (ds := ds) (i := j) b (by simpa using e)
theorem rp_app : ∀ {ds : List PyData} {vs : List V} {v : V} {d : PyData}, RpAll K H vs ds → Rp K H v d → RpAll K H (vs ++ [v]) (ds ++ [d])
  | [], _, _, _, h, r => by
    cases h
    exact .cons r .nil
  | _ :: ds, _, _, _, h, r => by
    cases h with
    | cons a b => exact .cons a (rp_app b r)
theorem rp_set : ∀ {ds : List PyData} {vs : List V} {v : V} {d : PyData} (i : Nat), RpAll K H vs ds → Rp K H v d → RpAll K H (vs.set i v) (ds.set i d)
  | [], _, _, _, _, h, r => by
    cases h
    exact .nil
  | _ :: ds, _, _, _, i, h, r => by
    cases h with
    | cons a b =>
      cases i with
      | zero => exact .cons r b
      | succ j => exact .cons a (rp_set j b r)
theorem rp_ints : ∀ (is : List Int), RpAll K H (is.map V.int) (is.map PyData.int)
  | [] => .nil
  | i :: is => .cons (.int i) (rp_ints is)
mutual
theorem rp_dp : ∀ (d : PyData) (v : V), d.hasDict = false → Rp K H v d → Dp K H v d
  | .none, _, _, h => by
    cases h
    exact .non
  | .bool b, _, _, h => by
    cases h
    exact .bl b
  | .int i, _, _, h => by
    cases h
    exact .int i
  | .str x, _, _, h => by
    cases h
    exact .str x
  | .list ds, _, n, h => by
    cases h with
    | lst e r => exact .lst (.of e) (rp_dpAll ds _ (by simpa [PyData.hasDict] using n) r)
  | .tuple ds, _, n, h => by
    cases h with
    | tup e r => exact .tup (.of e) (rp_dpAll ds _ (by simpa [PyData.hasDict] using n) r)
  | .dict ds, _, n, h => by simp [PyData.hasDict] at n
theorem rp_dpAll : ∀ (ds : List PyData) (vs : List V), PyData.hasDictAll ds = false → RpAll K H vs ds → DpAll K H vs ds
  | [], _, _, h => by
    cases h
    exact .nil
  | d :: ds, _, n, h => by
    simp only [PyData.hasDictAll, Bool.or_eq_false_iff] at n
    cases h with
    | cons a b => exact .cons (rp_dp d _ n.1 a) (rp_dpAll ds _ n.2 b)
end
/-- the name of a thing's type -/
def tyN : PyData → String
  | .none => "NoneType"
  | .bool _ => "bool"
  | .int _ => "int"
  | .str _ => "str"
  | .list _ => "list"
  | .tuple _ => "tuple"
  | .dict _ => "dict"
theorem rp_ty {v : V} {d : PyData} (h : Rp K H v d) : TyX K H v (.type (tyN d)) := by
  cases h with
  | non => exact .base .non
  | bl b => exact .base (.bl b)
  | int i => exact .base (.int i)
  | str x => exact .base (.str x)
  | lst e r => exact .base (.lst e)
  | tup e r => exact .base (.tup e)
  | dic e r q => exact .base (.dK e)
end
/-- H without what stands at b -/
def hide (b : Addr) (H : Hp) : Hp := fun a => if a = b then none else H a
theorem hide_same (b : Addr) (H : Hp) : Same (hide b H) H := fun a o e => by
  by_cases h : a = b
  · rw [show hide b H a = none from if_pos h] at e
    cases e
  · rwa [show hide b H a = H a from if_neg h] at e
theorem hide_ne {b a : Addr} {H : Hp} (h : a ≠ b) : hide b H a = H a := if_neg h
theorem hide_at {b : Addr} {H : Hp} : hide b H b = none := if_pos rfl
theorem hide_but {b : Addr} {H H' : Hp} (h : But b H H') : Same (hide b H) (hide b H') := fun a o e => by
  have n : a ≠ b := fun z => by
    rw [z, hide_at] at e
    cases e
  rw [hide_ne n] at e ⊢
  exact h a o n e
theorem hide_upd {b : Addr} {H : Hp} {o : HO} : hide b (upd H b o) = hide b H := by
  funext a
  by_cases h : a = b
  · rw [h, hide_at, hide_at]
  · rw [hide_ne h, hide_ne h, upd_ne h]
/-- what is new is not in what stood -/
theorem hide_new {b : Addr} {H : Hp} (h : H b = none) : Same H (hide b H) := fun a o e => by
  rw [hide_ne (ne_of_none e h)]
  exact e
theorem hide_mono {b : Addr} {H H' : Hp} (h : Same H H') : Same (hide b H) (hide b H') := hide_but fun c o _ e => h c o e
theorem hide_hide {b c : Addr} {H : Hp} : hide b (hide c H) = hide c (hide b H) := by
  funext a
  unfold hide
  split <;> split <;> rfl
end G
set_option Elab.async false
set_option linter.all false
set_option maxRecDepth 100000
set_option maxHeartbeats 4000000
/-! G6: a drawn thing. -/
namespace G
open PySem PySem.Spec PyProof.Rows L2
abbrev sThing : Stmt := topS 17
theorem scThing : FnScope ["_law_box_here", "_law_parts", "_law_some", "_law_k"] ["_law_box_here"] (defScope sThing) := ⟨rfl, rfl, rfl, by decide +kernel, rfl, by decide +kernel, by decide +kernel⟩
/-- a part of a drawn thing -/
def okP : PyData → Prop
  | .int i => i.natAbs ≤ 10 ^ 29
  | .none => True
  | .bool _ => True
  | .str x => x = "1" ∨ x = "more"
  | .list ds => ds = [.int 1]
  | .tuple ds => ds = [.int 1]
  | .dict _ => False
/-- a drawn thing -/
def okT : PyData → Prop
  | .int i => i.natAbs ≤ 10 ^ 29
  | .none => True
  | .bool _ => True
  | .str x => x = "7"
  | .list ds => ds.length ≤ 6 ∧ ∀ d ∈ ds, okP d
  | .tuple ds => ds.length ≤ 6 ∧ ∀ d ∈ ds, okP d
  | .dict kvs => kvs = [] ∨ kvs = [(.str "a", .int 1)] ∨ kvs = [(.str "more", .int 1)] ∨ kvs = [(.str "a", .int 1), (.str "more", .int 1)]
/-- a list, a dict: at an address that was free ahead of the draw, apart from all that is in it -/
def Mine (K : PySem.W.Frag) (H H' : Hp) (v : V) : PyData → Prop
  | .list ds => ∃ p xs, v = .ref p ∧ H p = none ∧ H' p = some (.lst xs) ∧ RpAll K (hide p H') xs ds ∧ ds.length ≤ 5
  | .dict kds => ∃ p kvs, v = .ref p ∧ H p = none ∧ H' p = some (.dK kvs) ∧ ((kvs = [] ∧ kds = []) ∨ (kvs = ([(Sum.inr "a", .int 1)] : List (Key × V)) ∧ kds = [(.str "a", .int 1)]))
  | _ => True
def spThing (K : PySem.W.Frag) : Sp := fun vs H Q _ => ∃ (b : Addr) (n : Nat), vs = [.ref b] ∧ BoxAt H b n ∧ n ≤ 80000 ∧
  ∀ (v : V) (d : PyData) (H' : Hp), Rp K H' v d → okT d → Mine K H H' v d → BoxAt H' b (n + 20) → But b H H' → Q v H'
theorem free_of {b p : Addr} {H H' : Hp} (k : But b H H') (n : p ≠ b) (h : H' p = none) : H p = none := by
  cases e : H p with
  | none => rfl
  | some o =>
    rw [k p o n e] at h
    cases h
theorem ints_noDict : ∀ is : List Int, PyData.hasDictAll (is.map PyData.int) = false
  | [] => by simp [PyData.hasDictAll]
  | i :: is => by
    have := ints_noDict is
    simp only [List.map_cons, PyData.hasDictAll, PyData.hasDict, this]
    rfl
theorem ints_can : ∀ is : List Int, PyData.canLayAll0 (is.map PyData.int) = true
  | [] => by simp [PyData.canLayAll0]
  | i :: is => by
    have := ints_can is
    simp only [List.map_cons, PyData.canLayAll0, PyData.canLay0, this]
    rfl
theorem ints_depth : ∀ is : List Int, PyData.depthAll (is.map PyData.int) = 0
  | [] => by simp [PyData.depthAll]
  | i :: is => by
    have := ints_depth is
    simp only [List.map_cons, PyData.depthAll, PyData.depth, this]
    rfl
theorem ints_shaped (is : List Int) : SeqAt.shaped (.list (is.map PyData.int)) = true := by
  unfold SeqAt.shaped
  simp only [PyData.canLay0, PyData.depth, ints_can, ints_depth]
  decide
section
variable {P : Program} {w : World} {K : PySem.W.Frag} {mg : Str → Option Value} {base : Heap}
theorem ok_thing {f fT fN : Addr} {fd fdT fdN : FuncData} (F : Fun K "_law_thing" "_law_thing" sThing f fd) (FT : Fun K "_law_take" "_law_take" sTake fT fdT) (bT : Binds K fdT ["_law_box_here", "_law_many"] [])
    (gT : mg "_law_take" = some (.ref fT)) (FN : Fun K "_law_number" "_law_number" sNumber fN fdN) (bN : Binds K fdN ["_law_box_here"] []) (gN : mg "_law_number" = some (.ref fN))
    (mr : mg "range" = none) (ml : mg "len" = none) (mt : mg "tuple" = none) (mli : mg "list" = none) : FnOk P w K mg base CX0 3 f fd ["_law_box_here"] (spThing K) := by
  have GT : FnOk P w K mg base CX0 1 fT fdT ["_law_box_here", "_law_many"] spTake := ok_take FT
  have GN : FnOk P w K mg base CX0 2 fN fdN ["_law_box_here"] spNumber := ok_number FN FT bT gT
  refine F.ok scThing (fun vs H Q E h => ?_) (fun cdv A outer s H vs Q E hr h => ?_)
  · obtain ⟨b, n, rfl, _⟩ := h
    rfl
  · obtain ⟨b, n, rfl, hB, hn, q⟩ := h
    have hr1 : Room 1 _ := hr.mono (by decide)
    -- from a list of parts on
    obtain ⟨t2, p2, q2⟩ : ∃ t, PSs (cxOf CX0 P w K mg base ["_law_box_here", "_law_parts", "_law_some", "_law_k"] "_law_thing" (defScope sThing) f cdv A outer s H E).nox ((defBody sThing).drop 2) t ∧
        ∀ (H3 : Hp) (D : Addr) (xs : List V) (ds : List PyData) (k3 : Option V) (y2 : Option V), H3 D = some (.lst xs) → D ≠ b → RpAll K (hide b H3) xs ds → ds.length ≤ 5 → (∀ d ∈ ds, okP d) → BoxAt H3 b (n + 14) → But b H H3 →
          t { nx := fun _ H' => Q .non H', rt := Q } [some (.ref b), some (.ref D), y2, k3] H3 := by
      refine ⟨_, pss_cons (ps_set (i := 2) scThing.nd rfl (.inl rfl) (pe_lst (pa_cons (pe_call GN hr rfl gN FN.kp bN .nil pass0 (pa_cons (pv 0) pa_nil))
          (pa_cons (pe_callTy call_tuple_of (by rfl) mt (by decide +kernel) (pa_cons (pv 1) pa_nil)) (pa_cons (pe_callTy call_tuple_of (by rfl) mt (by decide +kernel) (pa_cons (pv 1) pa_nil))
          (pa_cons (pe_callTy call_list_of (by rfl) mli (by decide +kernel) (pa_cons (pv 1) pa_nil)) (pa_cons pe_non (pa_cons pe_bl (pa_cons pe_str (pa_cons pe_dnewK
          (pa_cons (pe_disp (pps_cons pe_str pe_int pps_nil) (by rfl) (by rfl) (fun z => by cases z) (by decide)) (pa_cons (pe_lst pa_nil) pa_nil))))))))))))
        (pss_one (ps_ret (pe_ix ix_list (pv 2) (pe_ix ix_list (pe_lst (pa_cons pe_int (pa_cons pe_int (pa_cons pe_int (pa_cons pe_int (pa_cons pe_int (pa_cons pe_int (pa_cons pe_int (pa_cons pe_int (pa_cons pe_int (pa_cons pe_int (pa_cons pe_int (pa_cons pe_int (pa_cons pe_int pa_nil))))))))))))))
          (pe_call GT hr1 rfl gT FT.kp bT .nil pass0 (pa_cons (pv 0) (pa_cons pe_int pa_nil))) (fun _ _ => rfl)) (fun _ _ => rfl)))), ?_⟩
      intro H3 D xs ds k3 y2 eD nD hR hl hok B3 k0
      -- number(box)
      refine ⟨_, rfl, b, n + 14, rfl, B3, by omega, fun i H4 hi B4 k4 => ?_⟩
      have e4 : H4 D = some (.lst xs) := k4 _ _ nD eD
      have r4 : RpAll K (hide b H4) xs ds := rp_sameAll (hide_but k4) _ _ hR
      -- tuple(parts), twice; list(parts)
      refine ⟨_, rfl, D, xs, rfl, .inl ⟨.of e4, fun t1 n1 => ?_⟩⟩
      have s1 := Same.new (o := .tup xs) n1
      refine ⟨_, rfl, D, xs, rfl, .inl ⟨.of (s1 _ _ e4), fun t2 n2 => ?_⟩⟩
      have s2 := Same.new (o := .tup xs) n2
      refine ⟨_, rfl, D, xs, rfl, .inl (.of (s2 _ _ (s1 _ _ e4))), fun l3 n3 => ?_⟩
      have s3 := Same.new (o := .lst xs) n3
      -- {}, {'a': 1}, []
      intro d4 n4
      have s4 := Same.new (o := .dK []) n4
      intro d5 n5
      have s5 := Same.new (o := .dK []) n5
      refine ⟨upd_same, [(Sum.inr "a", .int 1)], rfl, by decide, ?_⟩
      rw [upd_upd]
      have s5' := Same.new (o := .dK (mergeK [] [(Sum.inr "a", .int 1)])) n5
      refine ⟨Nat.zero_le _, fun l6 n6 => ?_⟩
      have s6 := Same.new (o := .lst []) n6
      refine ⟨(by show 10 ≤ sizeLine; decide), fun l7 n7 => ?_⟩
      have s7 := Same.new (o := .lst [.int i, .ref t1, .ref t2, .ref l3, .non, .bl true, .str "7", .ref d4, .ref d5, .ref l6]) n7
      refine ⟨_, rfl, (by show 13 ≤ sizeLine; decide), fun l8 n8 => ?_⟩
      have s8 := Same.new (o := .lst [.int 0, .int 0, .int 1, .int 2, .int 1, .int 2, .int 3, .int 4, .int 5, .int 6, .int 7, .int 8, .int 9]) n8
      generalize hH5 : upd _ l8 _ = H5 at s8
      -- all the way to the last heap
      have a8 := s8
      have a7 := s7.trans a8
      have a6 := s6.trans a7
      have a5 := s5'.trans a6
      have a4 := s4.trans a5
      have a3 := s3.trans a4
      have a2 := s2.trans a3
      have a1 := s1.trans a2
      have B5 : BoxAt H5 b (n + 16) := B4.keep fun o e => a1 _ _ e
      refine ⟨_, rfl, b, 13, n + 16, rfl, B5, by omega, by decide, by decide, fun j H6 j0 j1 B6 k6 => ?_⟩
      obtain ⟨j, rfl, hj⟩ := draw_at (n := 13) j0 j1 rfl
      have nb : ∀ {c : Addr} {Hc : Hp}, Hc c = none → Same Hc H5 → Same H4 Hc → c ≠ b := fun {c Hc} z _ s z2 => by
        obtain ⟨_, _, _, e, _⟩ := B4
        rw [← z2] at e
        rw [s _ _ e] at z
        cases z
      have c1 := nb n1 (s1.trans a2) (Same.refl _)
      have c2 := nb n2 (s2.trans a3) s1
      have c3 := nb n3 (s3.trans a4) (s1.trans s2)
      have c4 := nb n4 a4 ((s1.trans s2).trans s3)
      have c5 := nb n5 a5 (((s1.trans s2).trans s3).trans s4)
      have c6 := nb n6 a6 ((((s1.trans s2).trans s3).trans s4).trans s5')
      have c7 := nb n7 a7 (((((s1.trans s2).trans s3).trans s4).trans s5').trans s6)
      have c8 := nb n8 a8 ((((((s1.trans s2).trans s3).trans s4).trans s5').trans s6).trans s7)
      have f1 : H6 t1 = some (.tup xs) := k6 _ _ c1 (a2 _ _ upd_same)
      have f2 : H6 t2 = some (.tup xs) := k6 _ _ c2 (a3 _ _ upd_same)
      have f3 : H6 l3 = some (.lst xs) := k6 _ _ c3 (a4 _ _ upd_same)
      have f4 : H6 d4 = some (.dK []) := k6 _ _ c4 (a5 _ _ upd_same)
      have f5 : H6 d5 = some (.dK [(Sum.inr "a", .int 1)]) := k6 _ _ c5 (a6 _ _ upd_same)
      have f6 : H6 l6 = some (.lst []) := k6 _ _ c6 (a7 _ _ upd_same)
      have f7 : H6 l7 = some (.lst [.int i, .ref t1, .ref t2, .ref l3, .non, .bl true, .str "7", .ref d4, .ref d5, .ref l6]) := k6 _ _ c7 (a8 _ _ upd_same)
      have f8 : H6 l8 = some (.lst [.int 0, .int 0, .int 1, .int 2, .int 1, .int 2, .int 3, .int 4, .int 5, .int 6, .int 7, .int 8, .int 9]) := k6 _ _ c8 (by rw [← hH5]; exact upd_same)
      have kH4 : But b H H4 := k0.trans k4
      have kk : But b H H6 := (kH4.trans (But.same a1)).trans k6
      have BB : BoxAt H6 b (n + 20) := B6.mono (by omega)
      have sR : Same (hide b H4) H6 := ((hide_mono a1).trans (hide_but k6)).trans (hide_same b H6)
      have r6 : RpAll K H6 xs ds := rp_sameAll sR _ _ r4
      have fr3 : H l3 = none := free_of kH4 c3 (by
        cases z : H4 l3 with
        | none => rfl
        | some o =>
          have := (s1.trans s2) _ _ z
          rw [n3] at this
          cases this)
      have fr4 : H d4 = none := free_of kH4 c4 (((s1.trans s2).trans s3).free n4)
      have fr5 : H d5 = none := free_of kH4 c5 ((((s1.trans s2).trans s3).trans s4).free n5)
      have fr6 : H l6 = none := free_of kH4 c6 (((((s1.trans s2).trans s3).trans s4).trans s5').free n6)
      have r3 : RpAll K (hide l3 H6) xs ds := rp_sameAll (H := hide b H4) (fun c o e => by
        have hn : hide b H4 l3 = none := by
          rw [hide_ne c3]
          exact (s1.trans s2).free n3
        rw [hide_ne (ne_of_none e hn)]
        exact sR _ _ e) _ _ r4
      have ok7 : okT (.tuple ds) := ⟨by omega, hok⟩
      have go : ∀ (v : V) (d : PyData), Rp K H6 v d → okT d → Mine K H H6 v d → Q v H6 := fun v d h1 h2 h3 => q v d H6 h1 h2 h3 BB kk
      have g0 : Q (.int i) H6 := go _ _ (.int i) hi trivial
      have g1 : Q (.ref t1) H6 := go _ _ (.tup f1 r6) ok7 trivial
      have g2 : Q (.ref t2) H6 := go _ _ (.tup f2 r6) ok7 trivial
      have g3 : Q (.ref l3) H6 := go _ _ (.lst f3 r6) (show okT (.list ds) from ⟨by omega, hok⟩) ⟨l3, xs, rfl, fr3, f3, r3, hl⟩
      have g4 : Q .non H6 := go _ _ .non trivial trivial
      have g5 : Q (.bl true) H6 := go _ _ (.bl true) trivial trivial
      have g6 : Q (.str "7") H6 := go _ _ (.str "7") rfl trivial
      have g7 : Q (.ref d4) H6 := go _ _ (.dic (ds := []) f4 .nil .nil) (.inl rfl) ⟨d4, [], rfl, fr4, f4, .inl ⟨rfl, rfl⟩⟩
      have g8 : Q (.ref d5) H6 := go _ _ (.dic (ds := [(.str "a", .int 1)]) f5 (.cons (.str _) .nil) (.cons (.int 1) .nil)) (.inr (.inl rfl)) ⟨d5, _, rfl, fr5, f5, .inr ⟨rfl, rfl⟩⟩
      have g9 : Q (.ref l6) H6 := go _ _ (.lst f6 .nil) (show okT (.list []) from ⟨by decide, fun d h => nomatch h⟩) ⟨l6, [], rfl, fr6, f6, .nil, by decide⟩
      match j, hj with
      | 0, _ => exact ⟨l8, _, _, _, rfl, rfl, .of f8, atI_nat rfl, l7, _, _, _, rfl, rfl, .of f7, atI_nat (j := 0) rfl, g0⟩
      | 1, _ => exact ⟨l8, _, _, _, rfl, rfl, .of f8, atI_nat rfl, l7, _, _, _, rfl, rfl, .of f7, atI_nat (j := 0) rfl, g0⟩
      | 2, _ => exact ⟨l8, _, _, _, rfl, rfl, .of f8, atI_nat rfl, l7, _, _, _, rfl, rfl, .of f7, atI_nat (j := 1) rfl, g1⟩
      | 3, _ => exact ⟨l8, _, _, _, rfl, rfl, .of f8, atI_nat rfl, l7, _, _, _, rfl, rfl, .of f7, atI_nat (j := 2) rfl, g2⟩
      | 4, _ => exact ⟨l8, _, _, _, rfl, rfl, .of f8, atI_nat rfl, l7, _, _, _, rfl, rfl, .of f7, atI_nat (j := 1) rfl, g1⟩
      | 5, _ => exact ⟨l8, _, _, _, rfl, rfl, .of f8, atI_nat rfl, l7, _, _, _, rfl, rfl, .of f7, atI_nat (j := 2) rfl, g2⟩
      | 6, _ => exact ⟨l8, _, _, _, rfl, rfl, .of f8, atI_nat rfl, l7, _, _, _, rfl, rfl, .of f7, atI_nat (j := 3) rfl, g3⟩
      | 7, _ => exact ⟨l8, _, _, _, rfl, rfl, .of f8, atI_nat rfl, l7, _, _, _, rfl, rfl, .of f7, atI_nat (j := 4) rfl, g4⟩
      | 8, _ => exact ⟨l8, _, _, _, rfl, rfl, .of f8, atI_nat rfl, l7, _, _, _, rfl, rfl, .of f7, atI_nat (j := 5) rfl, g5⟩
      | 9, _ => exact ⟨l8, _, _, _, rfl, rfl, .of f8, atI_nat rfl, l7, _, _, _, rfl, rfl, .of f7, atI_nat (j := 6) rfl, g6⟩
      | 10, _ => exact ⟨l8, _, _, _, rfl, rfl, .of f8, atI_nat rfl, l7, _, _, _, rfl, rfl, .of f7, atI_nat (j := 7) rfl, g7⟩
      | 11, _ => exact ⟨l8, _, _, _, rfl, rfl, .of f8, atI_nat rfl, l7, _, _, _, rfl, rfl, .of f7, atI_nat (j := 8) rfl, g8⟩
      | 12, _ => exact ⟨l8, _, _, _, rfl, rfl, .of f8, atI_nat rfl, l7, _, _, _, rfl, rfl, .of f7, atI_nat (j := 9) rfl, g9⟩
    -- the parts
    refine ⟨_, pss_cons (ps_setLc (i := 1) (own := [("_law_k", 3)]) (g := gName 3) (tt := tYes) (by rfl) scThing.nd rfl rfl (sw_true rfl rfl rfl (by decide +kernel))
        (pi_range1 rfl mr (pa_cons (pe_call GT hr1 rfl gT FT.kp bT .nil pass0 (pa_cons (pv 0) (pa_cons pe_int pa_nil))) pa_nil))
        (blkOk_by (own := [("_law_k", 3)]) (N := ["_law_box_here", "_law_parts", "_law_some", "_law_k"]) (sc := defScope sThing) (by decide +kernel))
        (fun _ _ _ _ _ => pg_name (i := 3) scThing.nd rfl (.inl rfl)) (fun _ _ _ _ _ => pts_nil)
        (fun _ _ _ _ _ => pe_call GN hr rfl gN FN.kp bN .nil pass0 (pa_cons (pv 0) pa_nil)))
      (pss_cons (ps_if (PW.pt (pw_and (pt_cmpR (op_neD hr.units) (pv 1) (pe_lst pa_nil) (nomark _)) (pw_and1 (pt_cmpR op_eq (pe_call GT hr1 rfl gT FT.kp bT .nil pass0 (pa_cons (pv 0) (pa_cons pe_int pa_nil))) pe_int (nomark _)))))
          (pss_one (ps_asg (pe_ix ix_list (pe_lst (pa_cons pe_non (pa_cons pe_bl (pa_cons pe_str (pa_cons (pe_lst (pa_cons pe_int pa_nil)) (pa_cons (pe_tup (pa_cons pe_int pa_nil)) pa_nil))))))
              (pe_call GT hr1 rfl gT FT.kp bT .nil pass0 (pa_cons (pv 0) (pa_cons pe_int pa_nil))) (fun _ _ => rfl))
            (pg_sub (pv 1) (pe_call GT hr1 rfl gT FT.kp bT .nil pass0 (pa_cons (pv 0) (pa_cons (pe_callB call_len_seq (by rfl) ml PySem.boot_len (pa_cons (pv 1) pa_nil)) pa_nil))) set_list))) pss_nil) p2), ?_⟩
    refine ⟨_, rfl, b, 6, n, rfl, hB, by omega, by decide, by decide, fun r H1 r0 r1 B1 k1 => ?_⟩
    refine ⟨r, rfl, by omega, by omega, fun D hD => ?_⟩
    have nD : D ≠ b := fun z => by
      obtain ⟨_, _, _, e, _⟩ := B1
      rw [← z, hD] at e
      cases e
    refine lc_range (lo := 0) (n := r.toNat) (fun i H2 => ∃ is : List Int, H2 D = some (.lst (is.map V.int)) ∧ is.length = i ∧ (∀ x ∈ is, x.natAbs ≤ 10 ^ 29) ∧ BoxAt H2 b (n + 1 + 2 * i) ∧ But b H H2) ?_ ?_ ?_
    · exact ⟨[], upd_same, rfl, (fun x h => nomatch h), box_new B1 hD, k1.trans (But.new hD)⟩
    · rintro i H2 hi ⟨is, e2, hl, hs, B2, k2⟩
      refine ⟨rfl, ?_⟩
      unfold tYes
      dsimp only
      rw [if_pos rfl]
      refine ⟨_, rfl, b, n + 1 + 2 * i, rfl, B2, by omega, fun x H3 hx B3 k3 => ?_⟩
      have e3 := k3 _ _ nD e2
      refine ⟨_, e3, ?_, is ++ [x], ?_, ?_, ?_, ?_, ?_⟩
      · rw [List.length_map]
        exact small1000 (by omega)
      · rw [upd_same, List.map_append]
        rfl
      · rw [List.length_append, hl]
        rfl
      · intro y hy
        rcases List.mem_append.mp hy with h | h
        · exact hs y h
        · rw [List.mem_singleton.mp h]
          exact hx
      · obtain ⟨x', y', z', e, r⟩ := B3
        refine ⟨x', y', z', ?_, ?_⟩
        · rw [upd_ne nD.symm]
          exact e
        · have em : n + 1 + 2 * (i + 1) = n + 1 + 2 * i + 2 := by omega
          rw [em]
          exact r
      · intro c o nc e
        have e' := k3 c o nc (k2 c o nc e)
        by_cases hc : c = D
        · exfalso
          rw [hc] at e
          have := k1 D o nD e
          rw [hD] at this
          cases this
        · rw [upd_ne hc]
          exact e'
    · rintro H2 ⟨is, e2, hl, hs, B2, k2⟩
      have hl5 : is.length ≤ 5 := by omega
      have okI : ∀ d ∈ is.map PyData.int, okP d := fun d hd => by
        obtain ⟨x, hx, rfl⟩ := List.mem_map.mp hd
        exact hs x hx
      have rest : ∀ H3 : Hp, H3 D = some (.lst (is.map V.int)) → BoxAt H3 b (n + 14) → But b H H3 → t2 { nx := fun _ H' => Q .non H', rt := Q } [some (.ref b), some (.ref D), none, none] H3 := fun H3 e3 B3 k3 =>
        q2 H3 D _ _ none none e3 nD (rp_ints is) (by rw [List.length_map]; exact hl5) okI B3 k3
      -- if parts != [] and take(box, 4) == 0
      refine ⟨_, rfl, Nat.zero_le _, fun z nz => ?_⟩
      have sz := Same.new (o := .lst []) nz
      refine ⟨.list (is.map .int), .list [], .lst (.of (sz _ _ e2)) (rp_dpAll _ _ (ints_noDict is) (rp_ints is)), .lst (.of upd_same) .nil, ints_shaped is, by decide, _, rfl, ?_⟩
      have B2' : BoxAt (upd H2 z (.lst [])) b (n + 11) := (box_new B2 nz).mono (by omega)
      have k2' : But b H (upd H2 z (.lst [])) := k2.trans (But.new nz)
      refine ite2 (fun ne => ?_) (fun _ => rest _ (sz _ _ e2) (B2'.mono (by omega)) k2')
      refine ⟨_, rfl, b, 4, n + 11, rfl, B2', by omega, by decide, by decide, fun r4 H3 _ _ B3 k3 => ?_⟩
      have e3 := k3 _ _ nD (sz _ _ e2)
      refine ⟨rfl, _, rfl, ite2 (fun _ => ?_) (fun _ => rest H3 e3 (B3.mono (by omega)) (k2'.trans k3))⟩
      have pos : 0 < is.length := by
        cases is with
        | nil => exact absurd ne (by decide)
        | cons x r => exact Nat.succ_pos _
      -- parts[take(box, len(parts))] = [None, True, '1', [1], (1,)][take(box, 5)]
      refine ⟨(by show 1 ≤ sizeLine; decide), fun l1 n1 => ?_⟩
      refine ⟨(by show 1 ≤ sizeLine; decide), fun t1 m1 => ?_⟩
      refine ⟨(by show 5 ≤ sizeLine; decide), fun l5 n5 => ?_⟩
      have z1 := Same.new (o := .lst [.int 1]) n1
      have z2 := Same.new (o := .tup [.int 1]) m1
      have z3 := Same.new (o := .lst [.non, .bl true, .str "1", .ref l1, .ref t1]) n5
      have zz := (z1.trans z2).trans z3
      refine ⟨_, rfl, b, 5, n + 12, rfl, B3.keep fun o e => zz _ _ e, by omega, by decide, by decide, fun j H4 j0 j1 B4 k4 => ?_⟩
      obtain ⟨j, rfl, hj⟩ := draw_at (n := 5) j0 j1 rfl
      have nb : ∀ {c : Addr} {Hc : Hp}, Hc c = none → Same H3 Hc → c ≠ b := fun {c Hc} z s z2 => by
        obtain ⟨_, _, _, e, _⟩ := B3
        rw [← z2] at e
        rw [s _ _ e] at z
        cases z
      have c1 := nb n1 (Same.refl _)
      have c2 := nb m1 z1
      have c5 := nb n5 (z1.trans z2)
      have f1 : H4 l1 = some (.lst [.int 1]) := k4 _ _ c1 (z3 _ _ (z2 _ _ upd_same))
      have f2 : H4 t1 = some (.tup [.int 1]) := k4 _ _ c2 (z3 _ _ upd_same)
      have f5 : H4 l5 = some (.lst [.non, .bl true, .str "1", .ref l1, .ref t1]) := k4 _ _ c5 upd_same
      have e4 := k4 _ _ nD (zz _ _ e3)
      have kk : But b H H4 := ((k2'.trans k3).trans (But.same zz)).trans k4
      have nDl : l1 ≠ D := fun z => by
        rw [z, e3] at n1
        cases n1
      have nDt : t1 ≠ D := fun z => by
        rw [z, z1 _ _ e3] at m1
        cases m1
      obtain ⟨v, d, hv, okd, hrp⟩ : ∃ (v : V) (d : PyData), ([.non, .bl true, .str "1", .ref l1, .ref t1] : List V)[j]? = some v ∧ okP d ∧ ∀ Hz : Hp, Hz l1 = some (.lst [.int 1]) → Hz t1 = some (.tup [.int 1]) → Rp K Hz v d := by
        match j, hj with
        | 0, _ => exact ⟨_, .none, rfl, trivial, fun _ _ _ => .non⟩
        | 1, _ => exact ⟨_, .bool true, rfl, trivial, fun _ _ _ => .bl true⟩
        | 2, _ => exact ⟨_, .str "1", rfl, .inl rfl, fun _ _ _ => .str "1"⟩
        | 3, _ => exact ⟨_, .list [.int 1], rfl, rfl, fun _ a _ => .lst a (.cons (.int 1) .nil)⟩
        | 4, _ => exact ⟨_, .tuple [.int 1], rfl, rfl, fun _ _ a => .tup a (.cons (.int 1) .nil)⟩
      refine ⟨l5, _, _, v, rfl, rfl, .of f5, atI_nat hv, ?_⟩
      refine ⟨_, rfl, _, rfl, _, rfl, D, _, rfl, .inl (.of e4), b, _, n + 13, rfl, B4, by omega, ?_, ?_, fun r6 H5 u0 u1 B5 k5 => ?_⟩
      · rw [List.length_map]
        omega
      · rw [List.length_map]
        omega
      obtain ⟨j6, rfl, hj6⟩ := draw_at u0 u1 rfl
      have e5 := k5 _ _ nD e4
      have ix : ixN (is.map V.int).length (j6 : Int) = some j6 := by
        unfold ixN
        rw [if_pos (by omega), if_pos (by omega)]
        rfl
      refine ⟨D, _, _, j6, rfl, rfl, e5, ix, ?_⟩
      refine q2 _ D _ ((is.map PyData.int).set j6 d) none none upd_same nD (rp_set j6 (rp_ints is) (hrp _ ?_ ?_)) ?_ ?_ ?_ ?_
      · rw [hide_ne c1, upd_ne nDl]
        exact k5 _ _ c1 f1
      · rw [hide_ne c2, upd_ne nDt]
        exact k5 _ _ c2 f2
      · rw [List.length_set, List.length_map]
        exact hl5
      · intro d' hd'
        rcases List.mem_or_eq_of_mem_set hd' with h | h
        · exact okI d' h
        · rw [h]
          exact okd
      · obtain ⟨x', y', z', e, r'⟩ := B5
        exact ⟨x', y', z', (upd_ne nD.symm).trans e, r'⟩
      · intro c o nc e
        have e' := k5 c o nc (kk c o nc e)
        rw [upd_ne (fun hc => ?_)]
        · exact e'
        · rw [hc] at e
          have := k1 D o nD e
          rw [hD] at this
          cases this
end
end G
set_option Elab.async false
set_option linter.all false
set_option maxRecDepth 100000
set_option maxHeartbeats 2000000
/-! G7: a try whose first clause, with a name, takes whatever the body raises; further clauses stand behind it. -/
namespace G
open PySem PySem.Spec PyProof.Rows L2
/-- the wish of the body: an exception of the class c, and the suite from it on -/
def wFirst (K : PySem.W.Frag) (c : Value) (i : Nat) (ts : Addr → Value → Option Addr → TS) (D : Ends) : WX := fun cls d σ H =>
  PySem.W.exmOne K cls c = some true ∧ ∀ a, H a = none →
    ts a cls d ⟨fun σ' H' => D.nx (σ'.set i none) H', D.rt, fun σ' H' => D.bk (σ'.set i none) H', fun σ' H' => D.ct (σ'.set i none) H'⟩ (σ.set i (some (.ref a))) H
section
variable {X : Cx} {x n : Str} {c : Value} {i : Nat} {body suite : List Stmt} {b₀ : Stmt} {np pos pos' : Pos} {tb : WX → TS} {ts : Addr → Value → Option Addr → TS} {more : List ExceptHandler}
theorem ps_try_first (hs : X.stack = X.env :: X.outer) (hf : X.env.frame = some X.env.locals) (hN : X.N.Nodup) (hi : X.N[i]? = some n) (hln : X.env.kindOf n = some .local) (hc : Names X x c)
    (hb : ∀ (W : WX) (pn : List (Addr × Obj)) (xe : Value → Shared → Prop),
      Takes (X.tr pn xe) W → PassesOwn (model X.prog X.w) X.A X.env xe → PSs (X.tr pn xe) body (tb W))
    (hsu : ∀ (a : Addr) (oe : Obj) (cls : Value) (d : Option Addr) (pn : List (Addr × Obj)),
      Zc cls d oe → (∃ vs, oe.data = .fields vs) → PSs (X.suite a ((a, oe) :: pn)) (b₀ :: suite) (ts a cls d)) :
    PS X (.Try body (.ExceptHandler (some (.Name x np)) (some n) (b₀ :: suite) pos' :: more) [] [] pos) (fun D σ H => tb (wFirst X.K c i ts D) D σ H) := by
  constructor
  intro pins s σ H D I h
  have ok := I.ok
  have frames : X.A.frames = some (X.env :: X.outer) := ok.frames.trans (congrArg some hs)
  refine wpAny_Try_except ?_
  let catching : Value → Shared → Prop := fun e s₁ =>
    wpAny (model X.prog X.w) X.A (noteFrame e X.env)
      (fun _ s₂ => wpAny (model X.prog X.w) X.A (setFlight e none)
        (fun _ s₃ => wpAny (model X.prog X.w) X.A (handleBy e X.env (.ExceptHandler (some (.Name x np)) (some n) (b₀ :: suite) pos' :: more)) (SP X pins D) X.xe s₃) X.xe s₂) X.xe s₁
  have caught : Takes (X.tr (X.pn ++ pins) catching) (wFirst X.K c i ts D) := by
    intro u s' xx
    obtain ⟨a, B, sI, pins', σ', H', cls, d, rfl, J', nb, up, sky, na, os, ag, hit, hyes⟩ := xx
    have J : Inv X pins σ' H' sI := J'.ofTry ok
    have sky2 : Sky B (X.env :: X.outer) a (Zc cls d) X.env.locals s'.heap := hs ▸ sky
    show wpAny (model X.prog X.w) X.A (noteFrame (.ref a) X.env) _ _ _
    refine Sky.land Zc.steady frames hf sky2 fun h3 fl3 up3 => ?_
    have J3 := J.landed (s' := { s' with heap := h3 }) nb fl3.1 (up.trans up3) os ag
    obtain ⟨oe3, vs3, he3, hz3, hd3⟩ := fl3.there
    -- the exception is no frame
    have nfr : a ∉ frs (X.env :: X.outer) := by
      intro hm
      obtain ⟨_, o', e', hnf⟩ := fl3.2.2.1.mem hm
      rw [he3] at e'
      cases e'
      exact hnf _ hd3
    have nL : a ≠ X.env.locals := by
      intro z
      exact nfr (List.mem_filterMap.mpr ⟨X.env, List.mem_cons_self, hf.trans (congrArg some z.symm)⟩)
    have nF : a ∉ X.fs := by
      intro hm
      obtain ⟨e, he, q⟩ := List.mem_filterMap.mp hm
      exact nfr (List.mem_filterMap.mpr ⟨e, List.mem_cons_of_mem _ he, q⟩)
    have S3 := J3.suite he3 hd3 na nL nF
    refine wpAny_handleBy_cons (codeAny_handlers_test ?_) (by intro q; cases q)
    have LT : PySem.W.Looks (model X.prog X.w) h3 (typeOf (.ref a)) cls := by
      intro A Q E s k q
      exact wpAny_typeOf_ref (k _ _ he3) (by rw [hz3.1]; exact q)
    have LM := PySem.W.exm_one (M := model X.prog X.w) (J3.kIn) LT hit
    have test : ∀ {Q : Value → Shared → Prop} {E : Value → Shared → Prop}, Q c { s' with heap := h3 } →
        wpAny (model X.prog X.w) (X.A.mark (some (.ref a))) (eval (.Name x np) X.env) Q E { s' with heap := h3 } := by
      intro Q E q
      rcases hc with ⟨hg, hdbg, hm | ⟨hm, hv, hnn⟩⟩
      · exact ld_glob (X := X.suite a ((a, oe3) :: (X.pn ++ pins))) S3 hg hm q hdbg
      · exact ld_blt (X := X.suite a ((a, oe3) :: (X.pn ++ pins))) S3 hg hm hv q hnn hdbg
    refine test (LM.here ?_)
    refine codeAny_handlers_suite_as ?_
    refine HandSPX.lands_againZ fl3 fun h4 fl4 up4 => ?_
    have J4 := J.landed (s' := { s' with heap := h4 }) nb fl4.1 ((up.trans up3).trans up4) os ag
    obtain ⟨oe4, vs4, he4, hz4, hd4⟩ := fl4.there
    have S4 := J4.suite he4 hd4 na nL nF
    refine store_ok (X := X.suite a ((a, oe4) :: (X.pn ++ pins))) (v := .ref a) S4 hN hi (.inl hln) rfl (fun s5 S5 => ?_) (.inr hln)
    refine wpAny_mono ((hsu a oe4 cls d (X.pn ++ pins) hz4 ⟨_, hd4⟩).run [] s5 _ H' _ S5 (hyes a na)) (fun f s6 z => ?_) fun _ _ z => False.elim z
    have away : ∀ {σ6 : L2.St} {H6 : Hp} {Q : Shared → Prop}, Inv (X.suite a ((a, oe4) :: (X.pn ++ pins))) [] σ6 H6 s6 → (∀ s7, Inv X pins (σ6.set i none) H6 s7 → Q s7) →
        wpAny (model X.prog X.w) X.A (do bindName X.env n .none; unbindBehindTheSuite X.env n pos') (fun _ s7 => Q s7) X.xe s6 := by
      intro σ6 H6 Q S6 hq
      exact gone_ok (S6.unsuite ok) hN hi hln hq
    match f, z with
    | .next, ⟨_, _, S6, q6⟩ => exact away S6 fun s7 J7 => ⟨_, _, J7, q6⟩
    | .brk, ⟨_, _, S6, q6⟩ => exact away S6 fun s7 J7 => ⟨_, _, J7, q6⟩
    | .cont, ⟨_, _, S6, q6⟩ => exact away S6 fun s7 J7 => ⟨_, _, J7, q6⟩
    | .ret u, ⟨_, _, _, S6, r6, q6⟩ => exact away S6 fun s7 J7 => ⟨_, _, _, J7, r6, q6⟩
  refine wpAny_mono ((hb (wFirst X.K c i ts D) (X.pn ++ pins) catching caught PassesOwn.looking).run [] s σ H D (I.toTry _) h) (fun f s1 z => ?_) fun e s1 he => he
  match f, z with
  | .next, ⟨σ', H', J, q⟩ => exact wpAny_execs_nil ⟨σ', H', J.ofTry ok, q⟩
  | .brk, ⟨σ', H', J, q⟩ => exact ⟨σ', H', J.ofTry ok, q⟩
  | .cont, ⟨σ', H', J, q⟩ => exact ⟨σ', H', J.ofTry ok, q⟩
  | .ret u, ⟨v, σ', H', J, r, q⟩ => exact ⟨v, σ', H', J.ofTry ok, r, q⟩
end
end G
set_option Elab.async false
set_option linter.all false
set_option maxRecDepth 100000
set_option maxHeartbeats 2000000
/-! G8: the program's looks at a thing, and the law's own. -/
namespace G
open PySem PySem.Spec PyProof.Rows L2
abbrev sIsInt : Stmt := topS 8
abbrev sAnswer : Stmt := topS 9
abbrev sFull : Stmt := topS 10
abbrev sItem : Stmt := topS 11
abbrev sPart : Stmt := topS 18
theorem scIsInt : FnScope ["value", "low", "high"] ["value", "low", "high"] (defScope sIsInt) := ⟨rfl, rfl, rfl, by decide +kernel, rfl, by decide +kernel, by decide +kernel⟩
theorem scAnswer : FnScope ["value"] ["value"] (defScope sAnswer) := ⟨rfl, rfl, rfl, by decide +kernel, rfl, by decide +kernel, by decide +kernel⟩
theorem scFull : FnScope ["value", "item"] ["value"] (defScope sFull) := ⟨rfl, rfl, rfl, by decide +kernel, rfl, by decide +kernel, by decide +kernel⟩
theorem scItem : FnScope ["value"] ["value"] (defScope sItem) := ⟨rfl, rfl, rfl, by decide +kernel, rfl, by decide +kernel, by decide +kernel⟩
theorem scPart : FnScope ["_law_thing_here"] ["_law_thing_here"] (defScope sPart) := ⟨rfl, rfl, rfl, by decide +kernel, rfl, by decide +kernel, by decide +kernel⟩
/-- an integer within bounds -/
def inB (d : PyData) (lo hi : Int) : Bool := match d with
  | .int i => decide (lo ≤ i) && decide (i ≤ hi)
  | _ => false
def isI : PyData → Bool
  | .int _ => true
  | .bool _ => true
  | _ => false
def isB : PyData → Bool
  | .bool _ => true
  | _ => false
def isTup : PyData → Bool
  | .tuple _ => true
  | _ => false
def isLst : PyData → Bool
  | .list _ => true
  | _ => false
def isDic : PyData → Bool
  | .dict _ => true
  | _ => false
theorem kit_i {K : PySem.W.Frag} : ∀ d : PyData, PySem.W.kitOne K (.type (tyN d)) (.type "int") = some (isI d)
  | .none => kit_ty (a := "NoneType") (b := "int") (r := false) (by decide +kernel)
  | .bool _ => kit_ty (a := "bool") (b := "int") (r := true) (by decide +kernel)
  | .int _ => kit_ty (a := "int") (b := "int") (r := true) (by decide +kernel)
  | .str _ => kit_ty (a := "str") (b := "int") (r := false) (by decide +kernel)
  | .list _ => kit_ty (a := "list") (b := "int") (r := false) (by decide +kernel)
  | .tuple _ => kit_ty (a := "tuple") (b := "int") (r := false) (by decide +kernel)
  | .dict _ => kit_ty (a := "dict") (b := "int") (r := false) (by decide +kernel)
theorem kit_b {K : PySem.W.Frag} : ∀ d : PyData, PySem.W.kitOne K (.type (tyN d)) (.type "bool") = some (isB d)
  | .none => kit_ty (a := "NoneType") (b := "bool") (r := false) (by decide +kernel)
  | .bool _ => kit_ty (a := "bool") (b := "bool") (r := true) (by decide +kernel)
  | .int _ => kit_ty (a := "int") (b := "bool") (r := false) (by decide +kernel)
  | .str _ => kit_ty (a := "str") (b := "bool") (r := false) (by decide +kernel)
  | .list _ => kit_ty (a := "list") (b := "bool") (r := false) (by decide +kernel)
  | .tuple _ => kit_ty (a := "tuple") (b := "bool") (r := false) (by decide +kernel)
  | .dict _ => kit_ty (a := "dict") (b := "bool") (r := false) (by decide +kernel)
theorem kit_t {K : PySem.W.Frag} : ∀ d : PyData, PySem.W.kitOne K (.type (tyN d)) (.type "tuple") = some (isTup d)
  | .none => kit_ty (a := "NoneType") (b := "tuple") (r := false) (by decide +kernel)
  | .bool _ => kit_ty (a := "bool") (b := "tuple") (r := false) (by decide +kernel)
  | .int _ => kit_ty (a := "int") (b := "tuple") (r := false) (by decide +kernel)
  | .str _ => kit_ty (a := "str") (b := "tuple") (r := false) (by decide +kernel)
  | .list _ => kit_ty (a := "list") (b := "tuple") (r := false) (by decide +kernel)
  | .tuple _ => kit_ty (a := "tuple") (b := "tuple") (r := true) (by decide +kernel)
  | .dict _ => kit_ty (a := "dict") (b := "tuple") (r := false) (by decide +kernel)
theorem kit_l {K : PySem.W.Frag} : ∀ d : PyData, PySem.W.kitOne K (.type (tyN d)) (.type "list") = some (isLst d)
  | .none => kit_ty (a := "NoneType") (b := "list") (r := false) (by decide +kernel)
  | .bool _ => kit_ty (a := "bool") (b := "list") (r := false) (by decide +kernel)
  | .int _ => kit_ty (a := "int") (b := "list") (r := false) (by decide +kernel)
  | .str _ => kit_ty (a := "str") (b := "list") (r := false) (by decide +kernel)
  | .list _ => kit_ty (a := "list") (b := "list") (r := true) (by decide +kernel)
  | .tuple _ => kit_ty (a := "tuple") (b := "list") (r := false) (by decide +kernel)
  | .dict _ => kit_ty (a := "dict") (b := "list") (r := false) (by decide +kernel)
theorem kit_d {K : PySem.W.Frag} : ∀ d : PyData, PySem.W.kitOne K (.type (tyN d)) (.type "dict") = some (isDic d)
  | .none => kit_ty (a := "NoneType") (b := "dict") (r := false) (by decide +kernel)
  | .bool _ => kit_ty (a := "bool") (b := "dict") (r := false) (by decide +kernel)
  | .int _ => kit_ty (a := "int") (b := "dict") (r := false) (by decide +kernel)
  | .str _ => kit_ty (a := "str") (b := "dict") (r := false) (by decide +kernel)
  | .list _ => kit_ty (a := "list") (b := "dict") (r := false) (by decide +kernel)
  | .tuple _ => kit_ty (a := "tuple") (b := "dict") (r := false) (by decide +kernel)
  | .dict _ => kit_ty (a := "dict") (b := "dict") (r := true) (by decide +kernel)
/-- an answer's part; an answer -/
abbrev item (d : PyData) : Bool := inB d (-9999) 9999
def full : PyData → Bool
  | .tuple ds => (decide (1 ≤ ds.length) && decide (ds.length ≤ 3)) && (ds.map fun d => inB d (-9999) 9999).all id
  | _ => false
def spIsInt (K : PySem.W.Frag) : Sp := fun vs H Q _ => ∃ (v : V) (d : PyData) (lo hi : Int), vs = [v, .int lo, .int hi] ∧ Rp K H v d ∧ Q (.bl (inB d lo hi)) H
def spItem (K : PySem.W.Frag) : Sp := fun vs H Q _ => ∃ (v : V) (d : PyData), vs = [v] ∧ Rp K H v d ∧ Q (.bl (item d)) H
def spFull (K : PySem.W.Frag) : Sp := fun vs H Q _ => ∃ (v : V) (d : PyData), vs = [v] ∧ Rp K H v d ∧ ∀ H', Same H H' → Q (.bl (full d)) H'
section
variable {P : Program} {w : World} {K : PySem.W.Frag} {mg : Str → Option Value} {base : Heap}
/-- isinstance(x, int), by name -/
theorem pt_isi {X : Cx} {y : Str} {py : Pos} {te : TE} {n : Str} {p q pos : Pos} (T : String) (he : PE X (.Name y py) te) (hg : Gl X "isinstance" := by rfl) (hm : X.mg "isinstance" = none) (gn : Gl X n := by rfl) (mn : X.mg n = none) (hv : bootBuiltins n = some (.type T) := by decide +kernel)
    (hn : n ≠ "__name__" := by decide) (hd : (n == ("__debug__" : Str)) = false := by decide) :
    PE X (.Call (.Name "isinstance" p) [.Name y py, .Name n q] [] pos) (tCB (rIsi X.K) (tCons te (tCons (tC (.ty T)) tNil))) :=
  pe_callB call_isi hg hm (by decide +kernel) (pa_cons he (pa_cons (pe_bltn gn mn hv rfl hn hd) pa_nil))
theorem ok_isint {f : Addr} {fd : FuncData} (F : Fun K "is_integer" "is_integer" sIsInt f fd) (mi : mg "isinstance" = none) (m1 : mg "int" = none) (m2 : mg "bool" = none) : FnOk P w K mg base CX0 1 f fd ["value", "low", "high"] (spIsInt K) := by
  refine F.ok scIsInt (fun vs H Q E h => ?_) (fun cdv A outer s H vs Q E hr h => ?_)
  · obtain ⟨v, d, lo, hi, rfl, _⟩ := h
    rfl
  · obtain ⟨v, d, lo, hi, rfl, hR, q⟩ := h
    refine ⟨_, pss_cons (ps_if (PW.pt (pw_or (pt_not (pt_val (pt_isi "int" (pv 0) (hm := mi) (mn := m1)))) (pw_or1 (pt_val (pt_isi "bool" (pv 0) (hm := mi) (mn := m2))))))
        (pss_one (ps_ret pe_bl)) pss_nil)
      (pss_one (ps_ret (pe_chain op_le op_le (pv 1) (pv 0) (pv 2)))), ?_⟩
    refine ⟨_, rfl, _, _, _, _, _, rfl, .ty _, rp_ty hR, kit_i d, _, rfl, ?_⟩
    have no : isI d = false → inB d lo hi = false := fun z => by cases d <;> first | rfl | simp [isI] at z
    have no2 : isB d = true → inB d lo hi = false := fun z => by cases d <;> first | rfl | simp [isB] at z
    cases e1 : isI d with
    | false =>
      refine iteT ?_
      refine iteT ?_
      rw [no e1] at q
      exact q
    | true =>
      refine iteF ?_
      refine ⟨_, rfl, _, _, _, _, _, rfl, .ty _, rp_ty hR, kit_b d, _, rfl, ?_⟩
      cases e2 : isB d with
      | true =>
        refine iteT ?_
        rw [no2 e2] at q
        exact q
      | false =>
        refine iteF ?_
        cases d with
        | int i =>
          cases hR
          refine ⟨_, rfl, _, rfl, _, _, rfl, rfl, _, rfl, ite2 (fun z => ?_) (fun z => ?_)⟩
          · refine ⟨_, rfl, _, _, rfl, rfl, ?_⟩
            have e : inB (.int i) lo hi = decide (i ≤ hi) := by
              show (decide (lo ≤ i) && decide (i ≤ hi)) = _
              rw [z]
              rfl
            rw [e] at q
            exact q
          · have e : inB (.int i) lo hi = false := by
              show (decide (lo ≤ i) && decide (i ≤ hi)) = _
              rw [Bool.eq_false_iff.mpr z]
              rfl
            rw [e] at q
            exact q
        | none => cases e1
        | bool b => cases e2
        | str x => cases e1
        | list x => cases e1
        | tuple x => cases e1
        | dict x => cases e1
theorem ok_item {f fI : Addr} {fd fdI : FuncData} {t : Tok} (F : Fun K "is_answer_item" "is_answer_item" sItem f fd) (FI : Fun K "is_integer" "is_integer" sIsInt fI fdI) (bI : Binds K fdI ["value", "low", "high"] []) (gI : mg "is_integer" = some (.ref fI))
    (gG : mg "GREATEST_IN_ANSWER" = some (.int 9999 t)) (mi : mg "isinstance" = none) (m1 : mg "int" = none) (m2 : mg "bool" = none) : FnOk P w K mg base CX0 2 f fd ["value"] (spItem K) := by
  have GI : FnOk P w K mg base CX0 1 fI fdI ["value", "low", "high"] (spIsInt K) := ok_isint FI mi m1 m2
  refine F.ok scItem (fun vs H Q E h => ?_) (fun cdv A outer s H vs Q E hr h => ?_)
  · obtain ⟨v, d, rfl, _⟩ := h
    rfl
  · obtain ⟨v, d, rfl, hR, q⟩ := h
    refine ⟨_, pss_one (ps_ret (pe_call GI hr rfl gI FI.kp bI .nil pass0 (pa_cons (pv 0) (pa_cons (pe_un un_neg (pe_glob (v := .int 9999) rfl gG ⟨_, rfl⟩)) (pa_cons (pe_glob (v := .int 9999) rfl gG ⟨_, rfl⟩) pa_nil))))), ?_⟩
    exact ⟨_, rfl, _, rfl, v, d, -9999, 9999, rfl, hR, q⟩
theorem ok_part {f : Addr} {fd : FuncData} (F : Fun K "_law_is_part" "_law_is_part" sPart f fd) (mi : mg "isinstance" = none) (m1 : mg "int" = none) (m2 : mg "bool" = none) : FnOk P w K mg base CX0 1 f fd ["_law_thing_here"] (spItem K) := by
  refine F.ok scPart (fun vs H Q E h => ?_) (fun cdv A outer s H vs Q E hr h => ?_)
  · obtain ⟨v, d, rfl, _⟩ := h
    rfl
  · obtain ⟨v, d, rfl, hR, q⟩ := h
    refine ⟨_, pss_one (ps_ret (pe_and (pt_isi "int" (pv 0) (hm := mi) (mn := m1)) (pe_and (pe_not (pt_isi "bool" (pv 0) (hm := mi) (mn := m2))) (pe_one (pe_chain op_le op_le (pe_un un_neg pe_int) (pv 0) pe_int))))), ?_⟩
    refine ⟨_, rfl, _, _, _, _, _, rfl, .ty _, rp_ty hR, kit_i d, _, rfl, ?_⟩
    have no : isI d = false → item d = false := fun z => by cases d <;> first | rfl | simp [isI] at z
    have no2 : isB d = true → item d = false := fun z => by cases d <;> first | rfl | simp [isB] at z
    cases e1 : isI d with
    | false =>
      refine iteF ?_
      rw [no e1] at q
      exact q
    | true =>
      refine iteT ?_
      refine ⟨_, rfl, _, _, _, _, _, rfl, .ty _, rp_ty hR, kit_b d, _, rfl, _, rfl, ?_⟩
      cases e2 : isB d with
      | true =>
        refine iteF ?_
        rw [no2 e2] at q
        exact q
      | false =>
        refine iteT ?_
        cases d with
        | int i =>
          cases hR
          refine ⟨_, rfl, _, rfl, _, _, rfl, rfl, _, rfl, ite2 (fun z => ?_) (fun z => ?_)⟩
          · refine ⟨_, _, rfl, rfl, ?_⟩
            have e : item (.int i) = decide (i ≤ 9999) := by
              show (decide (-9999 ≤ i) && decide (i ≤ 9999)) = _
              rw [z]
              rfl
            rw [e] at q
            exact q
          · have e : item (.int i) = false := by
              show (decide (-9999 ≤ i) && decide (i ≤ 9999)) = _
              rw [Bool.eq_false_iff.mpr z]
              rfl
            rw [e] at q
            exact q
        | none => cases e1
        | bool b => cases e2
        | str x => cases e1
        | list x => cases e1
        | tuple x => cases e1
        | dict x => cases e1
end
end G
set_option Elab.async false
set_option linter.all false
set_option maxRecDepth 100000
set_option maxHeartbeats 2000000
/-! G9: is_full_answer, the exception, answer_of. -/
namespace G
open PySem PySem.Spec PyProof.Rows L2
abbrev sInit : Stmt := inClass (topS 4) 0
theorem scInit : FnScope ["self", "value"] ["self", "value"] (defScope sInit) := ⟨rfl, rfl, rfl, by decide +kernel, rfl, by decide +kernel, by decide +kernel⟩
theorem take_bools {α : Type} {f : α → Bool} {ds : List α} {i : Nat} {d : α} (h : ds[i]? = some d) : ((ds.take (i + 1)).map f).map V.bl = ((ds.take i).map f).map V.bl ++ [V.bl (f d)] := by
  rw [List.take_add_one, h, List.map_append, List.map_append]
  rfl
section
variable {P : Program} {w : World} {K : PySem.W.Frag} {mg : Str → Option Value} {base : Heap}
theorem ok_full {f fI : Addr} {fd fdI : FuncData} {t : Tok} (F : Fun K "is_full_answer" "is_full_answer" sFull f fd) (bI : Binds K fdI ["value"] []) (gI : mg "is_answer_item" = some (.ref fI)) (kI : PySem.W.keepIn K (.ref fI) = true)
    (GI : FnOk P w K mg base CX0 2 fI fdI ["value"] (spItem K)) (gM : mg "MOST_IN_ANSWER" = some (.int 3 t)) (mi : mg "isinstance" = none) (mt : mg "tuple" = none) (ml : mg "len" = none) (ma : mg "all" = none) :
    FnOk P w K mg base CX0 3 f fd ["value"] (spFull K) := by
  refine F.ok scFull (fun vs H Q E h => ?_) (fun cdv A outer s H vs Q E hr h => ?_)
  · obtain ⟨v, d, rfl, _⟩ := h
    rfl
  · obtain ⟨v, d, rfl, hR, q⟩ := h
    refine ⟨_, pss_cons (ps_if (PW.pt (pw_or (pt_not (pt_val (pt_isi "tuple" (pv 0) (hm := mi) (mn := mt)))) (pw_or1 (pt_not (pt_chain op_le op_le pe_int (pe_callB call_len_seq (by rfl) ml PySem.boot_len (pa_cons (pv 0) pa_nil)) (pe_glob (v := .int 3) rfl gM ⟨_, rfl⟩))))))
        (pss_one (ps_ret pe_bl)) pss_nil)
      (pss_one (ps_ret (pe_callB (cr_all rfl) (by rfl) ma (by decide +kernel) (pa_cons (pe_lc (own := [("item", 1)]) (g := gName 1) (tt := tYes) (by rfl) scFull.nd (pi_tup (pv 0))
        (blkOk_by (own := [("item", 1)]) (N := ["value", "item"]) (sc := defScope sFull) (by decide +kernel)) (fun _ _ _ _ _ => pg_name (i := 1) scFull.nd rfl (.inl rfl)) (fun _ _ _ _ _ => pts_nil)
        (fun _ _ _ _ _ => pe_call GI hr rfl gI kI bI .nil pass0 (pa_cons (pv 1) pa_nil))) pa_nil)))), ?_⟩
    refine ⟨_, rfl, _, _, _, _, _, rfl, .ty _, rp_ty hR, kit_t d, _, rfl, ?_⟩
    cases e1 : isTup d with
    | false =>
      refine iteT (iteT ?_)
      have e : full d = false := by cases d <;> first | rfl | cases e1
      have := q H (Same.refl H)
      rw [e] at this
      exact this
    | true =>
      refine iteF ?_
      cases hR with
      | non => cases e1
      | bl b => cases e1
      | int i => cases e1
      | str x => cases e1
      | lst a b => cases e1
      | dic a b c => cases e1
      | @tup a xs ds ha hr' =>
        have hl := rp_len hr'
        refine ⟨_, rfl, a, xs, rfl, .inr (.of ha), _, _, rfl, rfl, _, rfl, ?_⟩
        have small : ∀ {z : Bool}, (decide (1 ≤ ds.length) && decide (ds.length ≤ 3)) = false → Q (.bl false) H := fun {z} e => by
          have e2 : full (.tuple ds) = false := by
            show ((decide (1 ≤ ds.length) && decide (ds.length ≤ 3)) && _) = false
            rw [e]
            rfl
          have := q H (Same.refl H)
          rw [e2] at this
          exact this
        refine ite2 (fun z1 => ?_) (fun z1 => ?_)
        · have l1 : 1 ≤ ds.length := by
            have := of_decide_eq_true z1
            omega
          refine ⟨_, _, rfl, rfl, _, rfl, ?_⟩
          cases z2 : decide ((xs.length : Int) ≤ 3) with
          | false =>
            refine iteT ?_
            have : ¬ ((xs.length : Int) ≤ 3) := of_decide_eq_false z2
            refine small (z := true) ?_
            rw [decide_eq_false (show ¬ ds.length ≤ 3 by omega), Bool.and_false]
          | true =>
            refine iteF ?_
            have l3 : ds.length ≤ 3 := by
              have := of_decide_eq_true z2
              omega
            have ef : full (.tuple ds) = (ds.map fun d => inB d (-9999) 9999).all id := by
              show ((decide (1 ≤ ds.length) && decide (ds.length ≤ 3)) && _) = _
              rw [decide_eq_true l1, decide_eq_true l3]
              rfl
            refine ⟨_, rfl, a, rfl, ⟨_, .of ha⟩, fun D hD => ?_⟩
            refine lc_tup (a := a) (xs := xs) (fun i H2 => Same H H2 ∧ H2 D = some (.lst (((ds.take i).map fun d => inB d (-9999) 9999).map V.bl))) ?_ ?_ ?_ ?_
            · exact ⟨Same.new hD, upd_same⟩
            · intro i H2 _ h2
              exact .of (h2.1 _ _ ha)
            · rintro i x H2 hx ⟨s2, e2⟩
              obtain ⟨d, hd, rd⟩ := rp_at hr' hx
              refine ⟨rfl, ?_⟩
              unfold tYes
              dsimp only
              rw [if_pos rfl]
              refine ⟨_, rfl, x, d, rfl, rp_same s2 _ _ rd, ?_⟩
              refine ⟨_, e2, ?_, fun c o e => ?_, ?_⟩
              · rw [List.length_map, List.length_map, List.length_take]
                exact small1000 (by omega)
              · rw [upd_ne (ne_of_none e hD)]
                exact s2 _ _ e
              · rw [upd_same, take_bools hd]
            · rintro H2 ⟨s2, e2⟩
              refine ⟨D, _, rfl, .of e2, ?_⟩
              rw [hl, List.take_length, ← ef]
              exact q H2 s2
        · refine ⟨false, rfl, ?_⟩
          refine iteT ?_
          have : ¬ ((1 : Int) ≤ xs.length) := fun z => z1 (decide_eq_true z)
          refine small (z := true) ?_
          rw [decide_eq_false (show ¬ 1 ≤ ds.length by omega)]
          rfl
/-- InvalidAnswer.__init__ -/
def spInit (C : Addr) : Sp := fun vs H Q _ => ∃ (a : Addr) (v : V), vs = [.ref a, v] ∧ H a = some (exo a C none) ∧ ∀ dx, H dx = none → dx ≠ a → Q .non (upd (upd H dx (exd dx [("value", v)])) a (exo a C (some dx)))
theorem ok_init {f C : Addr} {fd : FuncData} (F : Fun K "__init__" "InvalidAnswer.__init__" sInit f fd) (T : OexC K C) (nv : PySem.W.findIn K (.ref C) "value" = some none) : FnOk P w K mg base CX0 1 f fd ["self", "value"] (spInit C) := by
  refine F.ok scInit (fun vs H Q E h => ?_) (fun cdv A outer s H vs Q E hr h => ?_)
  · obtain ⟨a, v, rfl, _⟩ := h
    rfl
  · obtain ⟨a, v, rfl, ha, q⟩ := h
    refine ⟨_, pss_one (ps_ost (pv 0) (pv 1)), ?_⟩
    exact ⟨_, rfl, _, rfl, a, C, rfl, T, nv, .inl ⟨ha, fun dx h1 h2 => q dx h1 h2⟩⟩
/-- what answer_of does with a thing -/
def spAnswer (K : PySem.W.Frag) (C : Addr) : Sp := fun vs H Q E => ∃ (v : V) (d : PyData), vs = [v] ∧ Rp K H v d ∧
  (full d = true → ∀ H', Same H H' → Q v H') ∧
  (full d = false → item d = true → ∀ (p : Addr) (H' : Hp), Same H H' → H p = none → H' p = some (.tup [v]) → Q (.ref p) H') ∧
  (full d = false → item d = false → ∀ (dd : Addr) (H' : Hp), Same H H' → H' dd = some (.xd [("value", v)]) → E (.ref C) (some dd) H')
theorem ok_answer {f fF fI fX C : Addr} {fd fdF fdI fdX : FuncData} (F : Fun K "answer_of" "answer_of" sAnswer f fd) (bF : Binds K fdF ["value"] []) (gF : mg "is_full_answer" = some (.ref fF)) (kF : PySem.W.keepIn K (.ref fF) = true)
    (GF : FnOk P w K mg base CX0 3 fF fdF ["value"] (spFull K)) (bI : Binds K fdI ["value"] []) (gI : mg "is_answer_item" = some (.ref fI)) (kI : PySem.W.keepIn K (.ref fI) = true) (GI : FnOk P w K mg base CX0 2 fI fdI ["value"] (spItem K))
    (T : OexC K C) (gC : mg "InvalidAnswer" = some (.ref C)) (iC : PySem.W.findIn K (.ref C) "__init__" = some (some (.ref fX))) (tX : PySem.W.typeIn K (.ref fX) = some (.type "function")) (bX : Binds K fdX ["self", "value"] [])
    (GX : FnOk P w K mg base CX0 1 fX fdX ["self", "value"] (spInit C)) : FnOk P w K mg base (L2.CX P w) 4 f fd ["value"] (spAnswer K C) := by
  refine F.okX scAnswer (fun vs H Q E h => ?_) (fun cdv A outer s H vs Q E hr h => ?_)
  · obtain ⟨v, d, rfl, _⟩ := h
    rfl
  · obtain ⟨v, d, rfl, hR, q1, q2, q3⟩ := h
    refine ⟨_, pss_cons (ps_if (pt_val (pe_call GF hr rfl gF kF bF .nil pass0 (pa_cons (pv 0) pa_nil))) (pss_one (ps_ret (pv 0))) pss_nil)
      (pss_cons (ps_if (pt_val (pe_call GI (hr.mono (by decide)) rfl gI kI bI .nil pass0 (pa_cons (pv 0) pa_nil))) (pss_one (ps_ret (pe_tup (pa_cons (pv 0) pa_nil)))) pss_nil)
      (pss_one (ps_raise rfl (takes_of rfl rfl rfl rfl) (pmk_oex T iC tX GX (hr.mono (by decide)) bX .nil pass0 rfl gC (pa_cons (pv 0) pa_nil))))), ?_⟩
    refine ⟨_, rfl, v, d, rfl, hR, fun H1 s1 => ⟨_, rfl, ?_⟩⟩
    cases e1 : full d with
    | true =>
      refine iteT ?_
      exact ⟨_, rfl, q1 e1 H1 s1⟩
    | false =>
      refine iteF ?_
      refine ⟨_, rfl, v, d, rfl, rp_same s1 _ _ hR, _, rfl, ?_⟩
      cases e2 : item d with
      | true =>
        refine iteT ?_
        refine ⟨_, rfl, (by show 1 ≤ sizeLine; decide), fun p hp => ?_⟩
        exact q2 e1 e2 p _ (s1.trans (Same.new hp)) (s1.free hp) upd_same
      | false =>
        refine iteF ?_
        refine ⟨_, rfl, (by show 1 ≤ 1000; decide), fun a ha => ?_⟩
        refine ⟨a, v, rfl, upd_same, fun dx h1 h2 => ⟨rfl, dx, [("value", v)], upd_same, ?_, ?_, ?_⟩⟩
        · rw [upd_ne h2, upd_same]
        · rw [upd_ne h2] at h1
          exact h1
        · rw [upd_ne h2] at h1
          refine q3 e1 e2 dx _ (fun c o e => ?_) upd_same
          have e' := s1 c o e
          rw [upd_ne (ne_of_none e' h1), del_ne (ne_of_none e' ha), upd_ne (ne_of_none e' ha), upd_ne (ne_of_none e' h1), upd_ne (ne_of_none e' ha)]
          exact e'
end
end G
set_option Elab.async false
set_option linter.all false
set_option maxRecDepth 100000
set_option maxHeartbeats 2000000
/-! GA: what is due, what is caught. -/
namespace G
open PySem PySem.Spec PyProof.Rows L2
abbrev sDue : Stmt := topS 19
abbrev sCaught : Stmt := topS 20
theorem scDue : FnScope ["_law_thing_here", "_law_bad", "_law_part"] ["_law_thing_here"] (defScope sDue) := ⟨rfl, rfl, rfl, by decide +kernel, rfl, by decide +kernel, by decide +kernel⟩
theorem scCaught : FnScope ["_law_thing_here", "e"] ["_law_thing_here"] (defScope sCaught) := ⟨rfl, rfl, rfl, by decide +kernel, rfl, by decide +kernel, by decide +kernel⟩
/-- the list at p says what answer_of does with the thing v -/
def OutAt (H : Hp) (p : Addr) (v : V) (d : PyData) : Prop :=
  (full d = false ∧ item d = true ∧ ∃ q, H p = some (.lst [.str "told", .ref q]) ∧ H q = some (.tup [v])) ∨
  (full d = true ∧ H p = some (.lst [.str "told", v])) ∨
  (full d = false ∧ item d = false ∧ H p = some (.lst [.str "answer", v]))
theorem OutAt.keep {H H' : Hp} {p : Addr} {v : V} {d : PyData} (h : OutAt H p v d) (s : Same H H') : OutAt H' p v d := by
  rcases h with ⟨h1, h2, q, h3, h4⟩ | ⟨h1, h2⟩ | ⟨h1, h2, h3⟩
  · exact .inl ⟨h1, h2, q, s _ _ h3, s _ _ h4⟩
  · exact .inr (.inl ⟨h1, s _ _ h2⟩)
  · exact .inr (.inr ⟨h1, h2, s _ _ h3⟩)
def spOut (K : PySem.W.Frag) : Sp := fun vs H Q _ => ∃ (v : V) (d : PyData), vs = [v] ∧ Rp K H v d ∧ okT d ∧ ∀ (p : Addr) (H' : Hp), Same H H' → H p = none → OutAt H' p v d → Q (.ref p) H'
/-! ### parts -/
theorem okP_dict {d : PyData} (h : okP d) : d.hasDict = false := by
  cases d with
  | dict _ => exact h.elim
  | list ds =>
    have e : ds = [.int 1] := h
    subst e
    simp [PyData.hasDict, PyData.hasDictAll]
  | tuple ds =>
    have e : ds = [.int 1] := h
    subst e
    simp [PyData.hasDict, PyData.hasDictAll]
  | none => simp [PyData.hasDict]
  | bool _ => simp [PyData.hasDict]
  | int _ => simp [PyData.hasDict]
  | str _ => simp [PyData.hasDict]
theorem okP_can {d : PyData} (h : okP d) : d.canLay0 = true := by
  cases d with
  | dict _ => exact h.elim
  | list ds =>
    have e : ds = [.int 1] := h
    subst e
    simp [PyData.canLay0, PyData.canLayAll0]
  | tuple ds =>
    have e : ds = [.int 1] := h
    subst e
    simp [PyData.canLay0, PyData.canLayAll0]
  | none => simp [PyData.canLay0]
  | bool _ => simp [PyData.canLay0]
  | int _ => simp [PyData.canLay0]
  | str x =>
    have e : x = "1" ∨ x = "more" := h
    rcases e with rfl | rfl
    · simp only [PyData.canLay0]
      decide +kernel
    · simp only [PyData.canLay0]
      decide +kernel
theorem okP_depth {d : PyData} (h : okP d) : d.depth ≤ 1 := by
  cases d with
  | dict _ => exact h.elim
  | list ds =>
    have e : ds = [.int 1] := h
    subst e
    simp [PyData.depth, PyData.depthAll]
  | tuple ds =>
    have e : ds = [.int 1] := h
    subst e
    simp [PyData.depth, PyData.depthAll]
  | none => simp [PyData.depth]
  | bool _ => simp [PyData.depth]
  | int _ => simp [PyData.depth]
  | str _ => simp [PyData.depth]
theorem log_small {i : Int} (h : i.natAbs ≤ 10 ^ 29) : i.natAbs.log2 < 1920 := by
  by_cases h0 : i.natAbs = 0
  · rw [h0]
    decide
  · rw [Nat.log2_lt h0]
    exact Nat.lt_of_le_of_lt h (Nat.lt_of_lt_of_le (show 10 ^ 29 < 2 ^ 100 by decide) (Nat.pow_le_pow_right (by decide) (by decide)))
theorem okP_show {d : PyData} (h : okP d) : d.showable = true := by
  cases d with
  | dict _ => exact h.elim
  | list ds =>
    have e : ds = [.int 1] := h
    subst e
    simp only [PyData.showable, PyData.showableAll]
    decide
  | tuple ds =>
    have e : ds = [.int 1] := h
    subst e
    simp only [PyData.showable, PyData.showableAll]
    decide
  | none => simp [PyData.showable]
  | bool _ => simp [PyData.showable]
  | int i =>
    have := log_small h
    simp [PyData.showable, this]
  | str _ => simp [PyData.showable]
theorem okP_mass {d : PyData} (h : okP d) : mass d ≤ 1990 := by
  cases d with
  | dict _ => exact h.elim
  | list ds =>
    have e : ds = [.int 1] := h
    subst e
    simp [mass, massAll]
  | tuple ds =>
    have e : ds = [.int 1] := h
    subst e
    simp [mass, massAll]
  | none => simp [mass]
  | bool _ => simp [mass]
  | int _ => simp [mass]
  | str x =>
    have e : x = "1" ∨ x = "more" := h
    rcases e with rfl | rfl
    · simp only [mass]
      decide +kernel
    · simp only [mass]
      decide +kernel
theorem parts_dict : ∀ {ds : List PyData}, (∀ d ∈ ds, okP d) → PyData.hasDictAll ds = false
  | [], _ => by simp [PyData.hasDictAll]
  | d :: ds, h => by
    have h1 := okP_dict (h d List.mem_cons_self)
    have h2 := parts_dict fun x hx => h x (List.mem_cons_of_mem _ hx)
    simp [PyData.hasDictAll, h1, h2]
theorem parts_can : ∀ {ds : List PyData}, (∀ d ∈ ds, okP d) → PyData.canLayAll0 ds = true
  | [], _ => by simp [PyData.canLayAll0]
  | d :: ds, h => by
    have h1 := okP_can (h d List.mem_cons_self)
    have h2 := parts_can fun x hx => h x (List.mem_cons_of_mem _ hx)
    simp [PyData.canLayAll0, h1, h2]
theorem parts_depth : ∀ {ds : List PyData}, (∀ d ∈ ds, okP d) → PyData.depthAll ds ≤ 1
  | [], _ => by simp [PyData.depthAll]
  | d :: ds, h => by
    have h1 := okP_depth (h d List.mem_cons_self)
    have h2 := parts_depth fun x hx => h x (List.mem_cons_of_mem _ hx)
    simp only [PyData.depthAll]
    omega
theorem parts_show : ∀ {ds : List PyData}, (∀ d ∈ ds, okP d) → PyData.showableAll ds = true
  | [], _ => by simp [PyData.showableAll]
  | d :: ds, h => by
    have h1 := okP_show (h d List.mem_cons_self)
    have h2 := parts_show fun x hx => h x (List.mem_cons_of_mem _ hx)
    simp [PyData.showableAll, h1, h2]
theorem parts_mass : ∀ {ds : List PyData}, (∀ d ∈ ds, okP d) → massAll ds ≤ 2000 * ds.length
  | [], _ => by simp [massAll]
  | d :: ds, h => by
    have h1 := okP_mass (h d List.mem_cons_self)
    have h2 := parts_mass fun x hx => h x (List.mem_cons_of_mem _ hx)
    simp only [massAll, List.length_cons]
    omega
/-- all are parts, or some are not -/
theorem all_parts (ds : List PyData) : (ds.map fun d => inB d (-9999) 9999).all id = (ds.filter fun d => !item d).isEmpty := by
  induction ds with
  | nil => rfl
  | cons d ds ih =>
    rw [List.map_cons, List.all_cons, ih, List.filter_cons]
    show (inB d (-9999) 9999 && _) = (if (!inB d (-9999) 9999) = true then _ else _ : List PyData).isEmpty
    cases inB d (-9999) 9999 <;> rfl
theorem eqv_nil (es : List PyData) : PyData.eqv (.list es) (.list []) = es.isEmpty := by
  cases es <;> simp [PyData.eqv, PyData.eqvAll]
section
variable {P : Program} {w : World} {K : PySem.W.Frag} {mg : Str → Option Value} {base : Heap}
theorem ok_due {f fI : Addr} {fd fdI : FuncData} (F : Fun K "_law_due" "_law_due" sDue f fd) (FI : Fun K "_law_is_part" "_law_is_part" sPart fI fdI) (bI : Binds K fdI ["_law_thing_here"] []) (gI : mg "_law_is_part" = some (.ref fI))
    (mi : mg "isinstance" = none) (m1 : mg "int" = none) (m2 : mg "bool" = none) (mt : mg "tuple" = none) (ml : mg "len" = none) : FnOk P w K mg base CX0 2 f fd ["_law_thing_here"] (spOut K) := by
  have GI : FnOk P w K mg base CX0 1 fI fdI ["_law_thing_here"] (spItem K) := ok_part FI mi m1 m2
  refine F.ok scDue (fun vs H Q E h => ?_) (fun cdv A outer s H vs Q E hr h => ?_)
  · obtain ⟨v, d, rfl, _⟩ := h
    rfl
  · obtain ⟨v, d, rfl, hR, hok, q⟩ := h
    refine ⟨_, pss_cons (ps_if (pt_val (pe_call GI hr rfl gI FI.kp bI .nil pass0 (pa_cons (pv 0) pa_nil))) (pss_one (ps_ret (pe_lst (pa_cons pe_str (pa_cons (pe_tup (pa_cons (pv 0) pa_nil)) pa_nil))))) pss_nil)
      (pss_cons (ps_if (PW.pt (pw_or (pt_not (pt_val (pt_isi "tuple" (pv 0) (hm := mi) (mn := mt)))) (pw_or1 (pt_not (pt_chain op_le op_le pe_int (pe_callB call_len_seq (by rfl) ml PySem.boot_len (pa_cons (pv 0) pa_nil)) pe_int)))))
        (pss_one (ps_ret (pe_lst (pa_cons pe_str (pa_cons (pv 0) pa_nil))))) pss_nil)
      (pss_cons (ps_setLc (i := 1) (own := [("_law_part", 2)]) (g := gName 2) (by rfl) scDue.nd rfl rfl (sw_true rfl rfl rfl (by decide +kernel)) (pi_tup (pv 0))
          (blkOk_by (own := [("_law_part", 2)]) (N := ["_law_thing_here", "_law_bad", "_law_part"]) (sc := defScope sDue) (by decide +kernel)) (fun _ _ _ _ _ => pg_name (i := 2) scDue.nd rfl (.inl rfl))
          (fun _ _ _ _ _ => pts_one (pt_not (pt_val (pe_call GI hr rfl gI FI.kp bI .nil pass0 (pa_cons (pv 2) pa_nil))))) (fun _ _ _ _ _ => pv 2))
      (pss_one (ps_ret (pe_ifExp (pt_cmpR (op_eqD hr.units) (pv 1) (pe_lst pa_nil) (nomark _)) (pe_lst (pa_cons pe_str (pa_cons (pv 0) pa_nil))) (pe_lst (pa_cons pe_str (pa_cons (pv 0) pa_nil)))))))), ?_⟩
    refine ⟨_, rfl, v, d, rfl, hR, _, rfl, ?_⟩
    cases e1 : item d with
    | true =>
      refine iteT ?_
      have ef : full d = false := by cases d <;> first | rfl | cases e1
      refine ⟨_, rfl, (by show 1 ≤ sizeLine; decide), fun t ht => ?_⟩
      refine ⟨(by show 2 ≤ sizeLine; decide), fun p hp => ?_⟩
      have s1 := Same.new (o := .tup [v]) ht
      have s2 := Same.new (o := .lst [.str "told", .ref t]) hp
      exact q p _ (s1.trans s2) (s1.free hp) (.inl ⟨ef, e1, t, upd_same, s2 _ _ upd_same⟩)
    | false =>
      refine iteF ?_
      have other : full d = false → ∀ p H', Same H H' → H p = none → H' p = some (.lst [.str "answer", v]) → Q (.ref p) H' := fun ef p H' s n h => q p H' s n (.inr (.inr ⟨ef, e1, h⟩))
      refine ⟨_, rfl, _, _, _, _, _, rfl, .ty _, rp_ty hR, kit_t d, _, rfl, ?_⟩
      cases e2 : isTup d with
      | false =>
        have ef : full d = false := by cases d <;> first | rfl | cases e2
        refine iteT (iteT ?_)
        refine ⟨_, rfl, (by show 2 ≤ sizeLine; decide), fun p hp => ?_⟩
        exact other ef p _ (Same.new hp) hp upd_same
      | true =>
        refine iteF ?_
        cases hR with
        | non => cases e2
        | bl b => cases e2
        | int i => cases e2
        | str x => cases e2
        | lst a b => cases e2
        | dic a b c => cases e2
        | @tup a xs ds ha hr' =>
          have hl := rp_len hr'
          obtain ⟨hl6, hparts⟩ : ds.length ≤ 6 ∧ ∀ d ∈ ds, okP d := hok
          refine ⟨_, rfl, a, xs, rfl, .inr (.of ha), _, _, rfl, rfl, _, rfl, ?_⟩
          have small : (decide (1 ≤ ds.length) && decide (ds.length ≤ 3)) = false → full (.tuple ds) = false := fun e => by
            show ((decide (1 ≤ ds.length) && decide (ds.length ≤ 3)) && _) = false
            rw [e]
            rfl
          have out : (decide (1 ≤ ds.length) && decide (ds.length ≤ 3)) = false → ∀ p H', Same H H' → H p = none → H' p = some (.lst [.str "answer", .ref a]) → Q (.ref p) H' := fun e => other (small e)
          refine ite2 (fun z1 => ?_) (fun z1 => ?_)
          · have l1 : 1 ≤ ds.length := by
              have := of_decide_eq_true z1
              omega
            refine ⟨_, _, rfl, rfl, _, rfl, ?_⟩
            cases z2 : decide ((xs.length : Int) ≤ 3) with
            | false =>
              refine iteT ?_
              have l3 : ¬ ((xs.length : Int) ≤ 3) := of_decide_eq_false z2
              refine ⟨_, rfl, (by show 2 ≤ sizeLine; decide), fun p hp => ?_⟩
              refine out ?_ p _ (Same.new hp) hp upd_same
              rw [decide_eq_false (show ¬ ds.length ≤ 3 by omega), Bool.and_false]
            | true =>
              refine iteF ?_
              have l3 : ds.length ≤ 3 := by
                have := of_decide_eq_true z2
                omega
              have ef : full (.tuple ds) = (ds.filter fun d => !item d).isEmpty := by
                rw [← all_parts]
                show ((decide (1 ≤ ds.length) && decide (ds.length ≤ 3)) && _) = _
                rw [decide_eq_true l1, decide_eq_true l3]
                rfl
              -- bad
              refine ⟨_, rfl, a, rfl, ⟨_, .of ha⟩, fun D hD => ?_⟩
              refine lc_tup (a := a) (xs := xs) (fun i H2 => Same H H2 ∧ ∃ ys, H2 D = some (.lst ys) ∧ RpAll K H ys ((ds.take i).filter fun d => !item d)) ?_ ?_ ?_ ?_
              · exact ⟨Same.new hD, [], upd_same, .nil⟩
              · intro i H2 _ h2
                exact .of (h2.1 _ _ ha)
              · rintro i x H2 hx ⟨s2, ys, e2, r2⟩
                obtain ⟨d, hd, rd⟩ := rp_at hr' hx
                have et : (ds.take (i + 1)).filter (fun d => !item d) = (ds.take i).filter (fun d => !item d) ++ [d].filter (fun d => !item d) := by
                  rw [List.take_add_one, hd, List.filter_append]
                  rfl
                refine ⟨rfl, ?_⟩
                refine ⟨_, rfl, x, d, rfl, rp_same s2 _ _ rd, _, rfl, ?_⟩
                cases e3 : item d with
                | true =>
                  refine iteF ⟨s2, ys, e2, ?_⟩
                  rw [et, show [d].filter (fun d => !item d) = [] by rw [List.filter_cons, e3]; rfl, List.append_nil]
                  exact r2
                | false =>
                  refine iteT ?_
                  refine ⟨_, rfl, _, e2, ?_, fun c o e => ?_, ys ++ [x], upd_same, ?_⟩
                  · have h1 := rp_len r2
                    have h2 := List.length_filter_le (fun d => !item d) (ds.take i)
                    have h3 : (ds.take i).length ≤ ds.length := by
                      rw [List.length_take]
                      exact Nat.min_le_right _ _
                    exact small1000 (by omega)
                  · rw [upd_ne (ne_of_none e hD)]
                    exact s2 _ _ e
                  · rw [et, show [d].filter (fun d => !item d) = [d] by rw [List.filter_cons, e3]; rfl]
                    exact rp_app r2 rd
              · rintro H2 ⟨s2, ys, e2, r2⟩
                rw [hl, List.take_length] at r2
                have okb : ∀ d ∈ ds.filter (fun d => !item d), okP d := fun d hd => hparts d (List.mem_filter.mp hd).1
                refine ⟨_, rfl, Nat.zero_le _, fun z nz => ?_⟩
                have sz := Same.new (o := .lst []) nz
                have sh : SeqAt.shaped (.list (ds.filter fun d => !item d)) = true := by
                  unfold SeqAt.shaped
                  have h1 := parts_depth okb
                  simp only [PyData.canLay0, PyData.depth, parts_can okb, Bool.true_and]
                  exact decide_eq_true (by omega)
                refine ⟨.list _, .list [], .lst (.of (sz _ _ e2)) (rp_dpAll _ _ (parts_dict okb) (rp_sameAll (s2.trans sz) _ _ r2)), .lst (.of upd_same) .nil, sh, by decide, _, rfl, ?_⟩
                have fr : ∀ {p : Addr}, (upd H2 z (.lst [])) p = none → H p = none := fun hp => (s2.trans sz).free hp
                rw [eqv_nil, ← ef]
                cases e4 : full (.tuple ds) with
                | true =>
                  refine iteT ?_
                  refine ⟨_, rfl, (by show 2 ≤ sizeLine; decide), fun p hp => ?_⟩
                  exact q p _ ((s2.trans sz).trans (Same.new hp)) (fr hp) (.inr (.inl ⟨e4, upd_same⟩))
                | false =>
                  refine iteF ?_
                  refine ⟨_, rfl, (by show 2 ≤ sizeLine; decide), fun p hp => ?_⟩
                  exact other e4 p _ ((s2.trans sz).trans (Same.new hp)) (fr hp) upd_same
          · refine ⟨false, rfl, ?_⟩
            refine iteT ?_
            have l1 : ¬ ((1 : Int) ≤ xs.length) := fun z => z1 (decide_eq_true z)
            refine ⟨_, rfl, (by show 2 ≤ sizeLine; decide), fun p hp => ?_⟩
            refine out ?_ p _ (Same.new hp) hp upd_same
            rw [decide_eq_false (show ¬ 1 ≤ ds.length by omega)]
            rfl
end
end G
set_option Elab.async false
set_option linter.all false
set_option maxRecDepth 100000
set_option maxHeartbeats 4000000
/-! GB: what is caught; the law. -/
namespace G
open PySem PySem.Spec PyProof.Rows L2
abbrev sLaw : Stmt := topS 21
theorem scLaw : FnScope ["_law_script", "_law_k", "_law_box_here", "_law_turn", "_law_thing_here", "_law_due_here", "_law_found"] ["_law_script"] (defScope sLaw) := ⟨rfl, rfl, rfl, by decide +kernel, rfl, by decide +kernel, by decide +kernel⟩
def forBody : Stmt → List Stmt
  | .For _ _ b _ _ => b
  | _ => []
/-- the inner loop's body -/
def turnS : List Stmt := forBody ((forBody ((defBody sLaw).getD 0 (.Pass ⟨0, 0, 0, 0⟩))).getD 1 (.Pass ⟨0, 0, 0, 0⟩))
/-! ### what the two lists show -/
def outDs (d : PyData) : List PyData := if full d = true then [.str "told", d] else if item d = true then [.str "told", .tuple [d]] else [.str "answer", d]
theorem out_data {K : PySem.W.Frag} {H : Hp} {p : Addr} {v : V} {d : PyData} (h : OutAt H p v d) (hR : Rp K H v d) : ∃ xs, H p = some (.lst xs) ∧ RpAll K H xs (outDs d) := by
  unfold outDs
  rcases h with ⟨h1, h2, q, h3, h4⟩ | ⟨h1, h2⟩ | ⟨h1, h2, h3⟩
  · rw [if_neg (by rw [h1]; exact Bool.false_ne_true), if_pos h2]
    exact ⟨_, h3, .cons (.str _) (.cons (.tup h4 (.cons hR .nil)) .nil)⟩
  · rw [if_pos h1]
    exact ⟨_, h2, .cons (.str _) (.cons hR .nil)⟩
  · rw [if_neg (by rw [h1]; exact Bool.false_ne_true), if_neg (by rw [h2]; exact Bool.false_ne_true)]
    exact ⟨_, h3, .cons (.str _) (.cons hR .nil)⟩
/-- what repr asks of a thing -/
structure Shows (d : PyData) : Prop where
  show_ : d.showable = true
  ok : d.hasDict = true → okS d = true
  depth : d.depth ≤ 3
  mass_ : mass d ≤ 20000
theorem okT_shows {d : PyData} (h : okT d) : Shows d := by
  cases d with
  | none => exact ⟨by simp [PyData.showable], by simp [PyData.hasDict], by simp [PyData.depth], by simp [mass]⟩
  | bool _ => exact ⟨by simp [PyData.showable], by simp [PyData.hasDict], by simp [PyData.depth], by simp [mass]⟩
  | int i => exact ⟨by simp [PyData.showable, log_small h], by simp [PyData.hasDict], by simp [PyData.depth], by simp [mass]⟩
  | str x =>
    have e : x = "7" := h
    subst e
    refine ⟨by simp [PyData.showable], by simp [PyData.hasDict], by simp [PyData.depth], ?_⟩
    simp only [mass]
    decide +kernel
  | list ds =>
    obtain ⟨h6, hp⟩ : ds.length ≤ 6 ∧ ∀ d ∈ ds, okP d := h
    have h1 := parts_mass hp
    have h2 := parts_depth hp
    refine ⟨by simp [PyData.showable, parts_show hp], by simp [PyData.hasDict, parts_dict hp], ?_, ?_⟩
    · simp only [PyData.depth]
      omega
    · simp only [mass]
      omega
  | tuple ds =>
    obtain ⟨h6, hp⟩ : ds.length ≤ 6 ∧ ∀ d ∈ ds, okP d := h
    have h1 := parts_mass hp
    have h2 := parts_depth hp
    refine ⟨by simp [PyData.showable, parts_show hp], by simp [PyData.hasDict, parts_dict hp], ?_, ?_⟩
    · simp only [PyData.depth]
      omega
    · simp only [mass]
      omega
  | dict kvs =>
    have e : kvs = [] ∨ kvs = [(.str "a", .int 1)] ∨ kvs = [(.str "more", .int 1)] ∨ kvs = [(.str "a", .int 1), (.str "more", .int 1)] := h
    rcases e with rfl | rfl | rfl | rfl
    all_goals
      refine ⟨?_, fun _ => ?_, ?_, ?_⟩
      · simp only [PyData.showable, PyData.showableKv]
        try decide
      · simp only [okS, okSKv]
        try rfl
      · simp [PyData.depth, PyData.depthKv]
      · simp only [mass, massKv]
        decide +kernel
theorem out_shows {d : PyData} (h : Shows d) : PyData.showableAll (outDs d) = true ∧ (PyData.hasDictAll (outDs d) = true → okSAll (outDs d) = true) ∧ (PyData.list (outDs d)).depth ≤ 20 ∧ 3 + massAll (outDs d) ≤ sizeLine := by
  obtain ⟨h1, h2, h3, h4⟩ := h
  have m1 : (reprText "told").length ≤ 100 := by decide +kernel
  have m2 : (reprText "answer").length ≤ 100 := by decide +kernel
  have sl : sizeLine = 16777216 := sizeLine_eq
  unfold outDs
  split
  · refine ⟨by simp [PyData.showableAll, PyData.showable, h1], ?_, ?_, ?_⟩
    · simpa [PyData.hasDictAll, PyData.hasDict, okSAll, okS] using h2
    · simp only [PyData.depth, PyData.depthAll]
      omega
    · simp only [massAll, mass]
      omega
  · split
    · refine ⟨by simp [PyData.showableAll, PyData.showable, h1], ?_, ?_, ?_⟩
      · simpa [PyData.hasDictAll, PyData.hasDict, okSAll, okS] using h2
      · simp only [PyData.depth, PyData.depthAll]
        omega
      · simp only [massAll, mass]
        omega
    · refine ⟨by simp [PyData.showableAll, PyData.showable, h1], ?_, ?_, ?_⟩
      · simpa [PyData.hasDictAll, PyData.hasDict, okSAll, okS] using h2
      · simp only [PyData.depth, PyData.depthAll]
        omega
      · simp only [massAll, mass]
        omega
section
variable {P : Program} {w : World} {K : PySem.W.Frag} {mg : Str → Option Value} {base : Heap}
def tsOut (C : Addr) (a : Addr) (cls : Value) (d : Option Addr) : TS := tRet (tLst (tCons (tC (.str "answer")) (tCons (tXf a cls d C "value" (tVar 1)) tNil)))
theorem ok_caught {f fA C : Addr} {fd fdA : FuncData} (F : Fun K "_law_caught" "_law_caught" sCaught f fd) (gA : mg "answer_of" = some (.ref fA)) (kA : PySem.W.keepIn K (.ref fA) = true)
    (bA' : Binds K fdA ["value"] []) (GA : FnOk P w K mg base (L2.CX P w) 4 fA fdA ["value"] (spAnswer K C)) (gC : mg "InvalidAnswer" = some (.ref C)) (XT : XfC K C) (nv : PySem.W.findIn K (.ref C) "value" = some none) (eC : PySem.W.exmOne K (.ref C) (.ref C) = some true) :
    FnOk P w K mg base CX0 5 f fd ["_law_thing_here"] (spOut K) := by
  refine F.ok scCaught (fun vs H Q E h => ?_) (fun cdv A outer s H vs Q E hr h => ?_)
  · obtain ⟨v, d, rfl, _⟩ := h
    rfl
  · obtain ⟨v, d, rfl, hR, hok, q⟩ := h
    refine ⟨_, pss_one (ps_try_first (i := 1) (tb := fun W => tRet (tLst (tCons (tC (.str "told")) (tCons (tCallS (spAnswer K C) (WE W) (tCons (tVar 0) tNil)) tNil)))) (ts := tsOut C) rfl rfl scCaught.nd rfl rfl ⟨rfl, by decide, .inl gC⟩
        (fun W pn xe tk _ => pss_one (ps_ret (pe_lst (pa_cons pe_str (pa_cons (pe_callS GA hr rfl gA kA bA' (fun σ => passAt tk σ) (by exact (pa_cons (pv 0) pa_nil))) pa_nil)))))
        (fun a oe cls d pn hz hf => pss_one (ps_ret (pe_lst (pa_cons pe_str (pa_cons (pe_xf XT nv hz hf (pv 1)) pa_nil)))))), ?_⟩
    refine ⟨_, rfl, v, d, rfl, hR, fun e1 H1 s1 => ?_, fun e1 e2 t H1 s1 n1 h1 => ?_, fun e1 e2 dd H1 s1 h1 => ?_⟩
    · refine ⟨(by show 2 ≤ sizeLine; decide), fun p hp => ?_⟩
      exact q p _ (s1.trans (Same.new hp)) (s1.free hp) (.inr (.inl ⟨e1, upd_same⟩))
    · refine ⟨(by show 2 ≤ sizeLine; decide), fun p hp => ?_⟩
      have s2 := Same.new (o := .lst [.str "told", .ref t]) hp
      exact q p _ (s1.trans s2) (s1.free hp) (.inl ⟨e1, e2, t, upd_same, s2 _ _ h1⟩)
    · refine ⟨eC, fun a ha => ?_⟩
      refine ⟨_, rfl, rfl, rfl, dd, _, v, rfl, h1, ?_, (by show 2 ≤ sizeLine; decide), fun p hp => ?_⟩
      · simp [List.lookup]
      · exact q p _ (s1.trans (Same.new hp)) (s1.free hp) (.inr (.inr ⟨e1, e2, upd_same⟩))
end
end G
set_option Elab.async false
set_option linter.all false
set_option maxRecDepth 100000
set_option maxHeartbeats 4000000
/-! GC: the law. -/
namespace G
open PySem PySem.Spec PyProof.Rows L2
theorem same_but {b : Addr} {H H1 H2 : Hp} (s : Same H H1) (k : But b H1 H2) (n : H b = none) : Same H H2 := fun c o e => k c o (ne_of_none e n) (s c o e)
theorem same_upd {p : Addr} {H H1 : Hp} {o : HO} (s : Same H H1) (n : H p = none) : Same H (upd H1 p o) := fun c u e => by
  rw [upd_ne (ne_of_none e n)]
  exact s c u e
def spLaw (K : PySem.W.Frag) : Sp := fun vs H Q _ => ∃ (a : Addr) (ns : List Int), vs = [.ref a] ∧ SqL K H a (ns.map V.int) ∧ ns.length ≤ 63 ∧ ∀ H', Q (.bl true) H'
/-- where a def stands, how it binds, what it keeps -/
structure At (P : Program) (w : World) (K : PySem.W.Frag) (mg : Str → Option Value) (base : Heap) (k : Nat) (x : Str) (ps : List Str) (sp : Sp) where
  f : Addr
  fd : FuncData
  g : mg x = some (.ref f)
  kp : PySem.W.keepIn K (.ref f) = true
  b : Binds K fd ps []
  ok : FnOk P w K mg base CX0 k f fd ps sp
section
variable {P : Program} {w : World} {K : PySem.W.Frag} {mg : Str → Option Value} {base : Heap}
theorem out_keep {H H' : Hp} {p : Addr} {v : V} {d d' : PyData} (h : OutAt H p v d) (h1 : full d = false) (h2 : item d = false) (h3 : full d' = false) (h4 : item d' = false) (e : H' p = H p) : OutAt H' p v d' := by
  rcases h with ⟨_, z, _⟩ | ⟨z, _⟩ | ⟨_, _, z⟩
  · rw [h2] at z
    cases z
  · rw [h1] at z
    cases z
  · exact .inr (.inr ⟨h3, h4, e.trans z⟩)
theorem ok_law {f : Addr} {fd : FuncData} (F : Fun K "law" "law" sLaw f fd) (aC : At P w K mg base 1 "_law_cell" ["_law_script", "_law_k"] (spCell' K)) (aB : At P w K mg base 1 "_law_box" ["_law_cell_here"] spBox)
    (aT : At P w K mg base 3 "_law_thing" ["_law_box_here"] (spThing K)) (aD : At P w K mg base 2 "_law_due" ["_law_thing_here"] (spOut K)) (aX : At P w K mg base 5 "_law_caught" ["_law_thing_here"] (spOut K))
    (mr : mg "range" = none) (mx : mg "max" = none) (mn : mg "min" = none) (ml : mg "len" = none) (mi : mg "isinstance" = none) (mli : mg "list" = none) (mdi : mg "dict" = none) (mre : mg "repr" = none) :
    FnG P w K mg base CX0 6 f fd ["_law_script"] (spLaw K) := by
  refine FnG.of_body F scLaw (fun vs H Q E h => ?_) (fun cdv A outer s H vs Q E hg hr h => ?_)
  · obtain ⟨a, ns, rfl, _⟩ := h
    rfl
  · obtain ⟨a, ns, rfl, hS, hlen, q⟩ := h
    have hr1 : Room 1 _ := hr.mono (by decide)
    have hr2 : Room 2 _ := hr.mono (by decide)
    have hr3 : Room 3 _ := hr.mono (by decide)
    have hu := hu_of hr
    -- the turn's last statement
    obtain ⟨tl, pl, ql⟩ : ∃ t, PSs (cxOf CX0 P w K mg base ["_law_script", "_law_k", "_law_box_here", "_law_turn", "_law_thing_here", "_law_due_here", "_law_found"] "law" (defScope sLaw) f cdv A outer s H E).nox (turnS.drop 4) t ∧
        ∀ (D : Ends) (σ : L2.St) (H5 : Hp) (d5 : PyData) (v : V) (p1 p2 : Addr) (bv : Option V) (kv tv : Option V), Rp K H5 v d5 → okT d5 → OutAt H5 p1 v d5 → OutAt H5 p2 v d5 →
          (∀ H6, Same H5 H6 → D.nx [some (.ref a), kv, bv, tv, some v, some (.ref p1), some (.ref p2)] H6) → t D [some (.ref a), kv, bv, tv, some v, some (.ref p1), some (.ref p2)] H5 := by
      refine ⟨_, pss_one (ps_if (PW.pt (pw_or (pt_cmpR op_ne (pe_callB (call_repr hg hr.units) (by rfl) mre (by decide +kernel) (pa_cons (pv 6) pa_nil)) (pe_callB (call_repr hg hr.units) (by rfl) mre (by decide +kernel) (pa_cons (pv 5) pa_nil)) (nomark _))
        (pw_or1 (pt_cmpR op_ne (pe_callB (call_repr hg hr.units) (by rfl) mre (by decide +kernel) (pa_cons (pe_call aX.ok hr rfl aX.g aX.kp aX.b .nil pass0 (pa_cons (pv 4) pa_nil)) pa_nil))
          (pe_callB (call_repr hg hr.units) (by rfl) mre (by decide +kernel) (pa_cons (pe_call aD.ok hr2 rfl aD.g aD.kp aD.b .nil pass0 (pa_cons (pv 4) pa_nil)) pa_nil)) (nomark _)))))
        (pss_one (ps_ret pe_bl)) pss_nil), ?_⟩
      intro D σ H5 d5 v p1 p2 bv kv tv hR hok o1 o2 nx
      obtain ⟨sh1, sh2, sh3, sh4⟩ := out_shows (okT_shows hok)
      obtain ⟨x2, g2, r2⟩ := out_data o2 hR
      obtain ⟨x1, g1, r1⟩ := out_data o1 hR
      refine ⟨_, rfl, p2, x2, _, rfl, g2, r2, sh1, sh2, sh3, sh4, ?_⟩
      refine ⟨_, rfl, p1, x1, _, rfl, g1, r1, sh1, sh2, sh3, sh4, ?_⟩
      refine ⟨rfl, _, rfl, ?_⟩
      refine iteNS rfl ?_
      refine ⟨_, rfl, v, d5, rfl, hR, hok, fun p3 H6 s6 n6 o3 => ?_⟩
      obtain ⟨x3, g3, r3⟩ := out_data o3 (rp_same s6 _ _ hR)
      refine ⟨p3, x3, _, rfl, g3, r3, sh1, sh2, sh3, sh4, ?_⟩
      refine ⟨_, rfl, v, d5, rfl, rp_same s6 _ _ hR, hok, fun p4 H7 s7 n7 o4 => ?_⟩
      obtain ⟨x4, g4, r4⟩ := out_data o4 (rp_same (s6.trans s7) _ _ hR)
      refine ⟨p4, x4, _, rfl, g4, r4, sh1, sh2, sh3, sh4, ?_⟩
      refine ⟨rfl, _, rfl, ?_⟩
      refine iteNS rfl ?_
      exact nx H7 (s6.trans s7)
    refine ⟨_, pss_cons (ps_for PassesOwn.never rfl (pi_range1 rfl mr (pa_cons (pe_callB (call_max2 rfl) (by rfl) mx (by decide +kernel) (pa_cons pe_int (pa_cons (pe_callB (call_min2 rfl) (by rfl) mn (by decide +kernel) (pa_cons pe_int
          (pa_cons (pe_callB call_len_seq (by rfl) ml PySem.boot_len (pa_cons (pv 0) pa_nil)) pa_nil))) pa_nil))) pa_nil)) (pg_name (i := 1) scLaw.nd rfl (.inl rfl))
        (pss_cons (ps_set (i := 2) scLaw.nd rfl (.inl rfl) (pe_call aB.ok hr1 rfl aB.g aB.kp aB.b .nil pass0 (pa_cons (pe_call aC.ok hr1 rfl aC.g aC.kp aC.b .nil pass0 (pa_cons (pv 0) (pa_cons (pv 1) pa_nil))) pa_nil)))
        (pss_one (ps_for PassesOwn.never rfl (pi_range1 rfl mr (pa_cons pe_int pa_nil)) (pg_name (i := 3) scLaw.nd rfl (.inl rfl))
          (pss_cons (ps_set (i := 4) scLaw.nd rfl (.inl rfl) (pe_call aT.ok hr3 rfl aT.g aT.kp aT.b .nil pass0 (pa_cons (pv 2) pa_nil)))
          (pss_cons (ps_par (i := 5) (j := 6) (by rfl) scLaw.nd rfl rfl (by decide) rfl rfl (pa_cons (pe_call aD.ok hr2 rfl aD.g aD.kp aD.b .nil pass0 (pa_cons (pv 4) pa_nil)) (pa_cons (pe_call aX.ok hr rfl aX.g aX.kp aX.b .nil pass0 (pa_cons (pv 4) pa_nil)) pa_nil)) (by rfl))
          (pss_cons (ps_if (pt_val (pt_isi "list" (pv 4) (hm := mi) (mn := mli))) (pss_one (ps_expr (pe_bm PySem.F.plainAttrs_list PySem.F.slot_list_append PySem.F.type_list_append mt_append (pv 4) (pa_cons pe_str pa_nil)))) pss_nil)
          (pss_cons (ps_if (pt_val (pt_isi "dict" (pv 4) (hm := mi) (mn := mdi))) (pss_one (ps_dput hu (pv 4) pe_str pe_int rfl)) pss_nil) pl))))))))
      (pss_one (ps_ret pe_bl)), ?_⟩
    refine ⟨_, rfl, a, _, rfl, .inl hS, _, _, rfl, ?_⟩
    refine ⟨_, _, rfl, ?_⟩
    refine ⟨_, rfl, ?_, ?_, ?_⟩
    · split <;> (try split) <;> omega
    · split <;> (try split) <;> omega
    generalize hm : (if (if (((ns.map V.int).length : Nat) : Int) < 8 then (((ns.map V.int).length : Nat) : Int) else 8) > 2 then (if (((ns.map V.int).length : Nat) : Int) < 8 then (((ns.map V.int).length : Nat) : Int) else 8) else 2) = m
    have m8 : m ≤ 8 := by
      rw [← hm]
      split <;> (try split) <;> omega
    refine for_range (lo := 0) (n := m.toNat) (fun i σ H' => Same H H' ∧ ∃ x1 x2 x3 x4 x5 x6 : Option V, σ = [some (.ref a), x1, x2, x3, x4, x5, x6]) ?_ ?_ ?_
    · exact ⟨Same.refl H, none, none, none, none, none, none, rfl⟩
    · rintro i σ H1 hi ⟨s1, x1, x2, x3, x4, x5, x6, rfl⟩
      -- box = _law_box(_law_cell(script, k))
      refine ⟨_, rfl, _, rfl, a, ns, _, rfl, s1.seq hS, by omega, by omega, fun z => ?_⟩
      refine ⟨z, rfl, fun b H2 nb s2 B2 => ?_⟩
      have nbH : H b = none := s1.free nb
      have s12 := s1.trans s2
      refine ⟨12, rfl, by decide, by decide, ?_⟩
      refine for_range (lo := 0) (n := 12) (fun t σ H' => Same H H' ∧ BoxAt H' b (20 * t) ∧ ∃ x3 x4 x5 x6 : Option V, σ = [some (.ref a), some (.int (0 + i)), some (.ref b), x3, x4, x5, x6]) ?_ ?_ ?_
      · exact ⟨s12, B2, x3, x4, x5, x6, rfl⟩
      · rintro t σ H3 ht ⟨s3, B3, y3, y4, y5, y6, rfl⟩
        refine ⟨_, rfl, b, 20 * t, rfl, B3, by omega, fun v d H4 hR hok mine B4 k4 => ?_⟩
        have s4 : Same H H4 := same_but s3 k4 nbH
        refine ⟨_, rfl, v, d, rfl, hR, hok, fun p1 H5 s5 n5 o5 => ?_⟩
        have R5 := rp_same s5 _ _ hR
        refine ⟨_, rfl, v, d, rfl, R5, hok, fun p2 H6 s6 n6 o6 => ?_⟩
        have R6 := rp_same s6 _ _ R5
        have o56 := o5.keep s6
        have s46 := s5.trans s6
        have B6 : BoxAt H6 b (20 * (t + 1)) := (B4.keep fun o e => s46 _ _ e).mono (by omega)
        refine ⟨_, _, rfl, ?_⟩
        refine ⟨_, rfl, _, _, _, _, _, rfl, .ty _, rp_ty R6, kit_l d, _, rfl, ?_⟩
        cases e1 : isLst d with
        | true =>
          refine iteT ?_
          cases d with
          | list ds =>
            obtain ⟨p, xs, rfl, n3, e4, r4, l5⟩ := mine
            have e6 := s46 _ _ e4
            have np1 : p ≠ p1 := ne_of_none e4 n5
            have np2 : p ≠ p2 := ne_of_none (s5 _ _ e4) n6
            have nH : H p = none := s3.free n3
            have lx := rp_len r4
            refine ⟨_, rfl, .inl ⟨rfl, _, .of e6⟩, p, _, _, rfl, rfl, e6, small1000 (by omega), ?_⟩
            have R7 : Rp K (upd H6 p (.lst (xs ++ [.str "more"]))) (.ref p) (.list (ds ++ [.str "more"])) := by
              refine .lst upd_same (rp_app (rp_sameAll (H := hide p H4) ?_ _ _ r4) (.str _))
              have h1 := hide_mono (b := p) s46
              have h2 : hide p H6 = hide p (upd H6 p (.lst (xs ++ [.str "more"]))) := hide_upd.symm
              rw [h2] at h1
              exact h1.trans (hide_same p _)
            obtain ⟨l6, hp⟩ : ds.length ≤ 6 ∧ ∀ d ∈ ds, okP d := hok
            have ok7 : okT (.list (ds ++ [.str "more"])) := by
              refine ⟨?_, fun d hd => ?_⟩
              · rw [List.length_append]
                show ds.length + 1 ≤ 6
                omega
              · rcases List.mem_append.mp hd with h | h
                · exact hp d h
                · rw [List.mem_singleton.mp h]
                  exact .inr rfl
            have p7 := out_keep (H' := upd H6 p (.lst (xs ++ [.str "more"]))) (d' := .list (ds ++ [.str "more"])) o56 rfl rfl rfl rfl (upd_ne np1.symm)
            have q7 := out_keep (H' := upd H6 p (.lst (xs ++ [.str "more"]))) (d' := .list (ds ++ [.str "more"])) o6 rfl rfl rfl rfl (upd_ne np2.symm)
            have nbp : b ≠ p := by
              obtain ⟨_, _, _, e, _⟩ := B3
              exact ne_of_none e n3
            refine ⟨_, rfl, _, _, _, _, _, rfl, .ty _, rp_ty R7, kit_d _, _, rfl, iteF ?_⟩
            refine ql _ [] _ _ _ p1 p2 _ _ _ R7 ok7 p7 q7 fun H8 s8 => ?_
            refine ⟨(same_upd (s4.trans s46) nH).trans s8, B6.keep fun o e => s8 _ _ ((upd_ne nbp).trans e), _, _, _, _, rfl⟩
          | none => cases e1
          | bool _ => cases e1
          | int _ => cases e1
          | str _ => cases e1
          | tuple _ => cases e1
          | dict _ => cases e1
        | false =>
          refine iteF ?_
          refine ⟨_, rfl, _, _, _, _, _, rfl, .ty _, rp_ty R6, kit_d d, _, rfl, ?_⟩
          cases e2 : isDic d with
          | false =>
            refine iteF ?_
            refine ql _ [] _ _ _ p1 p2 _ _ _ R6 hok o56 o6 fun H8 s8 => ?_
            exact ⟨(s4.trans s46).trans s8, B6.keep fun o e => s8 _ _ e, _, _, _, _, rfl⟩
          | true =>
            refine iteT ?_
            cases d with
            | dict kds =>
              obtain ⟨p, kvs, rfl, n3, e4, hk⟩ := mine
              have e6 := s46 _ _ e4
              have np1 : p ≠ p1 := ne_of_none e4 n5
              have np2 : p ≠ p2 := ne_of_none (s5 _ _ e4) n6
              have nH : H p = none := s3.free n3
              have nbp : b ≠ p := by
                obtain ⟨_, _, _, e, _⟩ := B3
                exact ne_of_none e n3
              obtain ⟨kvs', kds', ek, ok7, r1, r2⟩ : ∃ (kvs' : List (Key × V)) (kds' : List (PyData × PyData)), putK kvs (Sum.inr "more" : Key) (V.int 1) = kvs' ∧ okT (.dict kds') ∧ (∀ Hz : Hp, RpAll K Hz (kvs'.map fun p => kV p.1) (kds'.map (·.1))) ∧ ∀ Hz : Hp, RpAll K Hz (kvs'.map (·.2)) (kds'.map (·.2)) := by
                rcases hk with ⟨rfl, rfl⟩ | ⟨rfl, rfl⟩
                · exact ⟨_, [(.str "more", .int 1)], rfl, .inr (.inr (.inl rfl)), fun _ => .cons (.str _) .nil, fun _ => .cons (.int 1) .nil⟩
                · refine ⟨[(Sum.inr "a", .int 1), (Sum.inr "more", .int 1)], [(.str "a", .int 1), (.str "more", .int 1)], ?_, .inr (.inr (.inr rfl)), fun _ => .cons (.str _) (.cons (.str _) .nil), fun _ => .cons (.int 1) (.cons (.int 1) .nil)⟩
                  decide +kernel
              have lk : kvs.length ≤ 1 := by
                rcases hk with ⟨rfl, _⟩ | ⟨rfl, _⟩ <;> decide
              refine ⟨_, rfl, p, _, rfl, DPut.k (k := Sum.inr "more") e6 (small1000 (by omega)), ?_⟩
              rw [ek]
              have R7 : Rp K (upd H6 p (.dK kvs')) (.ref p) (.dict kds') := .dic upd_same (r1 _) (r2 _)
              have p7 := out_keep (H' := upd H6 p (.dK kvs')) (d' := .dict kds') o56 rfl rfl rfl rfl (upd_ne np1.symm)
              have q7 := out_keep (H' := upd H6 p (.dK kvs')) (d' := .dict kds') o6 rfl rfl rfl rfl (upd_ne np2.symm)
              refine ql _ [] _ _ _ p1 p2 _ _ _ R7 ok7 p7 q7 fun H8 s8 => ?_
              exact ⟨(same_upd (s4.trans s46) nH).trans s8, B6.keep fun o e => s8 _ _ ((upd_ne nbp).trans e), _, _, _, _, rfl⟩
            | none => cases e2
            | bool _ => cases e2
            | int _ => cases e2
            | str _ => cases e2
            | tuple _ => cases e2
            | list _ => cases e2
      · rintro σ H3 ⟨s3, _, y3, y4, y5, y6, rfl⟩
        exact ⟨s3, _, _, _, _, _, _, rfl⟩
    · rintro σ H1 ⟨s1, x1, x2, x3, x4, x5, x6, rfl⟩
      exact q H1
end
end G
set_option Elab.async false
set_option linter.all false
set_option maxRecDepth 100000
set_option maxHeartbeats 4000000
/-! GD: what the top has written, and the end. -/
namespace G
open PySem PySem.Spec PyProof.Rows L2
theorem err_self {K : PySem.W.Frag} {S : Addr} (h1 : PySem.W.subIn K (.ref S) (.type "BaseException") = some true) (h2 : PySem.W.isClsIn K S = true)
    (h3 : PySem.W.typeIn K (.ref S) = some (.type "type")) (h4 : PySem.W.subIn K (.ref S) (.ref S) = some true) : PySem.W.exmOne K (.ref S) (.ref S) = some true := by
  have a1 : (PySem.W.subIn K (.ref S) (.type "BaseException") == some true) = true := by
    rw [h1]
    rfl
  have a2 : ((PySem.W.clsIn K S).isSome && PySem.W.typeIn K (.ref S) == some (.type "type")) = true := by
    rw [show (PySem.W.clsIn K S).isSome = true from h2, h3]
    rfl
  show (if (PySem.W.subIn K (.ref S) (.type "BaseException") == some true) = true
    then (if ((PySem.W.clsIn K S).isSome && PySem.W.typeIn K (.ref S) == some (.type "type")) = true then PySem.W.subIn K (.ref S) (.ref S) else none) else none) = some true
  rw [if_pos a1, if_pos a2]
  exact h4
theorem all_mk {l : PySem.W.OpenLaw} {w : World} {K : PySem.W.Frag} {h : Heap} {mg : Str → Option Value} {fa C CB fX : Addr} {tM tG : Tok} (X : K.In h) (G : h.Ns mainGlobals mg) (hfa : mg "law" = some (.ref fa))
    {f0 f1 f2 f3 f4 f5 f6 f7 f8 f9 f10 f11 f12 : Addr}
    {od0 an0 od1 an1 od2 an2 od3 an3 od4 an4 od5 an5 od6 an6 od7 an7 od8 an8 od9 an9 od10 an10 od11 an11 od12 an12 od99 an99 : Option Addr} {sl0 sl1 sl2 sl3 sl4 sl5 sl6 sl7 sl8 sl9 sl10 sl11 sl12 sl99 : Array (Option Value)} {oc0 kV0 dc0 pm0 cd0 ct0 oc1 kV1 dc1 pm1 cd1 ct1 oc2 kV2 dc2 pm2 cd2 ct2 oc3 kV3 dc3 pm3 cd3 ct3 oc4 kV4 dc4 pm4 cd4 ct4 oc5 kV5 dc5 pm5 cd5 ct5 oc6 kV6 dc6 pm6 cd6 ct6 oc7 kV7 dc7 pm7 cd7 ct7 oc8 kV8 dc8 pm8 cd8 ct8 oc9 kV9 dc9 pm9 cd9 ct9 oc10 kV10 dc10 pm10 cd10 ct10 oc11 kV11 dc11 pm11 cd11 ct11 oc12 kV12 dc12 pm12 cd12 ct12 oc99 kV99 dc99 pm99 cd99 ct99 : Value}
    {nm q : Str} {N : Addr} {bs : List Value} {sn : List Str} {sub : List Value} {ab : Bool} {col : Option Bool} {dd : Option Addr} {m0 m1 m2 m3 m5 : Option Value}
    (aC : PySem.W.nsIn K mainGlobals "InvalidAnswer" = some (some (.ref C))) (aM : PySem.W.nsIn K mainGlobals "MOST_IN_ANSWER" = some (some (.int 3 tM))) (aG : PySem.W.nsIn K mainGlobals "GREATEST_IN_ANSWER" = some (some (.int 9999 tG)))
    (xL : K.lookup C = some (excClassObj nm q C N bs [.ref CB, .type "ValueError", .type "Exception", .type "BaseException", .type "object"] true sn sub ab col dd m0 m1 m2 m3 m5 "ValueError.__new__"))
    (sa : PySem.W.findIn K (.ref C) "__setattr__" = some (some (.builtin "object.__setattr__"))) (ga : PySem.W.findIn K (.ref C) "__getattribute__" = some (some (.builtin "BaseException.__getattribute__"))) (gg : PySem.W.findIn K (.ref C) "__getattr__" = some none)
    (nb : PySem.W.findIn K (.ref C) "value" = some none) (aI : PySem.W.findIn K (.ref C) "__init__" = some (some (.ref fX))) (tI : PySem.W.typeIn K (.ref fX) = some (.type "function"))
    (lI : K.lookup fX = some ⟨oc99, od99, .func (PySem.W.fnOf "__init__" "InvalidAnswer.__init__" (defArgs sInit) (defBody sInit) (defScope sInit) .none kV99 dc99 pm99 an99 cd99 ct99), sl99⟩) (cI : PySem.W.codeIn K cd99 "InvalidAnswer.__init__" = true) (kI : PySem.W.keepIn K (.ref fX) = true)
    (kC : PySem.W.keepIn K (.ref C) = true) (eC : PySem.W.subIn K (.ref C) (.type "BaseException") = some true) (tC : PySem.W.typeIn K (.ref C) = some (.type "type")) (hC : PySem.W.hasDictIn K C = true) (iC : PySem.W.isClsIn K C = true) (sC : PySem.W.subIn K (.ref C) (.ref C) = some true)
    (a0 : PySem.W.nsIn K mainGlobals "is_integer" = some (some (.ref f0))) (l0 : K.lookup f0 = some ⟨oc0, od0, .func (PySem.W.fnOf "is_integer" "is_integer" (defArgs sIsInt) (defBody sIsInt) (defScope sIsInt) .none kV0 dc0 pm0 an0 cd0 ct0), sl0⟩) (c0 : PySem.W.codeIn K cd0 "is_integer" = true) (k0 : PySem.W.keepIn K (.ref f0) = true)
    (a1 : PySem.W.nsIn K mainGlobals "answer_of" = some (some (.ref f1))) (l1 : K.lookup f1 = some ⟨oc1, od1, .func (PySem.W.fnOf "answer_of" "answer_of" (defArgs sAnswer) (defBody sAnswer) (defScope sAnswer) .none kV1 dc1 pm1 an1 cd1 ct1), sl1⟩) (c1 : PySem.W.codeIn K cd1 "answer_of" = true) (k1 : PySem.W.keepIn K (.ref f1) = true)
    (a2 : PySem.W.nsIn K mainGlobals "is_full_answer" = some (some (.ref f2))) (l2 : K.lookup f2 = some ⟨oc2, od2, .func (PySem.W.fnOf "is_full_answer" "is_full_answer" (defArgs sFull) (defBody sFull) (defScope sFull) .none kV2 dc2 pm2 an2 cd2 ct2), sl2⟩) (c2 : PySem.W.codeIn K cd2 "is_full_answer" = true) (k2 : PySem.W.keepIn K (.ref f2) = true)
    (a3 : PySem.W.nsIn K mainGlobals "is_answer_item" = some (some (.ref f3))) (l3 : K.lookup f3 = some ⟨oc3, od3, .func (PySem.W.fnOf "is_answer_item" "is_answer_item" (defArgs sItem) (defBody sItem) (defScope sItem) .none kV3 dc3 pm3 an3 cd3 ct3), sl3⟩) (c3 : PySem.W.codeIn K cd3 "is_answer_item" = true) (k3 : PySem.W.keepIn K (.ref f3) = true)
    (a4 : PySem.W.nsIn K mainGlobals "_law_cell" = some (some (.ref f4))) (l4 : K.lookup f4 = some ⟨oc4, od4, .func (PySem.W.fnOf "_law_cell" "_law_cell" (defArgs sCell) (defBody sCell) (defScope sCell) .none kV4 dc4 pm4 an4 cd4 ct4), sl4⟩) (c4 : PySem.W.codeIn K cd4 "_law_cell" = true) (k4 : PySem.W.keepIn K (.ref f4) = true)
    (a5 : PySem.W.nsIn K mainGlobals "_law_box" = some (some (.ref f5))) (l5 : K.lookup f5 = some ⟨oc5, od5, .func (PySem.W.fnOf "_law_box" "_law_box" (defArgs sBox) (defBody sBox) (defScope sBox) .none kV5 dc5 pm5 an5 cd5 ct5), sl5⟩) (c5 : PySem.W.codeIn K cd5 "_law_box" = true) (k5 : PySem.W.keepIn K (.ref f5) = true)
    (a6 : PySem.W.nsIn K mainGlobals "_law_take" = some (some (.ref f6))) (l6 : K.lookup f6 = some ⟨oc6, od6, .func (PySem.W.fnOf "_law_take" "_law_take" (defArgs sTake) (defBody sTake) (defScope sTake) .none kV6 dc6 pm6 an6 cd6 ct6), sl6⟩) (c6 : PySem.W.codeIn K cd6 "_law_take" = true) (k6 : PySem.W.keepIn K (.ref f6) = true)
    (a7 : PySem.W.nsIn K mainGlobals "_law_number" = some (some (.ref f7))) (l7 : K.lookup f7 = some ⟨oc7, od7, .func (PySem.W.fnOf "_law_number" "_law_number" (defArgs sNumber) (defBody sNumber) (defScope sNumber) .none kV7 dc7 pm7 an7 cd7 ct7), sl7⟩) (c7 : PySem.W.codeIn K cd7 "_law_number" = true) (k7 : PySem.W.keepIn K (.ref f7) = true)
    (a8 : PySem.W.nsIn K mainGlobals "_law_thing" = some (some (.ref f8))) (l8 : K.lookup f8 = some ⟨oc8, od8, .func (PySem.W.fnOf "_law_thing" "_law_thing" (defArgs sThing) (defBody sThing) (defScope sThing) .none kV8 dc8 pm8 an8 cd8 ct8), sl8⟩) (c8 : PySem.W.codeIn K cd8 "_law_thing" = true) (k8 : PySem.W.keepIn K (.ref f8) = true)
    (a9 : PySem.W.nsIn K mainGlobals "_law_is_part" = some (some (.ref f9))) (l9 : K.lookup f9 = some ⟨oc9, od9, .func (PySem.W.fnOf "_law_is_part" "_law_is_part" (defArgs sPart) (defBody sPart) (defScope sPart) .none kV9 dc9 pm9 an9 cd9 ct9), sl9⟩) (c9 : PySem.W.codeIn K cd9 "_law_is_part" = true) (k9 : PySem.W.keepIn K (.ref f9) = true)
    (a10 : PySem.W.nsIn K mainGlobals "_law_due" = some (some (.ref f10))) (l10 : K.lookup f10 = some ⟨oc10, od10, .func (PySem.W.fnOf "_law_due" "_law_due" (defArgs sDue) (defBody sDue) (defScope sDue) .none kV10 dc10 pm10 an10 cd10 ct10), sl10⟩) (c10 : PySem.W.codeIn K cd10 "_law_due" = true) (k10 : PySem.W.keepIn K (.ref f10) = true)
    (a11 : PySem.W.nsIn K mainGlobals "_law_caught" = some (some (.ref f11))) (l11 : K.lookup f11 = some ⟨oc11, od11, .func (PySem.W.fnOf "_law_caught" "_law_caught" (defArgs sCaught) (defBody sCaught) (defScope sCaught) .none kV11 dc11 pm11 an11 cd11 ct11), sl11⟩) (c11 : PySem.W.codeIn K cd11 "_law_caught" = true) (k11 : PySem.W.keepIn K (.ref f11) = true)
    (a12 : PySem.W.nsIn K mainGlobals "law" = some (some (.ref f12))) (l12 : K.lookup f12 = some ⟨oc12, od12, .func (PySem.W.fnOf "law" "law" (defArgs sLaw) (defBody sLaw) (defScope sLaw) .none kV12 dc12 pm12 an12 cd12 ct12), sl12⟩) (c12 : PySem.W.codeIn K cd12 "law" = true) (k12 : PySem.W.keepIn K (.ref f12) = true)
    (z0 : PySem.W.nsIn K mainGlobals "isinstance" = some none) (z1 : PySem.W.nsIn K mainGlobals "int" = some none) (z2 : PySem.W.nsIn K mainGlobals "bool" = some none) (z3 : PySem.W.nsIn K mainGlobals "tuple" = some none) (z4 : PySem.W.nsIn K mainGlobals "len" = some none) (z5 : PySem.W.nsIn K mainGlobals "all" = some none) (z6 : PySem.W.nsIn K mainGlobals "max" = some none) (z7 : PySem.W.nsIn K mainGlobals "range" = some none) (z8 : PySem.W.nsIn K mainGlobals "list" = some none) (z9 : PySem.W.nsIn K mainGlobals "dict" = some none) (z10 : PySem.W.nsIn K mainGlobals "repr" = some none) (z11 : PySem.W.nsIn K mainGlobals "min" = some none) :
    ∃ fd : FuncData, (∀ (s : Shared) (u : Value), BindsTo s fd ⟨[u], []⟩ [("_law_script", u)]) ∧ ∀ base : Heap, K.In base → base.Ns mainGlobals mg → FnG l.prog w K mg base CX0 6 fa fd ["_law_script"] (spLaw K) := by
  have e := hfa.symm.trans (PySem.W.mg_of X G a12)
  cases e
  have F0 := fun_mk (st := sIsInt) l0 c0 k0
  have b0 := F0.binds (ps := ["value", "low", "high"]) fun _ _ _ _ _ _ us hl => match us, hl with | [_, _, _], _ => rfl
  have g0 := PySem.W.mg_of X G a0
  have F1 := fun_mk (st := sAnswer) l1 c1 k1
  have b1 := F1.binds (ps := ["value"]) fun _ _ _ _ _ _ us hl => match us, hl with | [_], _ => rfl
  have g1 := PySem.W.mg_of X G a1
  have F2 := fun_mk (st := sFull) l2 c2 k2
  have b2 := F2.binds (ps := ["value"]) fun _ _ _ _ _ _ us hl => match us, hl with | [_], _ => rfl
  have g2 := PySem.W.mg_of X G a2
  have F3 := fun_mk (st := sItem) l3 c3 k3
  have b3 := F3.binds (ps := ["value"]) fun _ _ _ _ _ _ us hl => match us, hl with | [_], _ => rfl
  have g3 := PySem.W.mg_of X G a3
  have F4 := fun_mk (st := sCell) l4 c4 k4
  have b4 := F4.binds (ps := ["_law_script", "_law_k"]) fun _ _ _ _ _ _ us hl => match us, hl with | [_, _], _ => rfl
  have g4 := PySem.W.mg_of X G a4
  have F5 := fun_mk (st := sBox) l5 c5 k5
  have b5 := F5.binds (ps := ["_law_cell_here"]) fun _ _ _ _ _ _ us hl => match us, hl with | [_], _ => rfl
  have g5 := PySem.W.mg_of X G a5
  have F6 := fun_mk (st := sTake) l6 c6 k6
  have b6 := F6.binds (ps := ["_law_box_here", "_law_many"]) fun _ _ _ _ _ _ us hl => match us, hl with | [_, _], _ => rfl
  have g6 := PySem.W.mg_of X G a6
  have F7 := fun_mk (st := sNumber) l7 c7 k7
  have b7 := F7.binds (ps := ["_law_box_here"]) fun _ _ _ _ _ _ us hl => match us, hl with | [_], _ => rfl
  have g7 := PySem.W.mg_of X G a7
  have F8 := fun_mk (st := sThing) l8 c8 k8
  have b8 := F8.binds (ps := ["_law_box_here"]) fun _ _ _ _ _ _ us hl => match us, hl with | [_], _ => rfl
  have g8 := PySem.W.mg_of X G a8
  have F9 := fun_mk (st := sPart) l9 c9 k9
  have b9 := F9.binds (ps := ["_law_thing_here"]) fun _ _ _ _ _ _ us hl => match us, hl with | [_], _ => rfl
  have g9 := PySem.W.mg_of X G a9
  have F10 := fun_mk (st := sDue) l10 c10 k10
  have b10 := F10.binds (ps := ["_law_thing_here"]) fun _ _ _ _ _ _ us hl => match us, hl with | [_], _ => rfl
  have g10 := PySem.W.mg_of X G a10
  have F11 := fun_mk (st := sCaught) l11 c11 k11
  have b11 := F11.binds (ps := ["_law_thing_here"]) fun _ _ _ _ _ _ us hl => match us, hl with | [_], _ => rfl
  have g11 := PySem.W.mg_of X G a11
  have F12 := fun_mk (st := sLaw) l12 c12 k12
  have FX := fun_mk (st := sInit) lI cI kI
  have bX := FX.binds (ps := ["self", "value"]) fun _ _ _ _ _ _ us hl => match us, hl with | [_, _], _ => rfl
  have n0 := PySem.W.mg_none_of X G z0
  have n1 := PySem.W.mg_none_of X G z1
  have n2 := PySem.W.mg_none_of X G z2
  have n3 := PySem.W.mg_none_of X G z3
  have n4 := PySem.W.mg_none_of X G z4
  have n5 := PySem.W.mg_none_of X G z5
  have n6 := PySem.W.mg_none_of X G z6
  have n7 := PySem.W.mg_none_of X G z7
  have n8 := PySem.W.mg_none_of X G z8
  have n9 := PySem.W.mg_none_of X G z9
  have n10 := PySem.W.mg_none_of X G z10
  have n11 := PySem.W.mg_none_of X G z11
  have T : OexC K C := ⟨⟨nm, q, N, bs, _, sn, sub, ab, col, dd, m0, m1, m2, m3, m5, xL, (by decide +kernel : PySem.HandSPX.refsVE [.type "ValueError", .type "Exception", .type "BaseException", .type "object"] = true)⟩, sa, eC, tC, kC⟩
  have XT : XfC K C := ⟨ga, gg, eC, hC⟩
  refine ⟨PySem.W.fnOf "law" "law" (defArgs sLaw) (defBody sLaw) (defScope sLaw) .none kV12 dc12 pm12 an12 cd12 ct12, fun s u => .of_eq rfl, fun base _ _ => ?_⟩
  have Gi : FnOk l.prog w K mg base CX0 2 f3 _ ["value"] (spItem K) := ok_item F3 F0 b0 g0 (PySem.W.mg_of X G aG) n0 n1 n2
  have Gf : FnOk l.prog w K mg base CX0 3 f2 _ ["value"] (spFull K) := ok_full F2 b3 g3 k3 Gi (PySem.W.mg_of X G aM) n0 n3 n4 n5
  have Gx : FnOk l.prog w K mg base CX0 1 fX _ ["self", "value"] (spInit C) := ok_init FX T nb
  have Ga : FnOk l.prog w K mg base (L2.CX l.prog w) 4 f1 _ ["value"] (spAnswer K C) := ok_answer F1 b2 g2 k2 Gf b3 g3 k3 Gi T (PySem.W.mg_of X G aC) aI tI bX Gx
  have Gc : FnOk l.prog w K mg base CX0 5 f11 _ ["_law_thing_here"] (spOut K) := ok_caught F11 g1 k1 b1 Ga (PySem.W.mg_of X G aC) XT nb (err_self eC iC tC sC)
  exact ok_law F12 ⟨f4, _, g4, k4, b4, ok_cell F4 n4⟩ ⟨f5, _, g5, k5, b5, ok_box F5 n6⟩ ⟨f8, _, g8, k8, b8, ok_thing F8 F6 b6 g6 F7 b7 g7 n7 n4 n3 n8⟩ ⟨f10, _, g10, k10, b10, ok_due F10 F9 b9 g9 n0 n1 n2 n3 n4⟩ ⟨f11, _, g11, k11, b11, Gc⟩
    n7 n6 n11 n4 n0 n8 n9 n10
end G
open PySem PySem.W PyProof.Rows
set_option maxRecDepth 100000 in
set_option maxHeartbeats 0 in
theorem PySem.Challenge.cw_listviews_k02_answers_made_whole_holds : PySem.Challenge.rw_listviews_k02_answers_made_whole.Holds := by
  w_on; o_law; k_head; (case hw => w_witness2)
  k_fill
  refine G.walk_go (l := PySem.Challenge.rw_listviews_k02_answers_made_whole) (n := 63) (k := 6) (x := "_law_script") (sp := G.spLaw) rfl (by decide) rfl ⟨rfl, by decide, by decide⟩ (fun w h Y => PySem.W.kIn_of Y) ?F (fun K H a ns hl _ hS => ⟨a, ns, rfl, hS, hl, fun _ => rfl⟩)
  case F =>
    intro w mg fa h KX GX hmg
    refine' G.all_mk KX GX hmg ?aC ?aM ?aG ?xL ?sa ?ga ?gg ?nb ?aI ?tI ?lI ?cI ?kI ?kC ?eC ?tC ?hC ?iC ?sC ?a0 ?l0 ?c0 ?k0 ?a1 ?l1 ?c1 ?k1 ?a2 ?l2 ?c2 ?k2 ?a3 ?l3 ?c3 ?k3 ?a4 ?l4 ?c4 ?k4 ?a5 ?l5 ?c5 ?k5 ?a6 ?l6 ?c6 ?k6 ?a7 ?l7 ?c7 ?k7 ?a8 ?l8 ?c8 ?k8 ?a9 ?l9 ?c9 ?k9 ?a10 ?l10 ?c10 ?k10 ?a11 ?l11 ?c11 ?k11 ?a12 ?l12 ?c12 ?k12 ?z0 ?z1 ?z2 ?z3 ?z4 ?z5 ?z6 ?z7 ?z8 ?z9 ?z10 ?z11
    (case aC => k_is); (case aM => k_is); (case aG => k_is); (case xL => k_is); (case sa => k_is); (case ga => k_is); (case gg => k_is); (case nb => k_is)
    (case aI => k_is); (case tI => k_is); (case lI => k_is); (case cI => k_is); (case kI => k_is); (case kC => k_is); (case eC => k_is); (case tC => k_is)
    (case hC => k_is); (case iC => k_is); (case sC => first | rfl | k_is); (case a0 => k_is); (case l0 => k_is); (case c0 => k_is); (case k0 => k_is); (case a1 => k_is)
    (case l1 => k_is); (case c1 => k_is); (case k1 => k_is); (case a2 => k_is); (case l2 => k_is); (case c2 => k_is); (case k2 => k_is); (case a3 => k_is)
    (case l3 => k_is); (case c3 => k_is); (case k3 => k_is); (case a4 => k_is); (case l4 => k_is); (case c4 => k_is); (case k4 => k_is); (case a5 => k_is)
    (case l5 => k_is); (case c5 => k_is); (case k5 => k_is); (case a6 => k_is); (case l6 => k_is); (case c6 => k_is); (case k6 => k_is); (case a7 => k_is)
    (case l7 => k_is); (case c7 => k_is); (case k7 => k_is); (case a8 => k_is); (case l8 => k_is); (case c8 => k_is); (case k8 => k_is); (case a9 => k_is)
    (case l9 => k_is); (case c9 => k_is); (case k9 => k_is); (case a10 => k_is); (case l10 => k_is); (case c10 => k_is); (case k10 => k_is); (case a11 => k_is)
    (case l11 => k_is); (case c11 => k_is); (case k11 => k_is); (case a12 => k_is); (case l12 => k_is); (case c12 => k_is); (case k12 => k_is); (case z0 => k_is)
    (case z1 => k_is); (case z2 => k_is); (case z3 => k_is); (case z4 => k_is); (case z5 => k_is); (case z6 => k_is); (case z7 => k_is); (case z8 => k_is)
    (case z9 => k_is); (case z10 => k_is); (case z11 => k_is)
