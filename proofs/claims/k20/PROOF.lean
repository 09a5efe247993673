import PyProof.Rows.All
import Wide.All
import OpenK.AllK
import Wide.FinOn
import HandS.ForMost
import HandS.ForExc
import HandS.ExcInit
import HandS.ExcField
import HandS.TryMany
import HandS.IsInst
import HandS.Wide
import HandS.Small
import HandS.RaiseMore
import PyProof.ReprRoads
import KE.KSuper
import HandS.ClsMeth
import HandS.Nested
import HandS.More
import HandS.StrMore
import HandS.Walk
import PyProof.InstNe
import HandS.SlotsOwn
import HandS.Words
import HandS.NamedTupSort
import KE.KCallOwn
import HandS.Defaults
import HandS.MakeKwOnly
import HandS.FStr
import HandS.Property
import PyProof.CallFns
import HandS.DictComp
import HandS.Finally
import HandS.Star
import HandS.Head0
import HandS.Head1
import HandS.Head2
import HandS.HeadHook1
import HandS.HeadHook2
import PySem.Challenge.RW_listviews_k20_plus_called
set_option Elab.async false
set_option linter.all false
set_option maxRecDepth 100000
set_option maxHeartbeats 2000000
/-! G1: what a def keeps where no guard is under way; repr of data at any depth, dicts too. -/
namespace G
open PySem PySem.Spec PyProof.Rows L2

/-! ### how long a shown text is -/
mutual
def mass : PyData → Nat
  | .none => 4
  | .bool _ => 5
  | .int _ => 1921
  | .str x => (reprText x).length
  | .list xs => 3 + massAll xs
  | .tuple xs => 4 + massAll xs
  | .dict kvs => 3 + massKv kvs
def massAll : List PyData → Nat
  | [] => 0
  | x :: xs => mass x + 2 + massAll xs
def massKv : List (PyData × PyData) → Nat
  | [] => 0
  | (k, v) :: r => mass k + mass v + 4 + massKv r
end
theorem text_from_le : ∀ (ts : List Str) (k : Nat) (acc : Str), (textFrom k acc ts).length ≤ acc.length + piled ts
  | [], k, acc => by
    show acc.length ≤ acc.length + 0
    omega
  | t :: r, k, acc => by
    have h1 := text_from_le r (k + 1) (acc ++ (if k > 0 then ", " else "" : String) ++ t)
    rw [strLen_append, strLen_append] at h1
    have h2 : (((if k > 0 then ", " else "" : String) : Str)).length ≤ 2 := by
      split <;> decide
    show (textFrom (k + 1) _ r).length ≤ _
    rw [piled_cons]
    omega
theorem list_text_le (ts : List Str) : (listText ts).length ≤ 3 + piled ts := by
  unfold listText
  rw [strLen_append]
  have h1 := text_from_le ts 0 "["
  have e1 : ((("[" : String) : Str)).length = 1 := rfl
  have e2 : ((("]" : String) : Str)).length = 1 := rfl
  rw [e1] at h1
  rw [e2]
  omega
theorem join_le (ts : List Str) : (Str.join ", " ts).length ≤ piled ts := by
  by_cases h : ts = []
  · subst h
    exact Nat.le_refl 0
  · have := join_length_add ts h
    omega
theorem tuple_text_le (ts : List Str) : (tupleText ts).length ≤ 4 + piled ts := by
  unfold tupleText
  rw [strLen_append, strLen_append]
  have h1 := join_le ts
  have e1 : ((("(" : String) : Str)).length = 1 := rfl
  have e3 : (((if ts.length == 1 then ",)" else ")" : String) : Str)).length ≤ 2 := by split <;> decide
  rw [e1]
  omega
theorem dict_text_le (ts : List Str) : (dictText ts).length ≤ 3 + piled ts := by
  unfold dictText
  rw [strLen_append, strLen_append]
  have h1 := join_le ts
  have e1 : ((("{" : String) : Str)).length = 1 := rfl
  have e3 : ((("}" : String) : Str)).length = 1 := rfl
  rw [e1, e3]
  omega
mutual
theorem shown_le : ∀ d : PyData, d.showable = true → d.shown.length ≤ mass d
  | .none, _ => by decide
  | .bool b, _ => by cases b <;> decide
  | .int i, h => by
    have h' : i.natAbs.log2 < 1920 := by simpa [PyData.showable] using h
    have h2 := int_text_length_le (by decide) h'
    show (Str.ofString (toString i)).length ≤ 1921
    rw [PySem.ofString_length]
    exact h2
  | .str x, _ => by
    simp only [PyData.shown, mass]
    exact Nat.le_refl _
  | .list xs, h => by
    have h' : PyData.showableAll xs = true := by simpa [PyData.showable] using h
    have h1 := list_text_le (PyData.shownAll xs)
    have h2 := shown_all_le xs h'
    simp only [PyData.shown, mass]
    omega
  | .tuple xs, h => by
    have h' : PyData.showableAll xs = true := by simpa [PyData.showable] using h
    have h1 := tuple_text_le (PyData.shownAll xs)
    have h2 := shown_all_le xs h'
    simp only [PyData.shown, mass]
    omega
  | .dict kvs, h => by
    have h' : PyData.showableKv kvs = true := by simpa [PyData.showable] using h
    have h1 := dict_text_le (PyData.shownKv kvs)
    have h2 := shown_kv_le kvs h'
    simp only [PyData.shown, mass]
    omega
theorem shown_all_le : ∀ xs : List PyData, PyData.showableAll xs = true → piled (PyData.shownAll xs) ≤ massAll xs
  | [], _ => by
    simp only [PyData.shownAll, massAll, piled_nil]
    exact Nat.le_refl _
  | x :: xs, h => by
    simp only [PyData.showableAll, Bool.and_eq_true] at h
    have h1 := shown_le x h.1
    have h2 := shown_all_le xs h.2
    simp only [PyData.shownAll, massAll, piled_cons]
    omega
theorem shown_kv_le : ∀ xs : List (PyData × PyData), PyData.showableKv xs = true → piled (PyData.shownKv xs) ≤ massKv xs
  | [], _ => by
    simp only [PyData.shownKv, massKv, piled_nil]
    exact Nat.le_refl _
  | (k, v) :: xs, h => by
    simp only [PyData.showableKv, Bool.and_eq_true] at h
    have h1 := shown_le k h.1.1
    have h2 := shown_le v h.1.2
    have h3 := shown_kv_le xs h.2
    have e : (((": " : String) : Str)).length = 2 := rfl
    simp only [PyData.shownKv, massKv, piled_cons, strLen_append, e]
    omega
end

/-! ### data that stands in the heap: lists, tuples, dicts by int and text keys -/
mutual
inductive Rp (K : PySem.W.Frag) (H : Hp) : V → PyData → Prop
  | non : Rp K H .non .none
  | bl (b : Bool) : Rp K H (.bl b) (.bool b)
  | int (i : Int) : Rp K H (.int i) (.int i)
  | str (x : Str) : Rp K H (.str x) (.str x)
  | lst {a : Addr} {xs : List V} {ds : List PyData} : H a = some (.lst xs) → RpAll K H xs ds → Rp K H (.ref a) (.list ds)
  | tup {a : Addr} {xs : List V} {ds : List PyData} : H a = some (.tup xs) → RpAll K H xs ds → Rp K H (.ref a) (.tuple ds)
  | dic {a : Addr} {kvs : List (Key × V)} {ds : List (PyData × PyData)} : H a = some (.dK kvs) → RpAll K H (kvs.map fun p => kV p.1) (ds.map (·.1)) → RpAll K H (kvs.map (·.2)) (ds.map (·.2)) → Rp K H (.ref a) (.dict ds)
inductive RpAll (K : PySem.W.Frag) (H : Hp) : List V → List PyData → Prop
  | nil : RpAll K H [] []
  | cons {v : V} {vs : List V} {d : PyData} {ds : List PyData} : Rp K H v d → RpAll K H vs ds → RpAll K H (v :: vs) (d :: ds)
end

/-! ### .. and how it is read -/
mutual
/-- no list in it: each address that a reading of it counts is a dict's -/
def okS : PyData → Bool
  | .none | .bool _ | .int _ | .str _ => true
  | .list _ => false
  | .tuple xs => okSAll xs
  | .dict kvs => okSKv kvs
def okSAll : List PyData → Bool
  | [] => true
  | x :: xs => okS x && okSAll xs
def okSKv : List (PyData × PyData) → Bool
  | [] => true
  | (k, v) :: r => okS k && okS v && okSKv r
end
theorem okSKv_split : ∀ {kvs : List (PyData × PyData)}, okSKv kvs = true → okSAll (kvs.map (·.1)) = true ∧ okSAll (kvs.map (·.2)) = true
  | [], _ => ⟨rfl, rfl⟩
  | (k, v) :: r, h => by
    simp only [okSKv, Bool.and_eq_true] at h
    obtain ⟨h1, h2⟩ := okSKv_split h.2
    simp only [List.map_cons, okSAll, Bool.and_eq_true]
    exact ⟨⟨h.1.1, h1⟩, h.1.2, h2⟩
theorem pairs_vals {P : Program} {w : World} : ∀ {kvs : List (Key × V)} {vs : List (Key × Value)} {es : List DictEntry}, KV kvs vs → Pairs (mixKind P w) es vs →
    Vals (kvs.map fun p => kV p.1) (es.map (·.key)) ∧ Vals (kvs.map (·.2)) (es.map (·.val))
  | _, _, _, .nil, .nil => ⟨.nil, .nil⟩
  | _, _, _, .cons r t, .cons hk hv p => by
    obtain ⟨h1, h2⟩ := pairs_vals t p
    refine ⟨.cons ?_ h1, .cons ?_ h2⟩
    · dsimp only
      rw [r.1]
      rcases keyIs_shape hk with ⟨i, tk, e1, e2⟩ | ⟨x, tk, e1, e2⟩
      · rw [e1, e2]
        exact ⟨tk, rfl⟩
      · rw [e1, e2]
        exact ⟨tk, rfl⟩
    · dsimp only
      rw [hv]
      exact r.2
section
variable {X : Cx} {pins : List (Addr × Obj)} {σ : L2.St} {H : Hp} {s : Shared}
mutual
theorem rp_reads (I : Inv X pins σ H s) : ∀ (d : PyData) (v : V) (u : Value), Rp X.K H v d → RelV v u → ∃ as, Reads s.heap u d as ∧ (okS d = true → sysModules ∉ as)
  | .none, _, _, h, r => by
    cases h
    cases r
    exact ⟨_, Reads.none, fun _ => by simp⟩
  | .bool b, _, _, h, r => by
    cases h
    cases r
    exact ⟨_, Reads.bool b, fun _ => by simp⟩
  | .int i, _, _, h, r => by
    cases h
    obtain ⟨t, rfl⟩ := r
    exact ⟨_, Reads.int i t, fun _ => by simp⟩
  | .str x, _, _, h, r => by
    cases h
    obtain ⟨t, rfl⟩ := r
    exact ⟨_, Reads.str x t, fun _ => by simp⟩
  | .list ds, _, _, h, r => by
    cases h with
    | lst hs ha =>
      cases r
      obtain ⟨its, rv, ⟨o, n, ho, hc, _, hd⟩, _⟩ := I.list (.of hs)
      obtain ⟨as, hr, _⟩ := rp_readsAll I ds _ its ha rv
      exact ⟨_, Reads.list ho hc hd hr, fun z => by simp [okS] at z⟩
  | .tuple ds, _, _, h, r => by
    cases h with
    | tup hs ha =>
      cases r
      obtain ⟨its, rv, ⟨o, ho, hc, n, hd⟩, _⟩ := I.tuple (.of hs)
      obtain ⟨as, hr, q⟩ := rp_readsAll I ds _ its ha rv
      exact ⟨_, Reads.tuple ho hc hd hr, fun z => q (by simpa [okS] using z)⟩
  | .dict ds, _, _, h, r => by
    cases h with
    | dic hs hk hv =>
      cases r
      obtain ⟨_, hm, vs, rel, o, es, ep, e1, e2, e3, e4, e5, e6⟩ := I.hok _ _ hs
      obtain ⟨r1, r2⟩ := pairs_vals rel e5
      obtain ⟨as, q1, z1⟩ := rp_readsKeys I ds _ _ hk r1
      obtain ⟨bs, q2, z2⟩ := rp_readsVals I ds _ _ hv r2
      refine ⟨_, Reads.dict e1 e2.1 e3 q1 q2, fun z => ?_⟩
      have hz : okSKv ds = true := by simpa [okS] using z
      obtain ⟨k1, k2⟩ := okSKv_split hz
      have hm' := beq_eq_false_iff_ne.mp hm
      intro hin
      rcases List.mem_cons.mp hin with hx | hx
      · exact hm' hx.symm
      · rcases List.mem_append.mp hx with hx | hx
        · exact z1 k1 hx
        · exact z2 k2 hx
theorem rp_readsAll (I : Inv X pins σ H s) : ∀ (ds : List PyData) (vs : List V) (us : List Value), RpAll X.K H vs ds → Vals vs us → ∃ as, ReadsAll s.heap us ds as ∧ (okSAll ds = true → sysModules ∉ as)
  | [], _, _, h, r => by
    cases h
    cases r
    exact ⟨_, ReadsAll.nil, fun _ => by simp⟩
  | d :: ds, _, _, h, r => by
    cases h with
    | cons h1 h2 =>
      cases r with
      | cons r1 r2 =>
        obtain ⟨as, q1, z1⟩ := rp_reads I d _ _ h1 r1
        obtain ⟨bs, q2, z2⟩ := rp_readsAll I ds _ _ h2 r2
        refine ⟨_, ReadsAll.cons q1 q2, fun z => ?_⟩
        simp only [okSAll, Bool.and_eq_true] at z
        intro hin
        rcases List.mem_append.mp hin with hx | hx
        · exact z1 z.1 hx
        · exact z2 z.2 hx
theorem rp_readsKeys (I : Inv X pins σ H s) : ∀ (ds : List (PyData × PyData)) (vs : List V) (us : List Value), RpAll X.K H vs (ds.map (·.1)) → Vals vs us → ∃ as, ReadsAll s.heap us (ds.map (·.1)) as ∧ (okSAll (ds.map (·.1)) = true → sysModules ∉ as)
  | [], _, _, h, r => by
    cases h
    cases r
    exact ⟨_, ReadsAll.nil, fun _ => by simp⟩
  | (d, _) :: ds, _, _, h, r => by
    cases h with
    | cons h1 h2 =>
      cases r with
      | cons r1 r2 =>
        obtain ⟨as, q1, z1⟩ := rp_reads I d _ _ h1 r1
        obtain ⟨bs, q2, z2⟩ := rp_readsKeys I ds _ _ h2 r2
        refine ⟨_, ReadsAll.cons q1 q2, fun z => ?_⟩
        simp only [List.map_cons, okSAll, Bool.and_eq_true] at z
        intro hin
        rcases List.mem_append.mp hin with hx | hx
        · exact z1 z.1 hx
        · exact z2 z.2 hx
theorem rp_readsVals (I : Inv X pins σ H s) : ∀ (ds : List (PyData × PyData)) (vs : List V) (us : List Value), RpAll X.K H vs (ds.map (·.2)) → Vals vs us → ∃ as, ReadsAll s.heap us (ds.map (·.2)) as ∧ (okSAll (ds.map (·.2)) = true → sysModules ∉ as)
  | [], _, _, h, r => by
    cases h
    cases r
    exact ⟨_, ReadsAll.nil, fun _ => by simp⟩
  | (_, d) :: ds, _, _, h, r => by
    cases h with
    | cons h1 h2 =>
      cases r with
      | cons r1 r2 =>
        obtain ⟨as, q1, z1⟩ := rp_reads I d _ _ h1 r1
        obtain ⟨bs, q2, z2⟩ := rp_readsVals I ds _ _ h2 r2
        refine ⟨_, ReadsAll.cons q1 q2, fun z => ?_⟩
        simp only [List.map_cons, okSAll, Bool.and_eq_true] at z
        intro hin
        rcases List.mem_append.mp hin with hx | hx
        · exact z1 z.1 hx
        · exact z2 z.2 hx
end
end

/-! ### repr of a list of such data -/
/-- a list at the top: its own address is not counted -/
theorem repr_top {prog : Program} {w : World} {A : Around} {E : Value → Shared → Prop} {s : Shared} {Q : Value → Shared → Prop} {a : Addr} {o : Obj} {vs : Array Value} {n : Nat} {xs : List PyData} {as : List Addr}
    (h1 : s.heap.get? a = some o) (h2 : o.cls = .type "list") (h3 : o.data = .seq vs n) (h4 : ReadsAll s.heap vs.toList xs as) (hs : PyData.showableAll xs = true) (hsm : PyData.hasDictAll xs = true → sysModules ∉ as)
    (hg : A.guards = some []) (hu : A.units + ((PyData.list xs).depth + 1) < cLine) (hsz : (listText (PyData.shownAll xs)).length ≤ sizeLine)
    (hQ : ∀ h' u tk, (∀ b o, s.heap.get? b = some o → h'.get? b = some o) → Q (.str (listText (PyData.shownAll xs)) u) { s with heap := h', toks := tk }) :
    wpAny (model prog w) A (call (.builtin "repr") [.ref a]) Q E s := by
  obtain ⟨bs, hb, hk⟩ := ReprAllK.of_readsAll (prog := prog) (w := w) h4 hs hsm (fun t ht => Nat.le_trans (listText_mem_le ht) hsz)
  have hna : a ∉ bs :=
    not_mem_of_deeper (.list h1 h2 h3 h4) (by simp only [PyData.depth]; omega) hb
  simp only [PyData.depth] at hu
  refine call_repr_slot (A := A) (by omega) (idr := "list.__repr__") (T := "list") (show s.TypeIs (.ref a) "list" from ⟨o, h1, h2⟩) F.slot_list_repr.toG ?_
  have hu1 : A.in1.units = A.units + 1 := rfl
  obtain ⟨l⟩ := vs
  cases l with
  | nil =>
    have h4' : ReadsAll s.heap [] xs as := h4
    cases h4'
    have ht := hQ s.heap
    rw [show listText (PyData.shownAll []) = ("[]" : Str) by simp only [PyData.shownAll]; exact listText_nil] at ht
    exact call_list_repr_empty ⟨o, h1, h2⟩ h1 h3 ⟨_, _, rfl, ht _ _ fun _ _ e => e⟩
  | cons x l =>
    refine call_list_reprK h1 h2 h3 hna (by simpa using hk.length_eq) (fun i y e => hk.item i y (by simpa using e)) (by exact hg) (fun b _ => Clear.nil b) (by rw [hu1]; omega) (fun _ _ e => e) (fun h' u tk k => ⟨_, _, rfl, hQ h' u tk k⟩) hsz
/-- repr(xs), xs a list of data -/
def rRepr (K : PySem.W.Frag) : List V → Hp → VK → Prop := fun vs H Q => ∃ (a : Addr) (xs : List V) (ds : List PyData), vs = [.ref a] ∧ H a = some (.lst xs) ∧ RpAll K H xs ds ∧ PyData.showableAll ds = true ∧ (PyData.hasDictAll ds = true → okSAll ds = true) ∧
  (PyData.list ds).depth ≤ 20 ∧ 3 + massAll ds ≤ sizeLine ∧ Q (.str (listText (PyData.shownAll ds))) H
theorem call_repr {X : Cx} (hg : X.A.guards = some []) (hu : X.A.units + 64 < cLine) : CallR X (.builtin "repr") (rRepr X.K) := by
  intro pins s σ H xs us Q I r h
  obtain ⟨a, ys, ds, rfl, ha, hr, hs, hd, hp, hm, q⟩ := h
  obtain rfl := Vals.ref1 r
  obtain ⟨its, rv, ⟨o, n, ho, hc, _, hdt⟩, _⟩ := I.list (.of ha)
  obtain ⟨as, q1, z1⟩ := rp_readsAll I ds _ its hr rv
  have hz := Nat.le_trans (list_text_le _) (Nat.le_trans (Nat.add_le_add_left (shown_all_le ds hs) 3) hm)
  exact repr_top ho hc hdt q1 hs (fun z => z1 (hd z)) hg (by omega) hz fun h' u tk k => ⟨.str _, H, I.kept k, ⟨u, rfl⟩, q⟩
end G
set_option Elab.async false
set_option linter.all false
set_option maxRecDepth 100000
set_option maxHeartbeats 2000000
/-! G2: a def that runs where no guard is under way, and the law's own call. -/
namespace G
open PySem PySem.Spec PyProof.Rows L2
/-- as FnOk, of arounds without guards -/
structure FnG (P : Program) (w : World) (K : PySem.W.Frag) (mg : Str → Option Value) (base : Heap) (CX : CXT) (k : Nat) (f : Addr) (fd : FuncData) (ps : List Str) (sp : Sp) : Prop where
  size : ∀ vs H Q E, sp vs H Q E → vs.length = ps.length
  go : ∀ (A : Around) (outer : List Env) (s : Shared) (H : Hp) (args : Args) (us : List Value) (vs : List V) (Q : VK) (E : XK),
    A.guards = some [] → Room k A → Env0 P w K mg base A outer s H → BindsTo s fd args (ps.zip us) → Vals vs us → sp vs H Q E → codeAny (model P w) A (.call (.ref f) args) (CR CX outer P w H s Q E) s
section
variable {P : Program} {w : World} {K : PySem.W.Frag} {mg : Str → Option Value} {base : Heap} {CX : CXT}
theorem FnG.of_body {x qual : Str} {st : Stmt} {f : Addr} {fd : FuncData} {N ps : List Str} {k : Nat} {sp : Sp} (F : Fun K x qual st f fd) (S : FnScope N ps (defScope st))
    (size : ∀ vs H Q E, sp vs H Q E → vs.length = ps.length)
    (body : ∀ (cdv : Value) (A : Around) (outer : List Env) (s : Shared) (H : Hp) (vs : List V) (Q : VK) (E : XK), A.guards = some [] →
      Room k (A.deeper (envOfC qual (defScope st) s.heap.objs.size f cdv)) → sp vs H Q E →
      ∃ t, PSs (cxOf CX P w K mg base N qual (defScope st) f cdv A outer s H E).nox (defBody st) t ∧ t { nx := fun _ H' => Q .non H', rt := Q } (start N vs) H) :
    FnG P w K mg base CX (k + 1) f fd ps sp := by
  obtain ⟨_, _, _, _, _, _, cdv, _, _, rfl, lk, hcd⟩ := F.ex
  refine ⟨size, fun A outer s H args us vs Q E hg hr e0 hb r h => ?_⟩
  have inS : K.In s.heap := e0.mod.kin.keeps fun b o e => (e0.bs b o e).1
  have noL : s.heap.NoLimit := e0.mod.nolimit.keeps fun b o e => (e0.bs b o e).1
  refine codeAny_call_function hr.depth (inS _ _ lk) rfl S.co S.gen rfl
    (PySem.W.codeRec_of inS hcd) (hb _ _ _ _ ?_)
  refine wpAny_newFunctionEnv_cells S.kind
    (fun ⟨n, v⟩ hy => ?_) fun env he s1 x => ?_
  · rcases S.par n (List.of_mem_zip hy).1 with q | q
    · exact Or.inl q
    · exact Or.inr ⟨q, PySem.W.cellsFrom_some _ _ _ (Or.inl q)⟩
  · subst he
    refine ⟨noL.keeps x.toInCall.keep, codeAny_func ?_⟩
    obtain ⟨t, ht, hq⟩ := body cdv A outer s H vs Q E hg (hr.deeper _) h
    have J := inv_start (CX := CX) (P := P) (w := w) (K := K) (mg := mg) (base := base) (E := E) S hr.hd e0 (size _ _ _ _ h) r x
    refine wpAny_mono (ht.nox.run [] s1 (start N vs) H _ J hq) (fun fl s' z => ?_) fun e s' z => z
    cases fl with
    | ret u =>
      obtain ⟨v, σ', H', J', rv, q⟩ := z
      exact ⟨v, H', J'.os, J'.bare, J'.base, J'.hok, rv, q⟩
    | next =>
      obtain ⟨σ', H', J', q⟩ := z
      exact ⟨.non, H', J'.os, J'.bare, J'.base, J'.hok, rfl, q⟩
    | brk =>
      obtain ⟨_, _, _, q⟩ := z
      exact q.elim
    | cont =>
      obtain ⟨_, _, _, q⟩ := z
      exact q.elim
end
section
variable {X : Cx} {CX : CXT} {k : Nat} {f : Addr} {fd : FuncData} {ps : List Str} {sp : Sp} {dvs : List V} {ds : List Value} {E : XK} {x : Str} {p pos : Pos} {e : Expr} {es : List Expr} {t : TA}
theorem FnG.run {pins : List (Addr × Obj)} {σ : L2.St} {H : Hp} {s : Shared} {Q : VK} {us : List Value} {vs : List V} (F : FnG X.prog X.w X.K X.mg X.base CX k f fd ps sp) (hg : X.A.guards = some []) (hr : Room k X.A) (hb : Binds X.K fd ps ds) (hd : Vals dvs ds)
    (hx : Passes CX X E) (I : Inv X pins σ H s) (r : Vals vs us) (h : sp (vs ++ dvs) H Q E) : wpAny (model X.prog X.w) X.A (call (.ref f) us) (EP X pins σ Q) X.xe s := by
  have both := r.append hd
  have size : (us ++ ds).length = ps.length := both.length.symm.trans (F.size _ _ _ _ h)
  refine wpAny_call (codeAny_mono (F.go X.A X.stack s H ⟨us, []⟩ (us ++ ds) (vs ++ dvs) Q E hg hr I.env0 (hb s us I.kIn size) both h) fun q s' z => ?_)
  match q, z with
  | .error er, z => exact hx pins σ H s er s' I z
  | .ok (.ret u), z => exact I.after z
/-- f(e, ..) -/
theorem pe_callG (F : FnG X.prog X.w X.K X.mg X.base CX k f fd ps sp) (hg : X.A.guards = some []) (hr : Room k X.A) (gl : Gl X x) (hm : X.mg x = some (.ref f)) (hk : PySem.W.keepIn X.K (.ref f) = true) (hb : Binds X.K fd ps ds) (hd : Vals dvs ds)
    (hx : Passes CX X E) (ha : PA X (e :: es) t) (hdb : (x == ("__debug__" : Str)) = false := by decide)
    (he : starEach (e :: es) X.env = (false, eval e X.env) :: starEach es X.env := by rfl) (hpl : (backTo pos (starEach es X.env)).any (·.1) = false := by rfl) : PE X (.Call (.Name x p) (e :: es) [] pos) (tCall sp dvs E t) := by
  constructor
  intro pins s σ H Q I h
  refine wpAny_Call_Name_kw (ld_glob I gl hm ?_ hdb)
  exact PySem.W.callWith_K (h₀ := X.base) I.ok.mod.kin hk
    (thn (ha.run pos pins s σ H _ I h) fun us s1 ⟨vs, H1, I1, r, q⟩ => ⟨I1.kIn, F.run hg hr hb hd hx I1 r q⟩) he hpl
end
/-- True comes out, what stood stands, nothing went in or out -/
def Fine (s : Shared) (r : Result) (s' : Shared) : Prop :=
  r = .ok (.ret (.bool true)) ∧ OldK s.heap s'.heap ∧ s'.os = s.os ∧ AllBare s'.gens
/-- the law's call, from the state that the top leaves -/
theorem law_go {P : Program} {w : World} {K : PySem.W.Frag} {mg mb : Str → Option Value} {k : Nat} {fa a : Addr} {fd : FuncData} {x : Str} {sp : Sp} {s₁ : Shared} {vs : List Value} {ns : List Int}
    (inK : K.In s₁.heap) (gl : s₁.heap.Ns mainGlobals mg)
    (bl : s₁.heap.Ns builtinsNs mb) (boot : ∀ y : Str, y ≠ "__name__" → mb y = bootBuiltins y)
    (lim : s₁.heap.NoLimit) (noG : s₁.gens = #[])
    (script : s₁.heap.get? a = some { cls := .type "list", data := .seq vs.toArray })
    (allInt : IntsAre vs ns) (few : ns.length ≤ sizeLine) (hr : Room k callerA)
    (F : ∀ base : Heap, K.In base → base.Ns mainGlobals mg → FnG P w K mg base CX0 k fa fd [x] sp) (hbind : ∀ (s : Shared) (u : Value), BindsTo s fd ⟨[u], []⟩ [(x, u)])
    (hsp : ∀ H : Hp, Only H → SqL K H a (ns.map V.int) → sp [.ref a] H (fun v _ => v = .bl true) fun _ _ _ => False) :
    codeAny (model P w) callerA (.call (.ref fa) ⟨[.ref a], []⟩)
      (Fine s₁) s₁ := by
  -- nothing but the script is tracked; if the written part holds the script, nothing at all
  have main : ∀ H : Hp, Only H → SqL K H a (ns.map V.int) → HOk P w H s₁.heap → (∀ b, H b ≠ none → b = a ∧ K.lookup a = none) →
      codeAny (model P w) callerA (.call (.ref fa) ⟨[.ref a], []⟩)
      (Fine s₁) s₁ := by
    intro H hO hS hok hA
    have nsK : ∀ {b : Addr} {m : Str → Option Value}, s₁.heap.Ns b m → (hidT s₁.heap H).Ns b m := by
      rintro b m ⟨o, es, ep, e, d, r⟩
      refine ⟨o, es, ep, hidT_get e ?_, d, r⟩
      cases q : H b with
      | none => rfl
      | some u =>
        exfalso
        have eb := (hA b (by rw [q]; simp)).1
        rw [eb, script] at e
        rw [← Option.some.inj e] at d
        cases d
    have inB : K.In (hidT s₁.heap H) := fun b o e => hidT_get (inK b o e) (by
      cases q : H b with
      | none => rfl
      | some u =>
        exfalso
        obtain ⟨e1, e2⟩ := hA b (by rw [q]; simp)
        rw [e1, e2] at e
        cases e)
    obtain ⟨mc, l1, l2⟩ := lim
    have hM : Mod K mg (hidT s₁.heap H) := ⟨inB, nsK gl, ⟨mb, nsK bl, boot⟩, ⟨mc, nsK l1, l2⟩⟩
    have e0 : Env0 P w K mg (hidT s₁.heap H) callerA [] s₁ H := ⟨rfl, hM, fun b o e => of_hidT e, Nat.le_of_eq (hidT_size _ _), trivial, fun b z => absurd (show b ∈ ([] : List Addr) from z) (by simp), hok, .of_eq noG⟩
    have run := (F _ inB (nsK gl)).go callerA [] s₁ H ⟨[.ref a], []⟩ [.ref a] [.ref a] _ _ rfl hr e0 (hbind s₁ (.ref a)) (.cons rfl .nil) (hsp H hO hS)
    refine codeAny_mono run fun r s' h => ?_
    match r, h with
    | .ok (.ret u), h =>
      obtain ⟨v, H', os, bare, un, hok', r', q⟩ := h
      obtain rfl : v = .bl true := q
      obtain rfl : u = Value.bool true := r'
      refine ⟨rfl, OldK.of_keep fun b o e => ?_, os, bare⟩
      rcases hO b with z | ⟨ob, xs, z⟩
      · exact un.keep b o e z (fun z => absurd (show b ∈ ([] : List Addr) from z) (by simp)) (by simp)
      · obtain ⟨e1, _⟩ := hok b _ z
        obtain ⟨e2, _⟩ := hok' b _ (un.frzs b ob _ z)
        rw [e] at e1
        cases e1
        exact e2
  cases hk : K.lookup a with
  | some o =>
    have e := inK a o hk
    rw [script] at e
    cases e
    refine main (fun _ => none) (fun _ => .inl rfl) (.inr ⟨_, vs.toArray, _, hk, rfl, rfl, rfl, ?_, ?_⟩) (fun b u z => nomatch z) fun b z => absurd rfl z
    · rw [List.size_toArray, allInt.length]
      exact few
    · simpa using vals_ints allInt
  | none =>
    let o : Obj := { cls := .type "list", data := .seq vs.toArray }
    let T : HO := .frz o (.lst (ns.map V.int))
    have at_a : upd (fun _ => none) a T a = some T := upd_same
    refine main (upd (fun _ => none) a T) (fun b => ?_) (.inl (.inr ⟨o, at_a⟩)) (fun b u z => ?_) fun b z => ?_
    · by_cases h : b = a
      · exact .inr ⟨o, _, by rw [h]; exact at_a⟩
      · exact .inl (upd_ne h)
    · by_cases h : b = a
      · subst h
        rw [at_a] at z
        cases z
        exact ⟨script, by rw [List.length_map]; exact few, vs, _, vals_ints allInt, script⟩
      · rw [upd_ne h] at z
        cases z
    · by_cases h : b = a
      · exact ⟨h, hk⟩
      · exact absurd (upd_ne h) z
/-- what k_head leaves, by the law's promise -/
theorem walk_go {l : PySem.W.OpenLaw} {n k : Nat} {q : Program} {loose : List Str} {XP : (Str → Option Value) → Heap → Prop} {YP : World → Heap → Prop} {d : DefRec} {K : Params → PySem.W.Frag} {sp : PySem.W.Frag → Sp} {x : Str}
    (most : l.most = some n) (few : n ≤ sizeLine)
    (nodf : d.params.defaults = []) (hr : Room k callerA)
    (hY : ∀ (w : World) (h : Heap), YP w h → (K w.params).In h)
    (F : ∀ (w : World) (mg : Str → Option Value) (fa : Addr) (h : Heap),
      (K w.params).In h → h.Ns mainGlobals mg → mg d.name = some (.ref fa) →
      ∃ fd : FuncData, (∀ (s : Shared) (u : Value), BindsTo s fd ⟨[u], []⟩ [(x, u)]) ∧ ∀ base : Heap, (K w.params).In base → base.Ns mainGlobals mg → FnG l.prog w (K w.params) mg base CX0 k fa fd [x] (sp (K w.params)))
    (hsp : ∀ (K : PySem.W.Frag) (H : Hp) (a : Addr) (ns : List Int), ns.length ≤ n → Only H → SqL K H a (ns.map V.int) → sp K [.ref a] H (fun v _ => v = .bl true) fun _ _ _ => False) :
    PySem.W.WalkO q loose XP YP l.row.toRowW d []
      (fun f vs => PySem.call f vs) := by
  refine Att.attach_call most nodf
    fun w _ s₁ mg mb fa _ _ _ _ a vs ns top Y _ _ _ atF obj allInt len noG => ?_
  have inK := hY w _ Y
  obtain ⟨fd, binds, keeps⟩ := F w mg fa _ inK top.T.g atF
  exact law_go inK top.T.g top.T.b top.T.builtins top.T.nolimit noG obj allInt (Nat.le_trans len few) hr keeps binds
    fun H hO hS => hsp _ H a ns len hO hS
end G
set_option Elab.async false
set_option linter.all false
set_option maxRecDepth 100000
set_option maxHeartbeats 2000000
/-! U1: a method that says super().__init__(..): its own activation is known while it runs. -/
namespace G
open PySem PySem.Spec PyProof.Rows L2 NdefX

/-- one statement, of a body whose activation is on top -/
structure PSa (X : Cx) (body : List Stmt) (st : Stmt) (t : TS) : Prop where
  run : ∀ (pins : List (Addr × Obj)) (s : Shared) (σ : L2.St) (H : Hp) (D : Ends), Inv X pins σ H s → t D σ H → _root_.PySem.wpAt (model X.prog X.w) X.A (.func body X.env) (exec st X.env) (SP X pins D) X.xe s
/-- .. several -/
structure PSsa (X : Cx) (body : List Stmt) (st : List Stmt) (t : TS) : Prop where
  run : ∀ (pins : List (Addr × Obj)) (s : Shared) (σ : L2.St) (H : Hp) (D : Ends), Inv X pins σ H s → t D σ H → _root_.PySem.wpAt (model X.prog X.w) X.A (.func body X.env) (execs st X.env) (SP X pins D) X.xe s
section
variable {X : Cx} {body rest : List Stmt} {st : Stmt} {t u : TS}
theorem psa (h : PS X st t) : PSa X body st t := ⟨fun pins s σ H D I q => wpAt_of_wpAny (h.run pins s σ H D I q)⟩
theorem pssa {sts : List Stmt} (h : PSs X sts t) : PSsa X body sts t := ⟨fun pins s σ H D I q => wpAt_of_wpAny (h.run pins s σ H D I q)⟩
theorem pssa_cons (h1 : PSa X body st t) (h2 : PSsa X body rest u) : PSsa X body (st :: rest) (tSeq t u) := by
  refine ⟨fun pins s σ H D I h => ks_wpAt_execs_cons (ks_wpAt_mono (h1.run pins s σ H { D with nx := u D } I h) (fun f s1 q => ?_) fun _ _ z => z)⟩
  cases f with
  | next =>
    obtain ⟨σ', H', I', q⟩ := q
    exact h2.run pins s1 σ' H' D I' q
  | ret v => exact q
  | brk => exact q
  | cont => exact q
end

/-- what of the text the words super().__init__ rest on, said in the def at f, of the class at D, to an instance of the class at C; f2: the __init__ found -/
structure SupOf (P : Program) (K : PySem.W.Frag) (f cda cc D C f2 : Addr) (x : Str) : Prop where
  fn : ∃ oc od fd sl ar, K.lookup f = some ⟨oc, od, .func fd, sl⟩ ∧ (fd.params.posonlyargs ++ fd.params.args).head? = some ar ∧ ar.arg = x
  code : ∃ oc od vs sl file tf, K.lookup cda = some ⟨oc, od, .fields vs, sl⟩ ∧ vs[2]? = some (.str file tf) ∧ ((P.main.file : Str) == file) = true
  cell : ∃ oc od sl, K.lookup cc = some ⟨oc, od, .cell (some (.ref D)), sl⟩
  isc : ∃ cd, PySem.W.clsIn K D = some cd
  isC : ∃ cd, PySem.W.clsIn K C = some cd
  sub : PySem.W.mroIn K C (.ref D) = some true
  thd : PySem.W.nsIn K cStatics "thirdparty.any" = some none
  sup : PySem.W.ks_superIn K C D "__init__" = some (some (.ref f2))
  ty : PySem.W.typeIn K (.ref f2) = some (.type "function")
  fi : PySem.W.fnIn K f2 = true
  top : (P.main.scope.names.lookup ("super" : Str)).isSome = false

/-- super().__init__(..), the instance in the slot i -/
def tSup (i : Nat) (C : Addr) (sp : Sp) (E : XK) (t : TA) : TS := fun D σ H => ∃ a dx fs, σ[i]? = some (some (.ref a)) ∧ H a = some (.ins C dx fs) ∧
  t σ H fun vs H1 => sp (.ref a :: vs) H1 (fun _ H2 => D.nx σ H2) E

section
variable {X : Cx} {CX : CXT} {k i : Nat} {f cda cc D C f2 : Addr} {x : Str} {sp : Sp} {E : XK} {body : List Stmt} {e : Expr} {es : List Expr} {t : TA} {p0 p1 apos pos spos : Pos} {pl : Sem Bool}
theorem cls_at {h : Heap} {K : PySem.W.Frag} {D : Addr} {cd : ClassData} (I : K.In h) (hD : PySem.W.clsIn K D = some cd) : ∃ o, h.get? D = some o ∧ o.data = .cls cd := by
  unfold PySem.W.clsIn at hD
  split at hD
  · rename_i c d cd' sl ho
    cases hD
    exact ⟨_, I _ _ ho, rfl⟩
  · cases hD
/-- the object super() -/
theorem super_base {pins : List (Addr × Obj)} {s : Shared} {σ : L2.St} {H : Hp} {whole : Sem Value} {a dx : Addr} {fs : List (Str × V)} {Q : Value → Shared → Prop}
    (I : Inv X pins σ H s) (S : SupOf X.prog X.K f cda cc D C f2 x) (hfu : X.env.func = some f) (hco : X.env.code = .ref cda) (hcl : X.env.cells.lookup ("__class__" : Str) = some cc)
    (hks : X.env.kindOf "super" = some .globalImplicit) (hkc : X.env.kindOf "__class__" = some .free) (hkx : X.env.kindOf x = some .local) (hm : X.mg "super" = none) (hN : X.N[i]? = some x)
    (hs : σ[i]? = some (some (.ref a))) (ha : H a = some (.ins C dx fs))
    (h : ∀ s', Inv X pins σ H s' → s'.heap.get? s.heap.objs.size = some { cls := .type "super", dict := none, data := .fields #[.ref D, .ref a, .ref C], slots := #[] } → Q (.ref s.heap.objs.size) s') :
    _root_.PySem.wpAt (model X.prog X.w) X.A (.func body X.env) (attributeBase (.Call (.Name "super" p0) [] [] p1) "__init__" X.env whole) Q X.xe s := by
  obtain ⟨oc, od, fd, sl, ar, lk, hp, hx⟩ := S.fn
  obtain ⟨oc2, od2, vs, sl2, file, tf, lk2, hv, hfile⟩ := S.code
  obtain ⟨oc3, od3, sl3, lk3⟩ := S.cell
  obtain ⟨cdD, hD⟩ := S.isc
  have inK := I.kIn
  obtain ⟨oD, hD1, hD2⟩ := cls_at inK hD
  obtain ⟨mb, b1, b2⟩ := I.mod.blt
  obtain ⟨m, hn, hl⟩ := I.loc
  obtain ⟨u, ru, hlook⟩ := hl i x _ hN hs (.inl hkx)
  obtain rfl : u = Value.ref a := ru
  have hmx : m x = some (.ref a) := by
    rcases hlook with ⟨_, z⟩ | ⟨z, _⟩
    · exact z
    · rw [hkx] at z
      rcases z with z | z <;> cases z
  have hob : s.heap.get? a = some (PySem.W.instObj C dx) := (show ObjOk X.prog X.w H s.heap a (.ins C dx fs) from I.hok a _ ha).2.2.2.1
  refine ks_wpAt_super_base hks hkc (by decide) hfu (inK _ _ lk) rfl hp hco (inK _ _ lk2) rfl hv hfile S.top ?_
  refine PySem.W.ks_loadName_global I.ok.kind hks (Calls.loadGlobal_builtin (by rw [I.ok.glob]; exact I.mod.glob.keeps I.bk) hm (by rw [I.ok.blt]; exact b1.keeps I.bk) ((b2 "super" (by decide)).trans (by first | rfl | decide +kernel)) ⟨rfl, ?_⟩)
  refine wpAny_loadName_free I.ok.kind hkc hcl ⟨_, inK _ _ lk3, rfl⟩ ?_
  rw [hx]
  refine wpAny_loadName_local I.ok.kind hkx hn hmx ?_
  obtain ⟨hh, g, d, tk, os⟩ := s
  refine ks_wpAny_isType_cls hD1 hD2 ⟨rfl, ?_⟩
  refine ks_wpAny_call_super hD1 hD2 hob rfl (fun c z => nomatch z) (PySem.W.looks_mroIn inK S.sub) fun h' e1 kp => ?_
  exact h _ (I.kept (t' := tk) kp) e1
/-- super().__init__(e, ..) -/
theorem psa_super (S : SupOf X.prog X.K f cda cc D C f2 x) (F : FnR X.prog X.w X.K X.mg X.base CX k f2 sp) (hr : Room k X.A) (hx : Passes CX X E) (hfu : X.env.func = some f) (hco : X.env.code = .ref cda) (hcl : X.env.cells.lookup ("__class__" : Str) = some cc)
    (hks : X.env.kindOf "super" = some .globalImplicit) (hkc : X.env.kindOf "__class__" = some .free) (hkx : X.env.kindOf x = some .local) (hm : X.mg "super" = none) (hN : X.N[i]? = some x) (ha : PA X (e :: es) t)
    (hst : starEach (e :: es) X.env = (false, eval e X.env) :: starEach es X.env := by rfl) (hpl : (backTo pos (starEach es X.env)).any (·.1) = false := by rfl)
    (ht : eval (.Call (.Attribute (.Call (.Name "super" p0) [] [] p1) "__init__" apos) (e :: es) [] pos) X.env = (do
      let ov ← attributeBase (.Call (.Name "super" p0) [] [] p1) "__init__" X.env (eval (.Call (.Name "super" p0) [] [] p1) X.env)
      standAt apos.atName
      let (f, first) ← holding [ov] (getMethod ov "__init__" pl)
      callWith pos f first (backTo pos (starEach (e :: es) X.env)) []) := by rfl)
    (hw : swapsWith (.Call (.Attribute (.Call (.Name "super" p0) [] [] p1) "__init__" apos) (e :: es) [] pos) none spos.line X.env = pure false := by rfl) :
    PSa X body (.Expr (.Call (.Attribute (.Call (.Name "super" p0) [] [] p1) "__init__" apos) (e :: es) [] pos) spos) (tSup i C sp E t) := by
  refine ⟨fun pins s σ H Dn I h => ?_⟩
  obtain ⟨a, dx, fs, h1, h2, q⟩ := h
  refine ks_wpAt_Expr_any (ks_wpAt_MethodCall (pl := pl) (super_base I S hfu hco hcl hks hkc hkx hm hN h1 h2 fun s1 I1 hso => ?_) ht) I.quiet hw
  obtain ⟨cdC, hC⟩ := S.isC
  have inK := I1.kIn
  have hob : s1.heap.get? a = some (PySem.W.instObj C dx) := (show ObjOk X.prog X.w H s1.heap a (.ins C dx fs) from I1.hok a _ h2).2.2.2.1
  obtain ⟨oC, hC1, hC2⟩ := cls_at inK hC
  have hne : a ≠ C := fun z => by
    rw [z, hC1] at hob
    rw [Option.some.inj hob] at hC2
    cases hC2
  obtain ⟨of, hof, hofc⟩ : ∃ of, s1.heap.get? f2 = some of ∧ of.cls = .type "function" := by
    have ht' : (X.K.lookup f2).map (·.cls) = some (.type "function") := S.ty
    cases z : X.K.lookup f2 with
    | none =>
      rw [z] at ht'
      cases ht'
    | some of =>
      rw [z] at ht'
      exact ⟨of, inK _ _ z, Option.some.inj ht'⟩
  have hsup := S.sup
  unfold PySem.W.ks_superIn at hsup
  rw [hC] at hsup
  obtain ⟨hh, g, d, tk, os⟩ := s1
  refine ks_wpAny_getMethod_super hso (PySem.W.looks_opaque inK S.thd) (l₀ := cdC.mro) ((PySem.W.looks_clsIn inK hC).andThen .now) rfl inK hsup hof hofc hne (by decide) ?_
  have I2 := ClX.met_new (g := f2) (C := a) I1
  refine ClX.callwith_cm I2 (ClX.base_none I1 (Nat.le_refl _)) S.fi (thn (ha.run pos _ _ σ H _ I2 q) fun us s3 ⟨vs, H3, I3, r3, q3⟩ => ⟨⟨ClX.pin_at I3, I3.kIn⟩, ?_⟩) hst hpl
  refine thn (ClX.run_cm F hr hx I3 r3 q3) fun _ _ y => ?_
  obtain ⟨v, H4, I4, _, q4⟩ := y
  exact ⟨σ, H4, I4, q4⟩
end

/-! ### the method -/
/-- THE RULE: a method that captures __class__ (it says super()), by its body -/
theorem fnx_of {CX : CXT} {P : Program} {w : World} {K : PySem.W.Frag} {mg : Str → Option Value} {base : Heap} {k : Nat} {f cda cc : Addr} {name qual : Str} {params : Arguments} {body : List Stmt} {scope : Scope} {dV kV doc pm ct oc : Value} {an od : Option Addr}
    {osl : Array (Option Value)} {N ps : List Str} {sp : Sp} (lk : K.lookup f = some ⟨oc, od, .func (PySem.W.ksFn name qual params body scope dV kV doc pm an (.ref cda) ct cc), osl⟩) (hcd : PySem.W.codeIn K (.ref cda) qual = true)
    (hcell : ∃ oc od sl v, K.lookup cc = some ⟨oc, od, .cell v, sl⟩) (S : NScope N ps ["__class__"] scope) (len : ∀ vs H Q E, sp vs H Q E → vs.length = ps.length)
    (hbody : ∀ (A : Around) (outer : List Env) (s : Shared) (H : Hp) (vs : List V) (Q : VK) (E : XK), Room k (A.deeper (envF ⟨name, qual, params, body, scope, [("__class__", cc)], cda⟩ f s.heap.objs.size)) → sp vs H Q E →
      ∃ t, PSsa (ncx CX P w K mg base N ⟨name, qual, params, body, scope, [("__class__", cc)], cda⟩ f A outer s H E) body body t ∧ t { nx := fun _ H' => Q .non H', rt := Q } (startF N vs [none]) H) :
    FnOk P w K mg base CX (k + 1) f (PySem.W.ksFn name qual params body scope dV kV doc pm an (.ref cda) ct cc) ps sp := by
  refine ⟨len, fun A outer s H args us vs Q E hr e0 hb r hsp => ?_⟩
  have hl := len _ _ _ _ hsp
  have inK : K.In s.heap := e0.mod.kin.keeps fun b o e => (e0.bs b o e).1
  have lim : s.heap.NoLimit := e0.mod.nolimit.keeps fun b o e => (e0.bs b o e).1
  obtain ⟨oc3, od3, sl3, v3, lk3⟩ := hcell
  have C : CellsAt [(("__class__" : Str), cc)] ["__class__"] [none] s.heap H := by
    have one : ∀ {y : Str} {c : Addr}, List.lookup y [(("__class__" : Str), cc)] = some c → y = "__class__" ∧ c = cc := fun {y c} z => by
      have z2 := PySem.mem_of_lookup z
      rw [List.mem_singleton] at z2
      exact ⟨congrArg Prod.fst z2, congrArg Prod.snd z2⟩
    refine ⟨rfl, fun y c z => ?_, fun y y' c z z' => (one z).1.trans (one z').1.symm, fun i y z => ?_⟩
    · obtain ⟨_, rfl⟩ := one z
      exact ⟨(e0.bs _ _ (e0.mod.kin _ _ lk3)).2, v3, _, inK _ _ lk3, rfl⟩
    · have hy : y = "__class__" := by
        have z2 := List.mem_of_getElem? z
        rw [List.mem_singleton] at z2
        exact z2
      subst hy
      refine ⟨cc, by simp [List.lookup], fun v z => ?_⟩
      cases i with
      | zero => cases z
      | succ j => cases z
  refine codeAny_call_function hr.depth (inK _ _ lk) rfl S.co S.gen rfl (PySem.W.codeRec_of inK hcd) (hb _ _ _ _ ?_)
  refine wpAny_newFunctionEnv S.nocell (fun ⟨n, _⟩ hy => S.par n (List.of_mem_zip hy).1) (fun h₁ hns hsb => ⟨lim.fresh _ hsb, ?_⟩) S.kind
  show codeAny _ _ (.func body (envF ⟨name, qual, params, body, scope, [("__class__", cc)], cda⟩ f s.heap.objs.size)) _ _
  refine ks_codeAny_funcAt ?_
  have kp : ∀ b o, s.heap.get? b = some o → h₁.get? b = some o := fun b o e => hsb.extBut b o (Nat.ne_of_lt (Heap.lt_size e)) (Heap.get?_push_of_some _ e)
  obtain ⟨t, ht, hq⟩ := hbody A outer s H vs Q E (hr.deeper _) hsp
  have I : Inv (ncx CX P w K mg base N ⟨name, qual, params, body, scope, [("__class__", cc)], cda⟩ f A outer s H E) [] (startF N vs [none]) H { s with heap := h₁, toks := s.toks + (ps.zip us).length } := inv_startN S hr.hd e0 hl r C hns kp
  refine ks_wpAt_mono (ht.run [] _ (startF N vs [none]) H _ I hq) (fun fl s' hs => ?_) fun e s' hs => hs
  have fin : ∀ {σ' : L2.St} {H' : Hp} {v : V} {u : Value}, Inv (ncx CX P w K mg base N ⟨name, qual, params, body, scope, [("__class__", cc)], cda⟩ f A outer s H E) [] σ' H' s' → L2.RelV v u → Q v H' → CE outer P w H s Q u s' :=
    fun {σ' H' v u} J rv q => ⟨v, H', J.os, J.bare, J.base, J.hok, rv, q⟩
  cases fl with
  | ret u =>
    obtain ⟨v, σ', H', J, rv, q⟩ := hs
    exact fin J rv q
  | next =>
    obtain ⟨σ', H', J, q⟩ := hs
    exact fin (v := V.non) (u := Value.none) J rfl q
  | brk =>
    obtain ⟨_, _, _, q⟩ := hs
    exact False.elim q
  | cont =>
    obtain ⟨_, _, _, q⟩ := hs
    exact False.elim q
end G
set_option Elab.async false
set_option linter.all false
set_option maxRecDepth 100000
set_option maxHeartbeats 2000000
/-! G3: a cell, its box, a draw from it. -/
namespace G
open PySem PySem.Spec PyProof.Rows L2
def topS (i : Nat) : Stmt := PySem.Challenge.pw_listviews_k20_plus_called.main.body.getD i (.Pass ⟨0, 0, 0, 0⟩)
abbrev sCell : Stmt := topS 27
abbrev sBox : Stmt := topS 28
abbrev sTake : Stmt := topS 29
theorem scCell : FnScope ["_law_script", "_law_k"] ["_law_script", "_law_k"] (defScope sCell) := ⟨rfl, rfl, rfl, by decide +kernel, rfl, by decide +kernel, by decide +kernel⟩
theorem scBox : FnScope ["_law_cell_here"] ["_law_cell_here"] (defScope sBox) := ⟨rfl, rfl, rfl, by decide +kernel, rfl, by decide +kernel, by decide +kernel⟩
theorem scTake : FnScope ["_law_box_here", "_law_many", "_law_digit", "_law_mixed_here"] ["_law_box_here", "_law_many"] (defScope sTake) := ⟨rfl, rfl, rfl, by decide +kernel, rfl, by decide +kernel, by decide +kernel⟩
/-- all but b stands as it stood -/
def But (b : Addr) (H H' : Hp) : Prop := ∀ c o, c ≠ b → H c = some o → H' c = some o
theorem But.refl (b : Addr) (H : Hp) : But b H H := fun _ _ _ h => h
theorem But.trans {b : Addr} {H H1 H2 : Hp} (x : But b H H1) (y : But b H1 H2) : But b H H2 := fun c o n h => y c o n (x c o n h)
theorem But.upd {b : Addr} {H : Hp} {o : HO} : But b H (upd H b o) := fun c u n h => by
  rw [upd_ne n]
  exact h
theorem But.new {b p : Addr} {H : Hp} {o : HO} (h : H p = none) : But b H (L2.upd H p o) := fun c u n e => by
  rw [upd_ne (ne_of_none e h)]
  exact e
theorem But.same {b : Addr} {H H' : Hp} (h : Same H H') : But b H H' := fun c o _ e => h c o e
theorem Same.new {p : Addr} {H : Hp} {o : HO} (h : H p = none) : Same H (upd H p o) := fun c u e => by
  rw [upd_ne (ne_of_none e h)]
  exact e
/-- a box from which at most n draws were made -/
def BoxAt (H : Hp) (b : Addr) (n : Nat) : Prop := ∃ x y z : Int, H b = some (.lst [.int x, .int y, .int z]) ∧ 0 ≤ x ∧ 0 ≤ y ∧ y < 2147483629 ∧ 0 ≤ z ∧ z ≤ n
theorem BoxAt.mono {H : Hp} {b : Addr} {n m : Nat} (h : BoxAt H b n) (le : n ≤ m) : BoxAt H b m := by
  obtain ⟨x, y, z, e, h1, h2, h3, h4, h5⟩ := h
  exact ⟨x, y, z, e, h1, h2, h3, h4, by omega⟩
theorem BoxAt.keep {H H' : Hp} {b : Addr} {n : Nat} (h : BoxAt H b n) (s : ∀ o, H b = some o → H' b = some o) : BoxAt H' b n := by
  obtain ⟨x, y, z, e, r⟩ := h
  exact ⟨x, y, z, s _ e, r⟩
/-- a draw is one of so many -/
theorem draw_at {r m : Int} {n : Nat} (h0 : 0 ≤ r) (h1 : r < m) (e : m = n) : ∃ j : Nat, r = j ∧ j < n := ⟨r.toNat, by omega, by omega⟩
def spCell' (K : PySem.W.Frag) : Sp := fun vs H Q _ => ∃ (a : Addr) (ns : List Int) (z : Int), vs = [.ref a, .int z] ∧ SqL K H a (ns.map V.int) ∧ 0 ≤ z ∧ z < 1000 ∧ ∀ i : Int, Q (.int i) H
def spBox : Sp := fun vs H Q _ => ∃ i : Int, vs = [.int i] ∧ ∀ (b : Addr) (H' : Hp), H b = none → Same H H' → BoxAt H' b 0 → Q (.ref b) H'
def spTake : Sp := fun vs H Q _ => ∃ (b : Addr) (m : Int) (n : Nat), vs = [.ref b, .int m] ∧ BoxAt H b n ∧ n ≤ 100000 ∧ 0 < m ∧ m < 2 ^ 200 ∧
  ∀ (r : Int) (H' : Hp), 0 ≤ r → r < m → BoxAt H' b (n + 1) → But b H H' → Q (.int r) H'
section
variable {P : Program} {w : World} {K : PySem.W.Frag} {mg : Str → Option Value} {base : Heap}
theorem ok_cell {f : Addr} {fd : FuncData} (F : Fun K "_law_cell" "_law_cell" sCell f fd) (ml : mg "len" = none) : FnOk P w K mg base CX0 1 f fd ["_law_script", "_law_k"] (spCell' K) := by
  refine F.ok scCell (fun vs H Q E h => ?_) (fun cdv A outer s H vs Q E hr h => ?_)
  · obtain ⟨a, ns, j, rfl, _⟩ := h
    rfl
  · obtain ⟨a, ns, z, rfl, hS, z0, z1, q⟩ := h
    obtain ⟨j, rfl, hj⟩ := draw_at (n := 1000) z0 z1 rfl
    refine ⟨_, pss_cons (ps_if (pt_cmpR op_lt (pv 1) (pe_callB call_len_seq (by rfl) ml PySem.boot_len (pa_cons (pv 0) pa_nil)) (nomark _))
        (pss_one (ps_ret (pe_ix ix_list (pv 0) (pv 1) (fun _ _ => rfl)))) pss_nil)
      (pss_one (ps_ret (pe_op op_add (pe_op op_mul pe_int (pv 1)) pe_int))), ?_⟩
    refine ⟨_, rfl, _, rfl, a, _, rfl, .inl hS, _, _, rfl, rfl, _, rfl, ite2 (fun e => ?_) (fun _ => ?_)⟩
    · have e1 : (j : Int) < ((ns.map V.int).length : Nat) := of_decide_eq_true e
      have e2 : j < ns.length := by
        rw [List.length_map] at e1
        omega
      exact ⟨_, rfl, _, rfl, a, _, _, .int ns[j], rfl, rfl, hS, atI_nat (by rw [List.getElem?_map, List.getElem?_eq_getElem e2] <;> rfl), q _⟩
    · exact ⟨_, rfl, _, _, rfl, rfl, .inl ⟨by decide, by decide⟩, _, _, rfl, rfl, q _⟩
theorem ok_box {f : Addr} {fd : FuncData} (F : Fun K "_law_box" "_law_box" sBox f fd) (mm : mg "max" = none) : FnOk P w K mg base CX0 1 f fd ["_law_cell_here"] spBox := by
  refine F.ok scBox (fun vs H Q E h => ?_) (fun cdv A outer s H vs Q E hr h => ?_)
  · obtain ⟨i, rfl, _⟩ := h
    rfl
  · obtain ⟨i, rfl, q⟩ := h
    refine ⟨_, pss_one (ps_ret (pe_lst (pa_cons (pe_callB (call_max2 rfl) (by rfl) mm (by decide +kernel) (pa_cons pe_int (pa_cons (pe_op op_sub (pv 0) (pe_op op_pow pe_int pe_int)) pa_nil)))
      (pa_cons (pe_op op_mod (pv 0) pe_int) (pa_cons pe_int pa_nil))))), ?_⟩
    refine ⟨_, rfl, _, _, rfl, rfl, ⟨by decide, by decide, by decide⟩, _, _, rfl, rfl, _, _, rfl, _, rfl, _, _, rfl, rfl, (by show (0 : Int) < 2147483629; decide), (by show 3 ≤ sizeLine; decide), fun b hb => ?_⟩
    refine q b _ hb (Same.new hb) ⟨_, _, _, upd_same, ?_, Int.emod_nonneg _ (by decide), Int.emod_lt_of_pos _ (by decide), Int.le_refl _, Int.le_refl _⟩
    split <;> omega
theorem emod_in (a m : Int) (h : 0 < m) : 0 ≤ a % m ∧ a % m < m := ⟨Int.emod_nonneg _ (by omega), Int.emod_lt_of_pos _ h⟩
theorem ok_take {f : Addr} {fd : FuncData} (F : Fun K "_law_take" "_law_take" sTake f fd) : FnOk P w K mg base CX0 1 f fd ["_law_box_here", "_law_many"] spTake := by
  refine F.ok scTake (fun vs H Q E h => ?_) (fun cdv A outer s H vs Q E hr h => ?_)
  · obtain ⟨b, m, n, rfl, _⟩ := h
    rfl
  · obtain ⟨b, m, n, rfl, ⟨x, y, z, hb, hx, hy, hy2, hz, hzn⟩, hn, hm, hm2, q⟩ := h
    refine ⟨_, pss_cons (ps_if (pt_cmpR op_gt (pe_ix ix_list (pv 0) pe_int (fun _ _ => rfl)) pe_int (nomark _))
        (pss_cons (ps_set (i := 2) scTake.nd rfl (.inl rfl) (pe_op op_mod (pe_ix ix_list (pv 0) pe_int (fun _ _ => rfl)) (pv 1)))
        (pss_cons (ps_asg (pe_op op_fdivW (pe_ix ix_list (pv 0) pe_int (fun _ _ => rfl)) (pv 1)) (pg_sub (pv 0) pe_int set_list))
        (pss_one (ps_ret (pv 2))))) pss_nil)
      (pss_cons (ps_asg (pe_op op_add (pe_ix ix_list (pv 0) pe_int (fun _ _ => rfl)) pe_int) (pg_sub (pv 0) pe_int set_list))
      (pss_cons (ps_set (i := 3) scTake.nd rfl (.inl rfl) (pe_op op_mod (pe_op op_pow (pe_op op_add (pe_op op_add (pe_ix ix_list (pv 0) pe_int (fun _ _ => rfl)) (pe_op op_mul pe_int (pe_ix ix_list (pv 0) pe_int (fun _ _ => rfl)))) pe_int) pe_int) pe_int))
      (pss_cons (ps_set (i := 3) scTake.nd rfl (.inl rfl) (pe_op op_mod (pe_op op_pow (pe_op op_add (pv 3) (pe_op op_mul pe_int (pe_ix ix_list (pv 0) pe_int (fun _ _ => rfl)))) pe_int) pe_int))
      (pss_one (ps_ret (pe_op op_mod (pe_op op_fdivW (pv 3) pe_int) (pv 1))))))), ?_⟩
    -- if box[0] > 0
    refine ⟨_, rfl, b, _, 0, .int x, rfl, rfl, .of hb, rfl, _, _, rfl, rfl, _, rfl, ite2 (fun e => ?_) (fun _ => ?_)⟩
    · refine ⟨_, rfl, b, _, 0, .int x, rfl, rfl, .of hb, rfl, _, rfl, _, _, rfl, rfl, hm, ?_⟩
      refine ⟨_, rfl, b, _, 0, .int x, rfl, rfl, .of hb, rfl, _, rfl, _, _, rfl, rfl, wide_div hm (b := 200) (by omega) (by decide) (by decide), ?_⟩
      refine ⟨_, rfl, b, _, 0, 0, rfl, rfl, hb, rfl, _, rfl, ?_⟩
      have r := emod_in x m hm
      exact q _ _ r.1 r.2 ⟨_, _, _, upd_same, Int.ediv_nonneg hx (by omega), hy, hy2, hz, by omega⟩ But.upd
    · refine ⟨_, rfl, b, _, 2, .int z, rfl, rfl, .of hb, rfl, _, _, rfl, rfl, ?_⟩
      refine ⟨_, rfl, b, _, 2, 2, rfl, rfl, hb, rfl, ?_⟩
      have hb' : (upd H b (.lst [.int x, .int y, .int (z + 1)])) b = some (.lst [.int x, .int y, .int (z + 1)]) := upd_same
      refine ⟨_, rfl, b, _, 1, .int y, rfl, rfl, .of hb', rfl, _, rfl, b, _, 2, .int (z + 1), rfl, rfl, .of hb', rfl, _, _, rfl, rfl, .inl ⟨by decide, by decide⟩, _, _, rfl, rfl, _, _, rfl, rfl,
        _, _, rfl, rfl, ⟨by decide, by decide, by omega⟩, _, _, rfl, rfl, (by show (0 : Int) < 2147483647; decide), ?_⟩
      generalize h1 : ((y + 7517 * (z + 1) + 211) ^ (5 : Int).toNat : Int) = t1
      have r1 := emod_in t1 2147483647 (by decide)
      refine ⟨_, rfl, _, rfl, b, _, 2, .int (z + 1), rfl, rfl, .of hb', rfl, _, _, rfl, rfl, .inl ⟨by decide, by decide⟩, _, _, rfl, rfl, _, _, rfl, rfl, ⟨by decide, by decide, by omega⟩, _, _, rfl, rfl, (by show (0 : Int) < 2147483587; decide), ?_⟩
      generalize h2 : ((t1 % 2147483647 + 104729 * (z + 1)) ^ (3 : Int).toNat : Int) = t2
      refine ⟨_, rfl, _, _, rfl, rfl, wide_div (by decide) (b := 200) (by decide) (by decide) (by decide), _, rfl, _, _, rfl, rfl, hm, ?_⟩
      have r := emod_in (t2 % 2147483587 / 16) m hm
      exact q _ _ r.1 r.2 ⟨_, _, _, upd_same, hx, hy, hy2, by omega, by omega⟩ But.upd
end
end G
set_option Elab.async false
set_option linter.all false
set_option maxRecDepth 100000
set_option maxHeartbeats 2000000
/-! G5: what data in the heap keeps, its type, == of it. -/
namespace G
open PySem PySem.Spec PyProof.Rows L2
section
variable {K : PySem.W.Frag} {H H' : Hp}
mutual
theorem rp_same (s : Same H H') : ∀ (d : PyData) (v : V), Rp K H v d → Rp K H' v d
  | .none, _, h => by
    cases h
    exact .non
  | .bool b, _, h => by
    cases h
    exact .bl b
  | .int i, _, h => by
    cases h
    exact .int i
  | .str x, _, h => by
    cases h
    exact .str x
  | .list ds, _, h => by
    cases h with
    | lst e r => exact .lst (s _ _ e) (rp_sameAll s ds _ r)
  | .tuple ds, _, h => by
    cases h with
    | tup e r => exact .tup (s _ _ e) (rp_sameAll s ds _ r)
  | .dict ds, _, h => by
    cases h with
    | dic e r q => exact .dic (s _ _ e) (rp_sameK s ds _ r) (rp_sameV s ds _ q)
theorem rp_sameAll (s : Same H H') : ∀ (ds : List PyData) (vs : List V), RpAll K H vs ds → RpAll K H' vs ds
  | [], _, h => by
    cases h
    exact .nil
  | d :: ds, _, h => by
    cases h with
    | cons a b => exact .cons (rp_same s d _ a) (rp_sameAll s ds _ b)
theorem rp_sameK (s : Same H H') : ∀ (ds : List (PyData × PyData)) (vs : List V), RpAll K H vs (ds.map (·.1)) → RpAll K H' vs (ds.map (·.1))
  | [], _, h => by
    cases h
    exact .nil
  | (d, _) :: ds, _, h => by
    cases h with
    | cons a b => exact .cons (rp_same s d _ a) (rp_sameK s ds _ b)
theorem rp_sameV (s : Same H H') : ∀ (ds : List (PyData × PyData)) (vs : List V), RpAll K H vs (ds.map (·.2)) → RpAll K H' vs (ds.map (·.2))
  | [], _, h => by
    cases h
    exact .nil
  | (_, d) :: ds, _, h => by
    cases h with
    | cons a b => exact .cons (rp_same s d _ a) (rp_sameV s ds _ b)
end
theorem rp_len : ∀ {ds : List PyData} {vs : List V}, RpAll K H vs ds → vs.length = ds.length
  | [], _, h => by
    cases h
    rfl
  | _ :: ds, _, h => by
    cases h with
    | cons a b =>
      rw [List.length_cons, List.length_cons, rp_len b]
theorem rp_at : ∀ {ds : List PyData} {vs : List V} {i : Nat} {v : V}, RpAll K H vs ds → vs[i]? = some v → ∃ d, ds[i]? = some d ∧ Rp K H v d
  | [], _, i, v, h, e => by
    cases h
    simp at e
  | d :: ds, _, i, v, h, e => by
    cases h with
    | cons a b =>
      cases i with
      | zero =>
        have e' := Option.some.inj e
        subst e'
        exact ⟨d, rfl, a⟩
      | succ j => exact rp_at (ds := ds) (i := j) b (by simpa using e)
theorem rp_app : ∀ {ds : List PyData} {vs : List V} {v : V} {d : PyData}, RpAll K H vs ds → Rp K H v d → RpAll K H (vs ++ [v]) (ds ++ [d])
  | [], _, _, _, h, r => by
    cases h
    exact .cons r .nil
  | _ :: ds, _, _, _, h, r => by
    cases h with
    | cons a b => exact .cons a (rp_app b r)
theorem rp_set : ∀ {ds : List PyData} {vs : List V} {v : V} {d : PyData} (i : Nat), RpAll K H vs ds → Rp K H v d → RpAll K H (vs.set i v) (ds.set i d)
  | [], _, _, _, _, h, r => by
    cases h
    exact .nil
  | _ :: ds, _, _, _, i, h, r => by
    cases h with
    | cons a b =>
      cases i with
      | zero => exact .cons r b
      | succ j => exact .cons a (rp_set j b r)
theorem rp_ints : ∀ (is : List Int), RpAll K H (is.map V.int) (is.map PyData.int)
  | [] => .nil
  | i :: is => .cons (.int i) (rp_ints is)
mutual
theorem rp_dp : ∀ (d : PyData) (v : V), d.hasDict = false → Rp K H v d → Dp K H v d
  | .none, _, _, h => by
    cases h
    exact .non
  | .bool b, _, _, h => by
    cases h
    exact .bl b
  | .int i, _, _, h => by
    cases h
    exact .int i
  | .str x, _, _, h => by
    cases h
    exact .str x
  | .list ds, _, n, h => by
    cases h with
    | lst e r => exact .lst (.of e) (rp_dpAll ds _ (by simpa [PyData.hasDict] using n) r)
  | .tuple ds, _, n, h => by
    cases h with
    | tup e r => exact .tup (.of e) (rp_dpAll ds _ (by simpa [PyData.hasDict] using n) r)
  | .dict ds, _, n, h => by simp [PyData.hasDict] at n
theorem rp_dpAll : ∀ (ds : List PyData) (vs : List V), PyData.hasDictAll ds = false → RpAll K H vs ds → DpAll K H vs ds
  | [], _, _, h => by
    cases h
    exact .nil
  | d :: ds, _, n, h => by
    simp only [PyData.hasDictAll, Bool.or_eq_false_iff] at n
    cases h with
    | cons a b => exact .cons (rp_dp d _ n.1 a) (rp_dpAll ds _ n.2 b)
end
/-- the name of a thing's type -/
def tyN : PyData → String
  | .none => "NoneType"
  | .bool _ => "bool"
  | .int _ => "int"
  | .str _ => "str"
  | .list _ => "list"
  | .tuple _ => "tuple"
  | .dict _ => "dict"
theorem rp_ty {v : V} {d : PyData} (h : Rp K H v d) : TyX K H v (.type (tyN d)) := by
  cases h with
  | non => exact .base .non
  | bl b => exact .base (.bl b)
  | int i => exact .base (.int i)
  | str x => exact .base (.str x)
  | lst e r => exact .base (.lst e)
  | tup e r => exact .base (.tup e)
  | dic e r q => exact .base (.dK e)
end
/-- H without what stands at b -/
def hide (b : Addr) (H : Hp) : Hp := fun a => if a = b then none else H a
theorem hide_same (b : Addr) (H : Hp) : Same (hide b H) H := fun a o e => by
  by_cases h : a = b
  · rw [show hide b H a = none from if_pos h] at e
    cases e
  · rwa [show hide b H a = H a from if_neg h] at e
theorem hide_ne {b a : Addr} {H : Hp} (h : a ≠ b) : hide b H a = H a := if_neg h
theorem hide_at {b : Addr} {H : Hp} : hide b H b = none := if_pos rfl
theorem hide_but {b : Addr} {H H' : Hp} (h : But b H H') : Same (hide b H) (hide b H') := fun a o e => by
  have n : a ≠ b := fun z => by
    rw [z, hide_at] at e
    cases e
  rw [hide_ne n] at e ⊢
  exact h a o n e
theorem hide_upd {b : Addr} {H : Hp} {o : HO} : hide b (upd H b o) = hide b H := by
  funext a
  by_cases h : a = b
  · rw [h, hide_at, hide_at]
  · rw [hide_ne h, hide_ne h, upd_ne h]
/-- what is new is not in what stood -/
theorem hide_new {b : Addr} {H : Hp} (h : H b = none) : Same H (hide b H) := fun a o e => by
  rw [hide_ne (ne_of_none e h)]
  exact e
theorem hide_mono {b : Addr} {H H' : Hp} (h : Same H H') : Same (hide b H) (hide b H') := hide_but fun c o _ e => h c o e
theorem hide_hide {b c : Addr} {H : Hp} : hide b (hide c H) = hide c (hide b H) := by
  funext a
  unfold hide
  split <;> split <;> rfl
end G
set_option Elab.async false
set_option linter.all false
set_option maxRecDepth 100000
set_option maxHeartbeats 2000000
/-! V3: the items of a list, in a drawn order. -/
namespace G
open PySem PySem.Spec PyProof.Rows L2
abbrev sMixed : Stmt := topS 30
theorem scMixed : FnScope ["_law_box_here", "_law_some", "_law_left", "_law_found"] ["_law_box_here", "_law_some"] (defScope sMixed) := ⟨rfl, rfl, rfl, by decide +kernel, rfl, by decide +kernel, by decide +kernel⟩
/-- data that == takes: no dict, texts that can be compared, not too deep -/
def lay (d : PyData) : Prop := d.hasDict = false ∧ d.canLay0 = true ∧ d.depth ≤ 60
theorem lay_all : ∀ {ds : List PyData}, (∀ d ∈ ds, lay d) → PyData.hasDictAll ds = false ∧ PyData.canLayAll0 ds = true ∧ PyData.depthAll ds ≤ 60
  | [], _ => ⟨rfl, rfl, Nat.zero_le _⟩
  | d :: ds, h => by
    obtain ⟨a1, a2, a3⟩ := h d List.mem_cons_self
    obtain ⟨b1, b2, b3⟩ := lay_all (ds := ds) fun e he => h e (List.mem_cons_of_mem _ he)
    refine ⟨?_, ?_, ?_⟩
    · rw [PyData.hasDictAll, a1, b1]
      rfl
    · rw [PyData.canLayAll0, a2, b2]
      rfl
    · rw [PyData.depthAll]
      exact Nat.max_le.mpr ⟨a3, b3⟩
theorem lay_shaped {d : PyData} (h : lay d) : SeqAt.shaped d = true := by
  unfold SeqAt.shaped
  rw [h.2.1, decide_eq_true (Nat.le_trans h.2.2 (by decide))]
  rfl
theorem lay_list {ds : List PyData} (h : ∀ d ∈ ds, lay d) : SeqAt.shaped (.list ds) = true := by
  obtain ⟨_, b2, b3⟩ := lay_all h
  unfold SeqAt.shaped
  rw [PyData.canLay0, b2, decide_eq_true (show (PyData.list ds).depth ≤ 64 by rw [PyData.depth]; omega)]
  rfl
/-- values and what they show -/
abbrev Vd := V × PyData
theorem rp_pairs {K : PySem.W.Frag} {H : Hp} : ∀ {qs : List Vd}, (∀ p ∈ qs, Rp K H p.1 p.2) → RpAll K H (qs.map (·.1)) (qs.map (·.2))
  | [], _ => .nil
  | p :: qs, h => .cons (h p List.mem_cons_self) (rp_pairs fun q hq => h q (List.mem_cons_of_mem _ hq))
theorem dp_pairs {K : PySem.W.Frag} {H : Hp} {qs : List Vd} (h : ∀ p ∈ qs, Rp K H p.1 p.2) (l : ∀ p ∈ qs, lay p.2) : DpAll K H (qs.map (·.1)) (qs.map (·.2)) :=
  rp_dpAll _ _ (lay_all (ds := qs.map (·.2)) fun d hd => by
    obtain ⟨p, hp, rfl⟩ := List.mem_map.mp hd
    exact l p hp).1 (rp_pairs h)
theorem erase_map {α β : Type} (f : α → β) : ∀ (l : List α) (j : Nat), (l.map f).eraseIdx j = (l.eraseIdx j).map f
  | [], _ => rfl
  | _ :: _, 0 => rfl
  | x :: l, j + 1 => by
    show f x :: (l.map f).eraseIdx j = f x :: (l.eraseIdx j).map f
    rw [erase_map f l j]
theorem erase_perm {α : Type} : ∀ {l : List α} {j : Nat} (h : j < l.length), ([l[j]] ++ l.eraseIdx j).Perm l
  | _ :: _, 0, _ => .refl _
  | x :: l, j + 1, h => by
    have hj : j < l.length := by simpa using h
    have ih := erase_perm hj
    show (l[j] :: x :: l.eraseIdx j).Perm (x :: l)
    exact (List.Perm.swap x _ _).trans (List.Perm.cons x ih)
/-- some: any order of its items, in a new list -/
def spMixed (K : PySem.W.Frag) : Sp := fun vs H Q _ => ∃ (b a : Addr) (n : Nat) (ps : List Vd), vs = [.ref b, .ref a] ∧ BoxAt H b n ∧ n + ps.length ≤ 100000 ∧ (SqL K H a (ps.map (·.1)) ∨ SqT K H a (ps.map (·.1))) ∧
  (∀ p ∈ ps, lay p.2 ∧ ∀ H', But b H H' → Rp K H' p.1 p.2) ∧
  ∀ (p : Addr) (H' : Hp) (qs : List Vd), qs.Perm ps → H p = none → H' p = some (.lst (qs.map (·.1))) → BoxAt H' b (n + ps.length) → But b H H' → Q (.ref p) H'
theorem eqv_nil (ds : List PyData) : PyData.eqv (.list ds) (.list []) = ds.isEmpty := by
  cases ds with
  | nil => rfl
  | cons d ds => rfl
section
variable {P : Program} {w : World} {K : PySem.W.Frag} {mg : Str → Option Value} {base : Heap}
theorem ok_mixed {f fT : Addr} {fd fdT : FuncData} (F : Fun K "_law_mixed" "_law_mixed" sMixed f fd) (T : Fun K "_law_take" "_law_take" sTake fT fdT) (bT : Binds K fdT ["_law_box_here", "_law_many"] []) (gT : mg "_law_take" = some (.ref fT))
    (ml : mg "len" = none) (mL : mg "list" = none) : FnOk P w K mg base CX0 2 f fd ["_law_box_here", "_law_some"] (spMixed K) := by
  refine F.ok scMixed (fun vs H Q E h => ?_) (fun cdv A outer s H vs Q E hr h => ?_)
  · obtain ⟨b, a, n, ps, rfl, _⟩ := h
    rfl
  · obtain ⟨b, a, n, ps, rfl, B, hn, hS, hp, q⟩ := h
    have big : ∀ {k : Nat}, k ≤ 100000 → k < sizeLine := fun {k} h => by
      rw [sizeLine_eq]
      omega
    refine ⟨_, pss_cons (ps_par (i := 2) (j := 3) (by rfl) scMixed.nd rfl rfl (by decide) rfl rfl (pa_cons (pe_callTy call_list_of (by rfl) mL (by decide +kernel) (pa_cons (pv 1) pa_nil)) (pa_cons (pe_lst pa_nil) pa_nil)) (by rfl))
      (pss_cons (ps_while PassesOwn.never (pt_cmpR (op_neD hr.units) (pv 2) (pe_lst pa_nil) (nomark _))
        (pss_one (ps_expr (pe_bm PySem.F.plainAttrs_list PySem.F.slot_list_append PySem.F.type_list_append mt_append (pv 3) (pa_cons
          (pe_bm PySem.F.plainAttrs_list PySem.F.slot_list_pop PySem.F.type_list_pop mt_popAt (pv 2)
            (pa_cons (pe_call (ok_take T) hr rfl gT T.kp bT .nil pass0 (pa_cons (pv 0) (pa_cons (pe_callB call_len_seq (by rfl) ml PySem.boot_len (pa_cons (pv 2) pa_nil)) pa_nil))) pa_nil)) pa_nil)))))
      (pss_one (ps_ret (pv 3)))), ?_⟩
    refine ⟨_, rfl, a, _, rfl, hS, fun l hl => ⟨by decide, fun p hp0 => ⟨_, _, rfl, ?_⟩⟩⟩
    have nlp : l ≠ p := fun z => by
      rw [z, upd_same] at hp0
      cases hp0
    have hpn : H p = none := (upd_ne nlp.symm).symm.trans hp0
    have nbl : b ≠ l := by
      obtain ⟨_, _, _, e, _⟩ := B
      exact ne_of_none e hl
    have nbp : b ≠ p := by
      obtain ⟨_, _, _, e, _⟩ := B
      exact ne_of_none e hpn
    refine ⟨fun m σ H1 => ∃ qs rs : List Vd, m = qs.length ∧ σ = [some (.ref b), some (.ref a), some (.ref l), some (.ref p)] ∧ H1 l = some (.lst (qs.map (·.1))) ∧ H1 p = some (.lst (rs.map (·.1))) ∧
        (rs ++ qs).Perm ps ∧ BoxAt H1 b (n + rs.length) ∧ But b H H1, ⟨ps.length, ps, [], rfl, rfl, ?_, upd_same, .refl _, ?_, ?_⟩, ?_⟩
    · rw [upd_ne nlp, upd_same]
    · exact (B.keep fun o e => by rw [upd_ne nbp, upd_ne nbl]; exact e).mono (Nat.le_add_right _ _)
    · exact (But.new hl).trans (But.new hp0)
    · rintro m σ H1 ⟨qs, rs, rfl, rfl, el, ep, pm, B1, s1⟩
      have hq : ∀ x ∈ qs, x ∈ ps := fun x hx => pm.mem_iff.mp (List.mem_append_right _ hx)
      have hlen : rs.length + qs.length = ps.length := by
        rw [← List.length_append]
        exact pm.length_eq
      refine ⟨_, rfl, by decide, fun t ht => ?_⟩
      have nlt : l ≠ t := ne_of_none el ht
      have s2 : But b H (upd H1 t (.lst [])) := s1.trans (But.new ht)
      refine ⟨.list (qs.map fun x : Vd => x.2), .list [], .lst (xs := qs.map fun x : Vd => x.1) (.of (by rw [upd_ne nlt]; exact el)) (dp_pairs (fun x hx => (hp x (hq x hx)).2 _ s2) fun x hx => (hp x (hq x hx)).1), .lst (.of upd_same) .nil, lay_list (fun d hd => ?_), by rfl, _, rfl, ?_⟩
      · obtain ⟨x, hx, rfl⟩ := List.mem_map.mp hd
        exact (hp x (hq x hx)).1
      · rw [eqv_nil]
        cases qs with
        | nil =>
          refine iteF ?_
          refine ⟨_, rfl, ?_⟩
          rw [List.append_nil] at pm
          refine q p _ rs pm hpn ?_ ?_ s2
          · rw [upd_ne (ne_of_none ep ht)]
            exact ep
          · have e : rs.length = ps.length := pm.length_eq
            rw [← e]
            exact B1.keep fun o e => by rw [upd_ne (ne_of_none e ht)]; exact e
        | cons y ys =>
          refine iteT ?_
          have hlen' : rs.length + (ys.length + 1) = ps.length := hlen
          refine ⟨fun σ' H' => ∃ m', m' < (y :: ys).length ∧ ∃ qs rs : List Vd, m' = qs.length ∧ σ' = [some (.ref b), some (.ref a), some (.ref l), some (.ref p)] ∧ H' l = some (.lst (qs.map (·.1))) ∧ H' p = some (.lst (rs.map (·.1))) ∧
            (rs ++ qs).Perm ps ∧ BoxAt H' b (n + rs.length) ∧ But b H H', fun _ _ h => h, ?_⟩
          have ep2 : upd H1 t (.lst []) p = some (.lst (rs.map (·.1))) := by
            rw [upd_ne (ne_of_none ep ht)]
            exact ep
          have el2 : upd H1 t (.lst []) l = some (.lst ((y :: ys).map (·.1))) := by
            rw [upd_ne nlt]
            exact el
          have B2 : BoxAt (upd H1 t (.lst [])) b (n + rs.length) := B1.keep fun o e => by rw [upd_ne (ne_of_none e ht)]; exact e
          refine ⟨_, rfl, .inl ⟨rfl, _, .of ep2⟩, _, rfl, .inl ⟨rfl, _, .of el2⟩, _, rfl, _, rfl, l, _, rfl, .inl (.of el2), b, _, n + rs.length, rfl, B2, by omega, ?_, ?_, fun r H3 r0 r1 B3 s3 => ?_⟩
          · rw [List.length_map]
            show (0 : Int) < ((ys.length + 1 : Nat) : Int)
            omega
          · rw [List.length_map]
            show ((ys.length + 1 : Nat) : Int) < _
            have : ys.length + 1 ≤ 100000 := by omega
            omega
          · obtain ⟨j, rfl, hj⟩ := draw_at r0 r1 (n := (y :: ys).length) (by rw [List.length_map])
            have el3 : H3 l = some (.lst ((y :: ys).map (·.1))) := s3 _ _ nbl.symm el2
            have ep3 : H3 p = some (.lst (rs.map (·.1))) := s3 _ _ nbp.symm ep2
            have hjm : j < ((y :: ys).map (·.1)).length := by
              rw [List.length_map]
              exact hj
            have hj5 : j < 100000 := by
              have e : (y :: ys).length = ys.length + 1 := rfl
              omega
            refine ⟨l, _, (j : Int), j, ((y :: ys)[j]).1, rfl, rfl, el3, by omega, by omega, ?_, ?_, ?_⟩
            · have := PySem.seqIndex_of (k := (j : Int)) (n := ((y :: ys).map (·.1)).length) (by omega) (by omega)
              rw [this]
              rfl
            · rw [List.getElem?_map, List.getElem?_eq_getElem hj]
              rfl
            · refine ⟨p, _, _, rfl, rfl, by rw [upd_ne nlp.symm]; exact ep3, ?_, ?_⟩
              · rw [List.length_map]
                exact big (by omega)
              · refine ⟨((y :: ys).eraseIdx j).length, ?_, (y :: ys).eraseIdx j, rs ++ [(y :: ys)[j]], rfl, rfl, ?_, ?_, ?_, ?_, ?_⟩
                · rw [List.length_eraseIdx, if_pos hj]
                  show (ys.length + 1) - 1 < ys.length + 1
                  omega
                · rw [upd_ne nlp, upd_same, erase_map]
                · rw [upd_same, List.map_append]
                  rfl
                · rw [List.append_assoc]
                  refine List.Perm.trans (List.Perm.append_left rs ?_) pm
                  exact erase_perm hj
                · rw [List.length_append, List.length_singleton]
                  exact B3.keep fun o e => by rw [upd_ne nbp, upd_ne nbl]; exact e
                · intro c o nc e
                  have e3 := (s2.trans s3) c o nc e
                  rw [upd_ne (ne_of_none e hpn), upd_ne (ne_of_none e hl)]
                  exact e3
end
end G
set_option Elab.async false
set_option linter.all false
set_option maxRecDepth 100000
set_option maxHeartbeats 2000000
/-! V4: drawn names. -/
namespace G
open PySem PySem.Spec PyProof.Rows L2
abbrev sNames : Stmt := topS 31
abbrev nNames : List Str := ["_law_box_here", "_law_many", "_law_letters", "_law_way", "_law_cut", "_law_begin", "_law_step", "_law_stem", "_law_k", "_law_found", "_law_letter", "_law_name"]
theorem scNames : FnScope nNames ["_law_box_here", "_law_many"] (defScope sNames) := ⟨rfl, rfl, rfl, by decide +kernel, rfl, by decide +kernel, by decide +kernel⟩
abbrev cs (z : Str) : List Nat := z.cps.toList
theorem cs_len (z : Str) : (cs z).length = z.length := by simp [cs, Str.length]
theorem cs_app (a b : Str) : cs (a ++ b) = cs a ++ cs b := TL.tl_append a b
theorem app_len (a b : Str) : (a ++ b).length = a.length + b.length := strLen_append a b
theorem small_size {n : Nat} (h : n ≤ 7000) : n ≤ sizeLine := by
  rw [sizeLine_eq]
  omega
theorem box_new {H : Hp} {b p : Addr} {n : Nat} {o : HO} (B : BoxAt H b n) (h : H p = none) : BoxAt (upd H p o) b n := B.keep fun o' e => Same.new h b o' e
theorem box_ne {H : Hp} {b p : Addr} {n : Nat} (B : BoxAt H b n) (h : H p = none) : p ≠ b := fun z => by
  obtain ⟨_, _, _, e, _⟩ := B
  rw [← z, h] at e
  cases e
theorem box_upd {H : Hp} {b p : Addr} {n : Nat} {o : HO} (B : BoxAt H b n) (h : p ≠ b) : BoxAt (upd H p o) b n := by
  obtain ⟨x, y, z, e, r⟩ := B
  exact ⟨x, y, z, (upd_ne h.symm).trans e, r⟩
/-- a store at what was new -/
theorem but_upd {b p : Addr} {H H1 : Hp} {o : HO} (k : But b H H1) (h : H p = none) : But b H (upd H1 p o) := fun c u n e => by
  rw [upd_ne (ne_of_none e h)]
  exact k c u n e
theorem free_of {b p : Addr} {H H' : Hp} (k : But b H H') (n : p ≠ b) (h : H' p = none) : H p = none := by
  cases e : H p with
  | none => rfl
  | some o =>
    rw [k p o n e] at h
    cases h
/-! ### names -/
def LowZ (z : Str) : Prop := ∀ c ∈ cs z, 97 ≤ c ∧ c ≤ 122
def NameZ (z : Str) : Prop := LowZ z ∧ 1 ≤ z.length ∧ z.length ≤ 8
def NameI (y : Str) (i : Nat) : Prop := LowZ y ∧ 1 ≤ y.length ∧ y.length ≤ 8 ∧ (26 ≤ i → y.length ≤ 7)
theorem LowZ.app {a b : Str} (h1 : LowZ a) (h2 : LowZ b) : LowZ (a ++ b) := fun c hc => by
  rw [cs_app] at hc
  rcases List.mem_append.mp hc with h | h
  · exact h1 c h
  · exact h2 c h
theorem LowZ.cut {a : Str} (h : LowZ a) (lo hi : Option Int) : LowZ (cutS a lo hi) := fun c hc => by
  have hc' : c ∈ ((cs a).drop _).take _ := hc
  exact h c (List.mem_of_mem_drop (List.mem_of_mem_take hc'))
theorem low_one {c : Nat} (h : 97 ≤ c ∧ c ≤ 122) : LowZ ⟨#[c]⟩ := fun x hx => by
  have : x ∈ [c] := hx
  rw [List.mem_singleton.mp this]
  exact h
theorem LowZ.lay {z : Str} (h : LowZ z) : lay (.str z) := by
  refine ⟨rfl, ?_, Nat.zero_le _⟩
  show z.cps.all (· < 0x110000) = true
  rw [Array.all_eq_true]
  intro i hi
  have := h z.cps[i] (by simp [cs])
  exact decide_eq_true (by omega)
abbrev abc : Str := "abcdefghijklmnopqrstuvwxyz"
theorem abc_low : LowZ abc := by
  have h : ((cs abc).all fun c => decide (97 ≤ c ∧ c ≤ 122)) = true := by decide +kernel
  exact fun c hc => of_decide_eq_true (List.all_eq_true.mp h c hc)
theorem abc_at {j : Nat} (hj : j < 26) : ∃ c, abc.cps[j]? = some c ∧ 97 ≤ c ∧ c ≤ 122 := by
  have h1 : j < abc.cps.size := hj
  refine ⟨abc.cps[j], by simp [h1], abc_low _ ?_⟩
  simp [cs]
theorem cut_first (z : Str) (k : Nat) : cs (cutS z none (some (k : Int))) = (cs z).take k := by
  show ((cs z).drop (HT.sIx z.length 0 none)).take (HT.sIx z.length z.length (some (k : Int)) - HT.sIx z.length 0 none) = _
  rw [HT.sIx_none, HT.sIx_nat z.length z.length k, List.drop_zero, ← cs_len, Nat.sub_zero]
  by_cases h : k ≤ (cs z).length
  · rw [Nat.min_eq_left h]
  · rw [Nat.min_eq_right (by omega), List.take_length, List.take_of_length_le (by omega)]
theorem cut_len (z : Str) (k : Nat) : (cutS z none (some (k : Int))).length = min k z.length := by
  rw [← cs_len, cut_first, List.length_take, cs_len]
def spNames : Sp := fun vs H Q _ => ∃ (b : Addr) (m n : Nat), vs = [.ref b, .int (m : Int)] ∧ BoxAt H b n ∧ n ≤ 50000 ∧ m ≤ 100 ∧
  ∀ (p : Addr) (H' : Hp) (zs : List Str), zs.length = m → (∀ z ∈ zs, NameZ z) → H p = none → H' p = some (.lst (zs.map V.str)) → BoxAt H' b (n + 11 + m) → But b H H' → Q (.ref p) H'
section
variable {P : Program} {w : World} {K : PySem.W.Frag} {mg : Str → Option Value} {base : Heap}
theorem ok_names {f fT fM : Addr} {fd fdT fdM : FuncData} (F : Fun K "_law_names" "_law_names" sNames f fd) (T : Fun K "_law_take" "_law_take" sTake fT fdT) (bT : Binds K fdT ["_law_box_here", "_law_many"] []) (gT : mg "_law_take" = some (.ref fT))
    (M : Fun K "_law_mixed" "_law_mixed" sMixed fM fdM) (bM : Binds K fdM ["_law_box_here", "_law_some"] []) (gM : mg "_law_mixed" = some (.ref fM)) (ml : mg "len" = none) (mL : mg "list" = none) (mr : mg "range" = none) :
    FnOk P w K mg base CX0 3 f fd ["_law_box_here", "_law_many"] spNames := by
  have GT : FnOk P w K mg base CX0 1 fT fdT ["_law_box_here", "_law_many"] spTake := ok_take T
  have GM : FnOk P w K mg base CX0 2 fM fdM ["_law_box_here", "_law_some"] (spMixed K) := ok_mixed M T bT gT ml mL
  refine F.ok scNames (fun vs H Q E h => ?_) (fun cdv A outer s H vs Q E hr h => ?_)
  · obtain ⟨b, m, n, rfl, _⟩ := h
    rfl
  · obtain ⟨b, m, n, rfl, B, hn, hm, q⟩ := h
    have hr1 := hr.mono (show 1 ≤ 2 by decide)
    obtain ⟨ts, psl, qsl⟩ : ∃ t, PSs (cxOf CX0 P w K mg base nNames "_law_names" (defScope sNames) f cdv A outer s H E).nox ((defBody sNames).drop 5) t ∧
        ∀ (way cut bg st : Nat) (z : Str) (x8 : Option V) (H1 : Hp), cut ≤ 7 → (26 < m → cut ≤ 6) → bg < 26 → st ≤ 17 → LowZ z → z.length = 7 → BoxAt H1 b (n + 11) → But b H H1 → t { nx := fun _ H' => Q .non H', rt := Q } [some (.ref b), some (.int (m : Int)), some (.str abc), some (.int (way : Int)), some (.int (cut : Int)), some (.int (bg : Int)), some (.int (st : Int)), some (.str z), x8, none, none, none] H1 := by
      refine ⟨_, pss_cons (ps_set (i := 9) scNames.nd rfl (.inl rfl) (pe_lst pa_nil))
      (pss_cons (ps_for PassesOwn.never rfl (pi_range1 rfl mr (pa_cons (pv 1) pa_nil)) (pg_name (i := 8) scNames.nd rfl (.inl rfl))
        (pss_cons (ps_set (i := 10) scNames.nd rfl (.inl rfl) (pe_item_str (pv 2) (pe_op op_mod (pe_op op_add (pv 5) (pe_op op_mul (pv 6) (pv 8))) pe_int) (fun _ _ => rfl)))
        (pss_cons (ps_set (i := 11) scNames.nd rfl (.inl rfl) (pe_op op_add_str (pe_slice sl_str (pv 7) po_none (po_some (pv 4))) (pv 10)))
        (pss_cons (ps_if (PW.pt (pw_and (pt_cmpR op_eq (pv 3) pe_int (nomark _)) (pw_and1 (pt_cmpR op_lt (pv 1) pe_int (nomark _)))))
          (pss_one (ps_set (i := 11) scNames.nd rfl (.inl rfl) (pe_op op_add_str (pv 10) (pe_slice sl_str (pv 7) po_none (po_some (pe_op op_mod (pe_op op_add (pv 4) (pe_op op_mul pe_int (pv 8))) pe_int)))))) pss_nil)
        (pss_one (ps_expr (pe_bm PySem.F.plainAttrs_list PySem.F.slot_list_append PySem.F.type_list_append mt_append (pv 9) (pa_cons
          (pe_ifExp (pt_cmpR op_lt (pv 8) pe_int (nomark _)) (pv 11) (pe_op op_add_str (pv 11) (pe_item_str (pv 2) (pe_op op_fdiv (pv 8) pe_int) (fun _ _ => rfl)))) pa_nil))))))))
      (pss_one (ps_ret (pv 9)))), ?_⟩
      intro way cut bg st z x8 H1 hcut hcut2 hbg hst hz hl B1 k1
      refine ⟨Nat.zero_le _, fun D hD => ?_⟩
      have nD := box_ne B1 hD
      have fD := free_of k1 nD hD
      refine ⟨_, rfl, _, rfl, by omega, by omega, ?_⟩
      rw [Int.toNat_natCast m]
      refine for_range (lo := 0) (n := m) (fun i σ H2 => ∃ (zs : List Str) (x8 x10 x11 : Option V), σ = [some (.ref b), some (.int (m : Int)), some (.str abc), some (.int (way : Int)), some (.int (cut : Int)), some (.int (bg : Int)), some (.int (st : Int)), some (.str z), x8, some (.ref D), x10, x11] ∧
        H2 D = some (.lst (zs.map V.str)) ∧ zs.length = i ∧ (∀ y ∈ zs, NameZ y) ∧ BoxAt H2 b (n + 11) ∧ But b H H2) ?_ ?_ ?_
      · exact ⟨[], x8, none, none, rfl, upd_same, rfl, (fun y h => nomatch h), box_new B1 hD, but_upd k1 fD⟩
      · rintro i σ H2 hi ⟨zs, x8, x10, x11, rfl, e2, hlz, hy, B2, k2⟩
        have r := emod_in ((bg : Int) + (st : Int) * (0 + (i : Int))) 26 (by decide)
        obtain ⟨j, ej, hj⟩ := draw_at r.1 r.2 (n := 26) rfl
        obtain ⟨c, hc, c97⟩ := abc_at hj
        refine ⟨_, rfl, _, rfl, _, rfl, _, rfl, _, _, rfl, rfl, .inl ⟨by omega, by omega⟩, _, _, rfl, rfl, _, _, rfl, rfl, (by show (0 : Int) < 26; decide), _, _, c, rfl, rfl, r.1, by omega, (show _ < ((26 : Nat) : Int) by omega), (by rw [ej]; exact hc), ?_⟩
        have lo := low_one c97
        have len1 : (⟨#[c]⟩ : Str).length = 1 := rfl
        generalize (⟨#[c]⟩ : Str) = lt at lo len1
        have cl := cut_len z cut
        refine ⟨_, rfl, _, rfl, _, rfl, z, rfl, small_size (by omega), _, rfl, _, _, rfl, rfl, small_size (by omega), ?_⟩
        have Y0 : LowZ (cutS z none (some (cut : Int)) ++ lt) ∧ 1 ≤ (cutS z none (some (cut : Int)) ++ lt).length ∧ (cutS z none (some (cut : Int)) ++ lt).length ≤ 8 ∧ (26 ≤ i → (cutS z none (some (cut : Int)) ++ lt).length ≤ 7) := by
          rw [app_len]
          exact ⟨(hz.cut _ _).app lo, by omega, by omega, fun _ => by omega⟩
        have r8 := emod_in ((cut : Int) + 3 * (0 + (i : Int))) 8 (by decide)
        refine ⟨_, rfl, rfl, _, rfl, ite2 (fun _ => ?_) (fun _ => ?_)⟩
        · refine ⟨_, rfl, _, _, rfl, rfl, _, rfl, ite2 (fun h27 => ?_) (fun _ => ?_)⟩
          · have hm27 : (m : Int) < 27 := of_decide_eq_true h27
            obtain ⟨j8, ej8, hj8⟩ := draw_at r8.1 r8.2 (n := 8) rfl
            have cl8 := cut_len z j8
            refine ⟨_, rfl, _, rfl, _, rfl, _, rfl, _, _, rfl, rfl, .inl ⟨by decide, by decide⟩, _, _, rfl, rfl, _, _, rfl, rfl, (by show (0 : Int) < 8; decide), _, rfl, z, rfl, small_size (by omega), _, _, rfl, rfl, ?_, ?_⟩
            · rw [ej8, len1]
              exact small_size (by omega)
            have Y : NameI (lt ++ cutS z none (some (((cut : Int) + 3 * (0 + (i : Int))) % 8))) i := by
              unfold NameI
              rw [ej8, app_len]
              exact ⟨lo.app (hz.cut _ _), by omega, by omega, fun h => by omega⟩
            revert Y
            generalize (lt ++ cutS z none (some (((cut : Int) + 3 * (0 + (i : Int))) % 8))) = y
            intro Y
            obtain ⟨y1, y2, y3, y4⟩ := Y
            have done : ∀ (u : Str) (x8 x10 x11 : Option V), NameZ u → ∃ (zs' : List Str) (x8' x10' x11' : Option V), [some (V.ref b), some (.int (m : Int)), some (.str abc), some (.int (way : Int)), some (.int (cut : Int)), some (.int (bg : Int)), some (.int (st : Int)), some (.str z), x8, some (.ref D), x10, x11] = [some (.ref b), some (.int (m : Int)), some (.str abc), some (.int (way : Int)), some (.int (cut : Int)), some (.int (bg : Int)), some (.int (st : Int)), some (.str z), x8', some (.ref D), x10', x11'] ∧
                upd H2 D (.lst (zs.map V.str ++ [.str u])) D = some (.lst (zs'.map V.str)) ∧ zs'.length = i + 1 ∧ (∀ y ∈ zs', NameZ y) ∧ BoxAt (upd H2 D (.lst (zs.map V.str ++ [.str u]))) b (n + 11) ∧ But b H (upd H2 D (.lst (zs.map V.str ++ [.str u]))) := fun u x8 x10 x11 hu => by
              refine ⟨zs ++ [u], x8, x10, x11, rfl, ?_, ?_, fun v hv => ?_, box_upd B2 nD, but_upd k2 fD⟩
              · rw [upd_same, List.map_append]
                rfl
              · rw [List.length_append, hlz]
                rfl
              · rcases List.mem_append.mp hv with hv | hv
                · exact hy v hv
                · rw [List.mem_singleton.mp hv]
                  exact hu
            have room : (zs.map V.str).length < sizeLine := by
              rw [List.length_map]
              exact small1000 (by omega)
            refine ⟨_, rfl, .inl ⟨rfl, _, .of e2⟩, _, rfl, _, _, rfl, rfl, _, rfl, ite2 (fun h26 => ?_) (fun h26 => ?_)⟩
            · exact ⟨_, rfl, D, _, _, rfl, rfl, e2, room, done y _ _ _ ⟨y1, y2, y3⟩⟩
            · have h26' : ¬ ((0 + (i : Int)) < 26) := fun h => h26 (decide_eq_true h)
              have yl := y4 (by omega)
              have hd : (0 + (i : Int)) / 26 = ((i / 26 : Nat) : Int) := by omega
              obtain ⟨c2, hc2, c297⟩ := abc_at (j := i / 26) (by omega)
              refine ⟨_, rfl, _, rfl, _, rfl, _, _, rfl, rfl, ⟨by decide, by decide⟩, _, _, c2, rfl, rfl, by omega, by omega, (show _ < ((26 : Nat) : Int) by omega), (by rw [hd]; exact hc2), _, _, rfl, rfl, ?_, D, _, _, rfl, rfl, e2, room, ?_⟩
              · show y.length + 1 ≤ sizeLine
                exact small_size (by omega)
              · have l2 : (y ++ (⟨#[c2]⟩ : Str)).length = y.length + 1 := app_len y ⟨#[c2]⟩
                exact done (y ++ ⟨#[c2]⟩) _ _ _ ⟨y1.app (low_one c297), by omega, by omega⟩
          · have Y : NameI (cutS z none (some (cut : Int)) ++ lt) i := Y0
            revert Y
            generalize (cutS z none (some (cut : Int)) ++ lt) = y
            intro Y
            obtain ⟨y1, y2, y3, y4⟩ := Y
            have done : ∀ (u : Str) (x8 x10 x11 : Option V), NameZ u → ∃ (zs' : List Str) (x8' x10' x11' : Option V), [some (V.ref b), some (.int (m : Int)), some (.str abc), some (.int (way : Int)), some (.int (cut : Int)), some (.int (bg : Int)), some (.int (st : Int)), some (.str z), x8, some (.ref D), x10, x11] = [some (.ref b), some (.int (m : Int)), some (.str abc), some (.int (way : Int)), some (.int (cut : Int)), some (.int (bg : Int)), some (.int (st : Int)), some (.str z), x8', some (.ref D), x10', x11'] ∧
                upd H2 D (.lst (zs.map V.str ++ [.str u])) D = some (.lst (zs'.map V.str)) ∧ zs'.length = i + 1 ∧ (∀ y ∈ zs', NameZ y) ∧ BoxAt (upd H2 D (.lst (zs.map V.str ++ [.str u]))) b (n + 11) ∧ But b H (upd H2 D (.lst (zs.map V.str ++ [.str u]))) := fun u x8 x10 x11 hu => by
              refine ⟨zs ++ [u], x8, x10, x11, rfl, ?_, ?_, fun v hv => ?_, box_upd B2 nD, but_upd k2 fD⟩
              · rw [upd_same, List.map_append]
                rfl
              · rw [List.length_append, hlz]
                rfl
              · rcases List.mem_append.mp hv with hv | hv
                · exact hy v hv
                · rw [List.mem_singleton.mp hv]
                  exact hu
            have room : (zs.map V.str).length < sizeLine := by
              rw [List.length_map]
              exact small1000 (by omega)
            refine ⟨_, rfl, .inl ⟨rfl, _, .of e2⟩, _, rfl, _, _, rfl, rfl, _, rfl, ite2 (fun h26 => ?_) (fun h26 => ?_)⟩
            · exact ⟨_, rfl, D, _, _, rfl, rfl, e2, room, done y _ _ _ ⟨y1, y2, y3⟩⟩
            · have h26' : ¬ ((0 + (i : Int)) < 26) := fun h => h26 (decide_eq_true h)
              have yl := y4 (by omega)
              have hd : (0 + (i : Int)) / 26 = ((i / 26 : Nat) : Int) := by omega
              obtain ⟨c2, hc2, c297⟩ := abc_at (j := i / 26) (by omega)
              refine ⟨_, rfl, _, rfl, _, rfl, _, _, rfl, rfl, ⟨by decide, by decide⟩, _, _, c2, rfl, rfl, by omega, by omega, (show _ < ((26 : Nat) : Int) by omega), (by rw [hd]; exact hc2), _, _, rfl, rfl, ?_, D, _, _, rfl, rfl, e2, room, ?_⟩
              · show y.length + 1 ≤ sizeLine
                exact small_size (by omega)
              · have l2 : (y ++ (⟨#[c2]⟩ : Str)).length = y.length + 1 := app_len y ⟨#[c2]⟩
                exact done (y ++ ⟨#[c2]⟩) _ _ _ ⟨y1.app (low_one c297), by omega, by omega⟩
        · have Y : NameI (cutS z none (some (cut : Int)) ++ lt) i := Y0
          revert Y
          generalize (cutS z none (some (cut : Int)) ++ lt) = y
          intro Y
          obtain ⟨y1, y2, y3, y4⟩ := Y
          have done : ∀ (u : Str) (x8 x10 x11 : Option V), NameZ u → ∃ (zs' : List Str) (x8' x10' x11' : Option V), [some (V.ref b), some (.int (m : Int)), some (.str abc), some (.int (way : Int)), some (.int (cut : Int)), some (.int (bg : Int)), some (.int (st : Int)), some (.str z), x8, some (.ref D), x10, x11] = [some (.ref b), some (.int (m : Int)), some (.str abc), some (.int (way : Int)), some (.int (cut : Int)), some (.int (bg : Int)), some (.int (st : Int)), some (.str z), x8', some (.ref D), x10', x11'] ∧
              upd H2 D (.lst (zs.map V.str ++ [.str u])) D = some (.lst (zs'.map V.str)) ∧ zs'.length = i + 1 ∧ (∀ y ∈ zs', NameZ y) ∧ BoxAt (upd H2 D (.lst (zs.map V.str ++ [.str u]))) b (n + 11) ∧ But b H (upd H2 D (.lst (zs.map V.str ++ [.str u]))) := fun u x8 x10 x11 hu => by
            refine ⟨zs ++ [u], x8, x10, x11, rfl, ?_, ?_, fun v hv => ?_, box_upd B2 nD, but_upd k2 fD⟩
            · rw [upd_same, List.map_append]
              rfl
            · rw [List.length_append, hlz]
              rfl
            · rcases List.mem_append.mp hv with hv | hv
              · exact hy v hv
              · rw [List.mem_singleton.mp hv]
                exact hu
          have room : (zs.map V.str).length < sizeLine := by
            rw [List.length_map]
            exact small1000 (by omega)
          refine ⟨_, rfl, .inl ⟨rfl, _, .of e2⟩, _, rfl, _, _, rfl, rfl, _, rfl, ite2 (fun h26 => ?_) (fun h26 => ?_)⟩
          · exact ⟨_, rfl, D, _, _, rfl, rfl, e2, room, done y _ _ _ ⟨y1, y2, y3⟩⟩
          · have h26' : ¬ ((0 + (i : Int)) < 26) := fun h => h26 (decide_eq_true h)
            have yl := y4 (by omega)
            have hd : (0 + (i : Int)) / 26 = ((i / 26 : Nat) : Int) := by omega
            obtain ⟨c2, hc2, c297⟩ := abc_at (j := i / 26) (by omega)
            refine ⟨_, rfl, _, rfl, _, rfl, _, _, rfl, rfl, ⟨by decide, by decide⟩, _, _, c2, rfl, rfl, by omega, by omega, (show _ < ((26 : Nat) : Int) by omega), (by rw [hd]; exact hc2), _, _, rfl, rfl, ?_, D, _, _, rfl, rfl, e2, room, ?_⟩
            · show y.length + 1 ≤ sizeLine
              exact small_size (by omega)
            · have l2 : (y ++ (⟨#[c2]⟩ : Str)).length = y.length + 1 := app_len y ⟨#[c2]⟩
              exact done (y ++ ⟨#[c2]⟩) _ _ _ ⟨y1.app (low_one c297), by omega, by omega⟩
      · rintro σ H2 ⟨zs, x8, x10, x11, rfl, e2, hlz, hy, B2, k2⟩
        exact ⟨_, rfl, q D H2 zs hlz hy fD e2 (B2.mono (by omega)) k2⟩
    obtain ⟨tl, pl, ql⟩ : ∃ t, PSs (cxOf CX0 P w K mg base nNames "_law_names" (defScope sNames) f cdv A outer s H E).nox ((defBody sNames).drop 2) t ∧
        ∀ (way cut bg : Nat) (H1 : Hp), cut ≤ 7 → (26 < m → cut ≤ 6) → bg < 26 → BoxAt H1 b (n + 3) → But b H H1 → t { nx := fun _ H' => Q .non H', rt := Q } [some (.ref b), some (.int (m : Int)), some (.str abc), some (.int (way : Int)), some (.int (cut : Int)), some (.int (bg : Int)), none, none, none, none, none, none] H1 := by
      refine ⟨_, pss_cons (ps_asg (pe_tup (pa_cons (pe_ix ix_list (pe_lst (pa_cons pe_int (pa_cons pe_int (pa_cons pe_int (pa_cons pe_int (pa_cons pe_int (pa_cons pe_int (pa_cons pe_int (pa_cons pe_int pa_nil)))))))))
          (pe_call GT hr1 rfl gT T.kp bT .nil pass0 (pa_cons (pv 0) (pa_cons pe_int pa_nil))) (fun _ _ => rfl)) (pa_cons pe_str pa_nil)))
        (pg_tup (by rfl) (pgs_cons (pg_name (i := 6) scNames.nd rfl (.inl rfl)) (pgs_cons (pg_name (i := 7) scNames.nd rfl (.inr rfl)) pgs_nil))))
      (pss_cons (ps_for PassesOwn.never rfl (pi_range1 rfl mr (pa_cons pe_int pa_nil)) (pg_name (i := 8) scNames.nd rfl (.inl rfl))
        (pss_one (ps_set (i := 7) scNames.nd rfl (.inr rfl) (pe_op op_add_str (pv 7) (pe_item_str (pv 2) (pe_call GT hr1 rfl gT T.kp bT .nil pass0 (pa_cons (pv 0) (pa_cons pe_int pa_nil))) (fun _ _ => rfl))))))
      (pss_cons (ps_if (PW.pt (pw_and (pt_cmpR op_eq (pv 3) pe_int (nomark _)) (pw_and1 (pt_cmpR op_lt (pv 1) pe_int (nomark _)))))
        (pss_one (ps_ret (pe_call GM hr rfl gM M.kp bM .nil pass0 (pa_cons (pv 0) (pa_cons (pe_lc (own := [("_law_k", 8)]) (g := gName 8) (tt := tYes) (by rfl) scNames.nd (pi_range1 rfl mr (pa_cons (pv 1) pa_nil))
          (blkOk_by (own := [("_law_k", 8)]) (N := nNames) (sc := defScope sNames) (by decide +kernel)) (fun _ _ _ _ _ => pg_name (i := 8) scNames.nd rfl (.inl rfl)) (fun _ _ _ _ _ => pts_nil)
          (fun _ _ _ _ _ => pe_slice sl_str (pe_op op_add_str (pv 7) (pe_item_str (pv 2) (pv 5) (fun _ _ => rfl))) po_none (po_some (pe_op op_add (pv 8) pe_int)))) pa_nil))))) pss_nil)
      psl)), ?_⟩
      intro way cut bg H1 hcut hcut2 hbg B1 k1
      refine ⟨(by show 8 ≤ sizeLine; decide), fun p1 hp1 => ?_⟩
      have np1 := box_ne B1 hp1
      refine ⟨_, rfl, b, 8, n + 3, rfl, box_new B1 hp1, by omega, by decide, by decide, fun r H2 r0 r1 B2 k2 => ?_⟩
      obtain ⟨j, rfl, hj⟩ := draw_at (n := 8) r0 r1 rfl
      have e2 := k2 _ _ np1 upd_same
      have kk2 : But b H H2 := (k1.trans (But.new hp1)).trans k2
      obtain ⟨st, hst, hst17⟩ : ∃ st : Nat, ([.int 1, .int 3, .int 5, .int 7, .int 9, .int 11, .int 15, .int 17] : List V)[j]? = some (.int (st : Int)) ∧ st ≤ 17 := by
        match j, hj with
        | 0, _ => exact ⟨1, rfl, by decide⟩
        | 1, _ => exact ⟨3, rfl, by decide⟩
        | 2, _ => exact ⟨5, rfl, by decide⟩
        | 3, _ => exact ⟨7, rfl, by decide⟩
        | 4, _ => exact ⟨9, rfl, by decide⟩
        | 5, _ => exact ⟨11, rfl, by decide⟩
        | 6, _ => exact ⟨15, rfl, by decide⟩
        | 7, _ => exact ⟨17, rfl, by decide⟩
      refine ⟨p1, _, _, .int (st : Int), rfl, rfl, .of e2, atI_nat hst, (by show 2 ≤ sizeLine; decide), fun p2 hp2 => ?_⟩
      have np2 := box_ne B2 hp2
      refine ⟨p2, _, rfl, .of upd_same, rfl, _, _, rfl, _, _, rfl, rfl, ?_⟩
      have B3 : BoxAt (upd H2 p2 (.tup [.int (st : Int), .str ""])) b (n + 4) := box_new B2 hp2
      have k3 : But b H (upd H2 p2 (.tup [.int (st : Int), .str ""])) := kk2.trans (But.new hp2)
      generalize upd H2 p2 (.tup [.int (st : Int), .str ""]) = H3 at B3 k3
      -- the stem
      refine ⟨_, rfl, by decide, by decide, ?_⟩
      refine for_range (lo := 0) (n := 7) (fun i σ H4 => ∃ (z : Str) (x8 : Option V), σ = [some (.ref b), some (.int (m : Int)), some (.str abc), some (.int (way : Int)), some (.int (cut : Int)), some (.int (bg : Int)), some (.int (st : Int)), some (.str z), x8, none, none, none] ∧ LowZ z ∧ z.length = i ∧ BoxAt H4 b (n + 4 + i) ∧ But b H H4) ?_ ?_ ?_
      · exact ⟨"", none, rfl, (fun c h => nomatch h), rfl, B3, k3⟩
      · rintro i σ H4 hi ⟨z, x8, rfl, hz, hl, B4, k4⟩
        refine ⟨_, rfl, _, rfl, _, rfl, b, 26, n + 4 + i, rfl, B4, by omega, by decide, by decide, fun r H5 r0 r1 B5 k5 => ?_⟩
        obtain ⟨j, rfl, hj⟩ := draw_at (n := 26) r0 r1 rfl
        obtain ⟨c, hc, c97⟩ := abc_at hj
        refine ⟨_, _, c, rfl, rfl, by omega, by omega, (show ((j : Nat) : Int) < ((26 : Nat) : Int) by omega), hc, ?_⟩
        refine ⟨_, _, rfl, rfl, ?_, ?_⟩
        · show z.length + 1 ≤ sizeLine
          rw [sizeLine_eq]
          omega
        · refine ⟨z ++ ⟨#[c]⟩, _, rfl, hz.app (low_one c97), ?_, B5, k4.trans k5⟩
          rw [app_len, hl]
          rfl
      · rintro σ H4 ⟨z, x8, rfl, hz, hl, B4, k4⟩
        -- from here on two ways
        have namesOf : ∀ (zs : List Str) (qs : List Vd), qs.Perm (zs.map fun z => (V.str z, PyData.str z)) → (∀ z ∈ zs, NameZ z) →
            ∃ ys : List Str, qs.map (·.1) = ys.map V.str ∧ ys.length = zs.length ∧ ∀ y ∈ ys, NameZ y := fun zs qs pm hz => by
          have each : ∀ x ∈ qs, ∃ y, x = (V.str y, PyData.str y) ∧ NameZ y := fun x hx => by
            obtain ⟨y, hy, e⟩ := List.mem_map.mp (pm.mem_iff.mp hx)
            exact ⟨y, e.symm, hz y hy⟩
          have hlen : qs.length = zs.length := by
            rw [pm.length_eq, List.length_map]
          rw [← hlen]
          clear pm hlen
          induction qs with
          | nil => exact ⟨[], rfl, rfl, fun y hy => nomatch hy⟩
          | cons x qs ih =>
            obtain ⟨y, rfl, hy⟩ := each x List.mem_cons_self
            obtain ⟨ys, e1, e2, e3⟩ := ih fun x hx => each x (List.mem_cons_of_mem _ hx)
            refine ⟨y :: ys, ?_, congrArg (· + 1) e2, fun u hu => ?_⟩
            · rw [List.map_cons, e1]
              rfl
            · rcases List.mem_cons.mp hu with rfl | hu
              · exact hy
              · exact e3 u hu
        have mInt : (m : Int).toNat = m := Int.toNat_natCast m
        refine ⟨_, rfl, rfl, _, rfl, ite2 (fun _ => ?_) (fun _ => ?_)⟩
        · refine ⟨_, rfl, _, _, rfl, rfl, _, rfl, ite2 (fun h9 => ?_) (fun _ => ?_)⟩
          · have hm9 : (m : Int) < 9 := of_decide_eq_true h9
            refine ⟨_, rfl, _, rfl, _, rfl, by omega, by omega, fun D hD => ?_⟩
            have nD := box_ne B4 hD
            have fD := free_of k4 nD hD
            rw [mInt]
            refine lc_range (lo := 0) (n := m) (fun i H5 => ∃ ys : List Str, H5 D = some (.lst (ys.map V.str)) ∧ ys.length = i ∧ (∀ y ∈ ys, NameZ y) ∧ BoxAt H5 b (n + 11) ∧ But b H H5) ?_ ?_ ?_
            · exact ⟨[], upd_same, rfl, (fun y h => nomatch h), box_new B4 hD, but_upd k4 fD⟩
            · rintro i H5 hi ⟨ys, e5, hl5, hy, B5, k5⟩
              refine ⟨rfl, ?_⟩
              unfold tYes
              dsimp only
              rw [if_pos rfl]
              obtain ⟨c, hc, c97⟩ := abc_at hbg
              refine ⟨_, rfl, _, rfl, _, rfl, _, _, c, rfl, rfl, by omega, by omega, (show ((bg : Nat) : Int) < ((26 : Nat) : Int) by omega), hc, _, _, rfl, rfl, ?_, ?_⟩
              · show z.length + 1 ≤ sizeLine
                rw [sizeLine_eq]
                omega
              have lz : (z ++ ⟨#[c]⟩).length = 8 := by
                rw [app_len, hl]
                rfl
              refine ⟨_, rfl, _, _, rfl, rfl, _, rfl, _, rfl, small_size (by omega), ?_⟩
              have e0 : (0 + (i : Int) + 1 : Int) = ((i + 1 : Nat) : Int) := by omega
              rw [e0]
              have cl := cut_len (z ++ ⟨#[c]⟩) (i + 1)
              refine ⟨_, e5, ?_, ys ++ [cutS (z ++ ⟨#[c]⟩) none (some ((i + 1 : Nat) : Int))], ?_, ?_, ?_, ?_, ?_⟩
              · rw [List.length_map]
                exact small1000 (by omega)
              · rw [upd_same, List.map_append]
                rfl
              · rw [List.length_append, hl5]
                rfl
              · intro y h
                rcases List.mem_append.mp h with h | h
                · exact hy y h
                · rw [List.mem_singleton.mp h]
                  exact ⟨(hz.app (low_one c97)).cut _ _, by omega, by omega⟩
              · exact box_upd B5 nD
              · exact but_upd k5 fD
            · rintro H5 ⟨ys, e5, hl5, hy, B5, k5⟩
              refine ⟨b, D, n + 11, ys.map fun z => (V.str z, PyData.str z), rfl, B5, ?_, .inl (.of ?_), ?_, fun p H6 qs pm np e6 B6 k6 => ?_⟩
              · rw [List.length_map]
                omega
              · rw [e5, List.map_map]
                rfl
              · intro x hx
                obtain ⟨y, hyy, rfl⟩ := List.mem_map.mp hx
                exact ⟨(hy y hyy).1.lay, fun H' _ => .str y⟩
              · obtain ⟨us, u1, u2, u3⟩ := namesOf ys qs pm hy
                rw [u1] at e6
                rw [List.length_map, hl5] at B6
                exact q p H6 us (u2.trans hl5) u3 (free_of k5 (box_ne B5 np) np) e6 B6 (k5.trans k6)
          · exact qsl way cut bg st z x8 H4 hcut hcut2 hbg hst17 hz hl B4 k4
        · exact qsl way cut bg st z x8 H4 hcut hcut2 hbg hst17 hz hl B4 k4
    refine ⟨_, pss_cons (ps_set (i := 2) scNames.nd rfl (.inr rfl) pe_str)
      (pss_cons (ps_asg (pe_tup (pa_cons (pe_call GT hr1 rfl gT T.kp bT .nil pass0 (pa_cons (pv 0) (pa_cons pe_int pa_nil)))
          (pa_cons (pe_call GT hr1 rfl gT T.kp bT .nil pass0 (pa_cons (pv 0) (pa_cons (pe_ifExp (pt_cmpR op_lt (pv 1) pe_int (nomark _)) pe_int pe_int) pa_nil)))
          (pa_cons (pe_call GT hr1 rfl gT T.kp bT .nil pass0 (pa_cons (pv 0) (pa_cons pe_int pa_nil))) pa_nil))))
        (pg_tup (by rfl) (pgs_cons (pg_name (i := 3) scNames.nd rfl (.inl rfl)) (pgs_cons (pg_name (i := 4) scNames.nd rfl (.inl rfl)) (pgs_cons (pg_name (i := 5) scNames.nd rfl (.inr rfl)) pgs_nil))))) pl), ?_⟩
    refine ⟨_, rfl, b, 4, n, rfl, B, by omega, by decide, by decide, fun way H1 w0 w1 B1 k1 => ?_⟩
    obtain ⟨way, rfl, _⟩ := draw_at (n := 4) w0 w1 rfl
    refine ⟨_, rfl, _, rfl, _, _, rfl, rfl, _, rfl, ite2 (fun hm27 => ?_) (fun hm27 => ?_)⟩
    · refine ⟨b, 8, n + 1, rfl, B1, by omega, by decide, by decide, fun cut H2 c0 c1 B2 k2 => ?_⟩
      obtain ⟨cut, rfl, hcut⟩ := draw_at (n := 8) c0 c1 rfl
      refine ⟨_, rfl, b, 26, n + 2, rfl, B2, by omega, by decide, by decide, fun bg H3 g0 g1 B3 k3 => ?_⟩
      obtain ⟨bg, rfl, hbg⟩ := draw_at (n := 26) g0 g1 rfl
      refine ⟨(by show 3 ≤ sizeLine; decide), fun p hp => ⟨p, _, rfl, .of upd_same, rfl, _, _, rfl, _, _, rfl, _, _, rfl, rfl, ?_⟩⟩
      have hm' : (m : Int) < 27 := of_decide_eq_true hm27
      exact ql way cut bg _ (by omega) (by omega) hbg (box_new B3 hp) (((k1.trans k2).trans k3).trans (But.new hp))
    · refine ⟨b, 7, n + 1, rfl, B1, by omega, by decide, by decide, fun cut H2 c0 c1 B2 k2 => ?_⟩
      obtain ⟨cut, rfl, hcut⟩ := draw_at (n := 7) c0 c1 rfl
      refine ⟨_, rfl, b, 26, n + 2, rfl, B2, by omega, by decide, by decide, fun bg H3 g0 g1 B3 k3 => ?_⟩
      obtain ⟨bg, rfl, hbg⟩ := draw_at (n := 26) g0 g1 rfl
      refine ⟨(by show 3 ≤ sizeLine; decide), fun p hp => ⟨p, _, rfl, .of upd_same, rfl, _, _, rfl, _, _, rfl, _, _, rfl, rfl, ?_⟩⟩
      exact ql way cut bg _ (by omega) (by omega) hbg (box_new B3 hp) (((k1.trans k2).trans k3).trans (But.new hp))
end
end G
set_option Elab.async false
set_option linter.all false
set_option maxRecDepth 100000
set_option maxHeartbeats 2000000
/-! Q1: == and != by an own __eq__ with both answers, the right side of any kind. -/
namespace G
open PySem PySem.Spec PyProof.Rows L2
open Builtin in
theorem entry_ne {prog : Program} {w : World} {A : Around} {E : Value → Shared → Prop} {s : Shared} {K : PySem.W.Frag} {x C f : Addr} {ox : Obj} {od : Option Obj} {b : Value} {Q : Fin → Shared → Prop}
    (X : K.In s.heap) (I : PySem.W.InstAt s.heap x ox C od) (hu : A.units < cLine) (hs : PySem.W.findIn K (.ref C) "__eq__" = some (some (.ref f))) (hf : PySem.W.isFn K (.ref f) = true)
    (hcall : wpAny (model prog w) A (call (.ref f) [.ref x, b]) (fun v s' => ∃ k, v = .bool k ∧ Q (.done (.ret (.bool (!k)))) s') E s) :
    wpAny (model prog w) A (Builtin.«object.__ne__» ⟨[.ref x, b], []⟩) Q E s := by
  unfold Builtin.«object.__ne__»
  repeat (first
    | with_reducible refine wpAny_cRoomFor hu ?_
    | (refine wpAny_bind (m := callSpecialIfBound? (.ref x) (Str.ofString "__eq__") [b])
        (PySem.W.ifBound_K X I hs hf (wpAny_mono hcall (fun r s' hr => by
          obtain ⟨k, rfl, hq⟩ := hr
          repeat (first | exact hq | exact wpAny_pure hq | exact wpAny_truthy_bool hq | (refine wpAny_bind (m := truthy (.bool _)) (wpAny_truthy_bool ?_)) | wp_step)) fun _ _ e => e)))
    | wp_step)
/-- what == and != ask of the class at C -/
structure EqO (K : PySem.W.Frag) (C f : Addr) : Prop where
  eq : PySem.W.findIn K (.ref C) "__eq__" = some (some (.ref f))
  fn : PySem.W.isFn K (.ref f) = true
  ne : PySem.W.findIn K (.ref C) "__ne__" = some (some (.builtin "object.__ne__"))
  ob : PySem.W.mroIn K C (.type "object") = some true
theorem ne_K {prog : Program} {w : World} {A : Around} {E : Value → Shared → Prop} {s : Shared} {K : PySem.W.Frag} {x C L f : Addr} {h₀ : Heap} {m : Str → Option Value} {ox : Obj} {od : Option Obj} {b tb : Value} {Q : Value → Shared → Prop} (hu : A.units + 1 < cLine) (hFr : Fr h₀ L s.heap m) (X₀ : K.In h₀)
    (I : PySem.W.InstAt s.heap x ox C od) (hb : PySem.W.Looks (model prog w) s.heap (typeOf b) tb) (hn : PySem.W.notFirst K C tb = true) (e : EqO K C f)
    (h : wpAny (model prog w) A.in1 (call (.ref f) [.ref x, b]) (fun v s' => ∃ k, v = .bool k ∧ Q (.bool (!k)) s') E s) : wpAny (model prog w) A (richCompare .NotEq (.ref x) b) Q E s := by
  have X := X₀.keeps hFr.keep
  have sp : PySem.W.Looks (model prog w) s.heap (specialOf (.ref x) "__ne__") (some (.builtin "object.__ne__")) := I.type.andThen (PySem.W.looks_findIn X e.ne)
  have iv : PySem.W.Looks (model prog w) s.heap (isInstance (.ref x) (.type "object")) true := I.type.andThen (PySem.W.looks_mroIn X e.ob)
  have one : wpAny (model prog w) A (tryCompare (.ref x) "__ne__" b) (fun r s' => ∃ v, r = some v ∧ Q v s') E s := by
    unfold tryCompare
    refine wpAny_bind (NtL.csib sp (F.cmp_object.ne.bind _) (wpAny_call (codeAny_call_builtin F.cmp_object.ne.plain F.cmpEntry_ne
      (PySem.W.check_slot F.cmpKind_ne F.cmpSplit_ne iv (F.cmpArgs_ne _ _) (entry_ne (A := A.in1) X I hu e.eq e.fn (wpAny_mono h (fun v s' hv => ?_) fun _ _ z => z))))))
    obtain ⟨k, rfl, hq⟩ := hv
    first | exact ⟨k, rfl, wpAny_pure ⟨_, rfl, hq⟩⟩ | exact ⟨k, rfl, _, rfl, hq⟩
  unfold richCompare
  simp only [oneThing_ref]
  refine wpAny_holding (wpAny_bind (wpAny_cRoomFor (Nat.lt_of_succ_lt hu) ?_))
  rw [cmpInfo_NotEq]
  dsimp only
  refine wpAny_bind (I.type.here (wpAny_bind (hb.here ?_)))
  split
  · rename_i q
    have e : PySem.W.subIn K tb (.ref C) = some false := by
      rcases Bool.or_eq_true_iff.mp hn with e | e
      · rw [beq_iff_eq.mp e] at q; simp at q
      · exact beq_iff_eq.mp e
    refine wpAny_bind ((PySem.W.looks_subIn X e).here ?_)
    simp only [Bool.false_eq_true, if_false]
    refine wpAny_bind (wpAny_mono one (fun r s' z => ?_) fun _ _ e => e)
    obtain ⟨v, rfl, hq⟩ := z
    exact wpAny_pure hq
  · refine wpAny_bind (wpAny_pure ?_)
    simp only [Bool.false_eq_true, if_false]
    refine wpAny_bind (wpAny_mono one (fun r s' z => ?_) fun _ _ e => e)
    obtain ⟨v, rfl, hq⟩ := z
    exact wpAny_pure hq
/-- the kinds of things on the right -/
inductive Oth (H : Hp) : V → Value → Prop where
  | non : Oth H .non (.type "NoneType")
  | int (i : Int) : Oth H (.int i) (.type "int")
  | str (z : Str) : Oth H (.str z) (.type "str")
  | lst {a : Addr} {xs : List V} (e : H a = some (.lst xs)) : Oth H (.ref a) (.type "list")
  | tup {a : Addr} {xs : List V} (e : H a = some (.tup xs)) : Oth H (.ref a) (.type "tuple")
  | ins {a C dx : Addr} {fs : List (Str × V)} (e : H a = some (.ins C dx fs)) : Oth H (.ref a) (.ref C)
theorem insX_at {X : Cx} {pins : List (Addr × Obj)} {σ : L2.St} {H : Hp} {s : Shared} {a C dx : Addr} {fs : List (Str × V)} (I : Inv X pins σ H s) (h : H a = some (.ins C dx fs)) : ∃ ox od, PySem.W.InstAt s.heap a ox C od := by
  obtain ⟨mA, O, _⟩ := ins_get I.hok h
  obtain ⟨od, J, _⟩ := O.look
  exact ⟨_, _, J⟩
theorem oth_looks {X : Cx} {pins : List (Addr × Obj)} {σ : L2.St} {H : Hp} {s : Shared} {x : V} {u t : Value} (I : Inv X pins σ H s) (rx : RelV x u) (o : Oth H x t) (M : Model) : PySem.W.Looks M s.heap (typeOf u) t := by
  cases o with
  | non => cases (show u = Value.none from rx); exact .of_pure rfl
  | int i => obtain ⟨t, q⟩ := (show ∃ t, u = Value.int i t from rx); cases q; exact .of_pure rfl
  | str y => obtain ⟨t, q⟩ := (show ∃ t, u = Value.str y t from rx); cases q; exact .of_pure rfl
  | @lst a xs ea =>
    cases (show u = Value.ref a from rx)
    obtain ⟨_, _, n, _, h1⟩ := (show ObjOk X.prog X.w H s.heap a (.lst xs) from I.hok a _ ea)
    exact (PySem.W.Looks.ld h1).andThen .now
  | @tup a xs ea =>
    cases (show u = Value.ref a from rx)
    obtain ⟨_, _, _, o, h1, h2, _⟩ := (show ObjOk X.prog X.w H s.heap a (.tup xs) from I.hok a _ ea)
    rw [← h2]
    exact (PySem.W.Looks.ld h1).andThen .now
  | @ins a C dx fs ea =>
    cases (show u = Value.ref a from rx)
    obtain ⟨ox, od, J⟩ := insX_at I ea
    exact J.type
section
variable {X : Cx} {C g : Addr} {fd : FuncData} {ps : List Str} {n : Nat} {sp : Sp} {E : XK}
def rEqB (K : PySem.W.Frag) (C : Addr) (sp : Sp) (E : XK) (pos : Bool) : R2 := fun x y H Q => ∃ a dx fs t, x = .ref a ∧ H a = some (.ins C dx fs) ∧ Oth H y t ∧ PySem.W.notFirst K C t = true ∧ sp [x, y] H (fun v H' => ∃ k : Bool, v = .bl k ∧ Q (.bl (cond pos k (!k))) H') E
theorem op_eqB (e : EqO X.K C g) (hb : Binds X.K fd ps []) (F : FnOk X.prog X.w X.K X.mg X.base CX0 n g fd ps sp) (hr : Room n X.A) (hx : Passes CX0 X E) : OpR X (compareOp .Eq) (rEqB X.K C sp E true) := by
  intro pins s σ H x y v u Q I rx ry h
  obtain ⟨a, dx, fs, t, rfl, ha, ho, hn, q⟩ := h
  cases (show v = Value.ref a from rx)
  obtain ⟨ox, od, J⟩ := insX_at I ha
  obtain ⟨m, hF⟩ := I.fr
  refine PySem.W.cmp_K (op := .Eq) hr.units0 hF I.ok.mod.kin J (oth_looks I ry ho _) hn e.eq e.fn ?_
  refine wpAny_mono (run_fn (us := [.ref a, u]) (vs := [.ref a, y]) F hr hb .nil hx I (.cons rfl (.cons ry .nil)) q) (fun w s' z => ?_) fun _ _ x => x
  obtain ⟨z', H', I', rz, k, rfl, qz⟩ := z
  exact SlX.cmpback rz ⟨.bl k, H', I', rz, qz⟩
theorem op_neB (e : EqO X.K C g) (hb : Binds X.K fd ps []) (F : FnOk X.prog X.w X.K X.mg X.base CX0 n g fd ps sp) (hr : Room (n + 1) X.A) : OpR X (compareOp .NotEq) (rEqB X.K C sp E false) := by
  intro pins s σ H x y v u Q I rx ry h
  obtain ⟨a, dx, fs, t, rfl, ha, ho, hn, q⟩ := h
  cases (show v = Value.ref a from rx)
  obtain ⟨ox, od, J⟩ := insX_at I ha
  obtain ⟨m, hF⟩ := I.fr
  refine ne_K (by have := hr.units; omega) hF I.ok.mod.kin J (oth_looks I ry ho _) hn e ?_
  have hl : ([Value.ref a, u] ++ []).length = ps.length := by
    have := F.len _ _ _ _ q
    exact this
  refine wpAny_call (codeAny_mono (F.run X.A.in1 X.stack s H ⟨[.ref a, u], []⟩ ([.ref a, u] ++ []) [.ref a, y] _ E hr.in1 I.env0.in1 (hb s [.ref a, u] I.kIn hl) (.cons rfl (.cons ry .nil)) q) fun r s' hq => ?_)
  cases r with
  | error e => exact False.elim hq
  | ok fl =>
    cases fl with
    | ret u =>
      obtain ⟨v, H', I2, rv, k, rfl, q⟩ := I.after hq
      obtain rfl : u = Value.bool k := rv
      exact ⟨k, rfl, .bl (!k), H', I2, rfl, q⟩
    | next => exact False.elim hq
    | brk => exact False.elim hq
    | cont => exact False.elim hq
end
end G
set_option Elab.async false
set_option linter.all false
set_option maxRecDepth 100000
set_option maxHeartbeats 2000000
/-! Q2: str(x) by an own __str__; keys that differ stay so. -/
namespace G
open PySem PySem.Spec PyProof.Rows L2
section
variable {X : Cx} {C g : Addr} {fd : FuncData} {ps : List Str} {n : Nat} {sp : Sp} {E : XK}
def rStrB (C : Addr) (sp : Sp) (E : XK) : List V → Hp → VK → Prop := fun xs H Q => ∃ a dx fs, xs = [V.ref a] ∧ H a = some (.ins C dx fs) ∧ sp [.ref a] H (fun z H' => ∃ y, z = .str y ∧ Q z H') E
theorem call_strB (hs : PySem.W.findIn X.K (.ref C) "__str__" = some (some (.ref g))) (hf : PySem.W.isFn X.K (.ref g) = true) (hb : Binds X.K fd ps []) (F : FnOk X.prog X.w X.K X.mg X.base CX0 n g fd ps sp) (hr : Room (n + 2) X.A) : CallR X (.type "str") (rStrB C sp E) := by
  intro pins s σ H xs us Q I r h
  obtain ⟨a, dx, fs, rfl, ha, q⟩ := h
  obtain ⟨u, rfl, ru⟩ := r.one
  cases (show u = Value.ref a from ru)
  obtain ⟨ox, od, J⟩ := insX_at I ha
  have hr2 : Room n X.A.in1.in1 := (show Room (n + 1) X.A.in1 from Room.in1 hr).in1
  refine PySem.W.kso_call (by have := hr2.units; omega) I.kIn J hs hf ?_
  have hl : ([Value.ref a] ++ []).length = ps.length := by
    have := F.len _ _ _ _ q
    exact this
  refine wpAny_call (codeAny_mono (F.run X.A.in1.in1 X.stack s H ⟨[Value.ref a], []⟩ ([Value.ref a] ++ []) [V.ref a] _ E hr2 I.env0.in1.in1 (hb s [Value.ref a] I.kIn hl) (show Vals [V.ref a] [Value.ref a] from .cons rfl .nil) q) fun r s' hq => ?_)
  cases r with
  | error e => exact False.elim hq
  | ok fl =>
    cases fl with
    | ret u =>
      obtain ⟨v, H', I2, rv, y, rfl, q⟩ := I.after hq
      obtain ⟨t, rfl⟩ := (show ∃ t, u = Value.str y t from rv)
      exact ⟨.str y, H', I2, ⟨t, rfl⟩, q⟩
    | next => exact False.elim hq
    | brk => exact False.elim hq
    | cont => exact False.elim hq
end
theorem nodup_put {kvs : List (Key × V)} (h : (kvs.map (·.1)).Nodup) (k : Key) (v : V) : ((putK kvs k v).map (·.1)).Nodup := by
  unfold putK
  split
  · rw [List.map_map]
    have e : (kvs.map ((fun p : Key × V => p.1) ∘ fun kv => if kv.1 = k then (kv.1, v) else kv)) = kvs.map (·.1) := List.map_congr_left fun p _ => by
      show (if p.1 = k then (p.1, v) else p).1 = p.1
      split <;> rfl
    rw [e]
    exact h
  · rename_i hn
    rw [List.map_append, List.nodup_append]
    refine ⟨h, by simp, fun x hx y hy => ?_⟩
    rw [List.map_cons, List.map_nil, List.mem_singleton] at hy
    rintro rfl
    obtain ⟨p, hp, e⟩ := List.mem_map.mp hx
    apply hn
    exact List.any_eq_true.mpr ⟨p, hp, decide_eq_true (e.trans hy)⟩
theorem valV_nodup : ∀ {kvs : List (Key × V)}, (kvs.map (·.1)).Nodup → ∀ p ∈ kvs, valV kvs p.1 = some p.2
  | p :: kvs, h, q, hq => by
    rw [List.map_cons, List.nodup_cons] at h
    show Option.map (fun r : Key × V => r.2) (List.find? (fun kv => decide (kv.1 = q.1)) (p :: kvs)) = some q.2
    rcases List.mem_cons.mp hq with rfl | hq'
    · rw [List.find?_cons_of_pos (by simp)]
      rfl
    · have ne : ¬ p.1 = q.1 := fun e => h.1 (by rw [e]; exact List.mem_map.mpr ⟨q, hq', rfl⟩)
      rw [List.find?_cons_of_neg (by simpa using ne)]
      exact valV_nodup h.2 q hq'
end G
set_option Elab.async false
set_option linter.all false
set_option maxRecDepth 100000
set_option maxHeartbeats 2000000
/-! V5: a drawn number, a drawn value of some fields. -/
namespace G
open PySem PySem.Spec PyProof.Rows L2
abbrev sNumber : Stmt := topS 32
abbrev sValue : Stmt := topS 33
theorem scNumber : FnScope ["_law_box_here", "_law_some"] ["_law_box_here"] (defScope sNumber) := ⟨rfl, rfl, rfl, by decide +kernel, rfl, by decide +kernel, by decide +kernel⟩
theorem scValue : FnScope ["_law_box_here", "_law_fields", "_law_found", "_law_part"] ["_law_box_here", "_law_fields"] (defScope sValue) := ⟨rfl, rfl, rfl, by decide +kernel, rfl, by decide +kernel, by decide +kernel⟩
def spNumber : Sp := fun vs H Q _ => ∃ (b : Addr) (n : Nat), vs = [.ref b] ∧ BoxAt H b n ∧ n ≤ 90000 ∧ ∀ (i : Int) (H' : Hp), -999 ≤ i → i ≤ 999 → BoxAt H' b (n + 3) → But b H H' → Q (.int i) H'
/-- some of the fields, each with a number -/
def ValN (zs : List Str) (kvs : List (Key × V)) : Prop := ∀ p ∈ kvs, ∃ z i, p = (Sum.inr z, V.int i) ∧ z ∈ zs ∧ -999 ≤ i ∧ i ≤ 999
def spValue (K : PySem.W.Frag) : Sp := fun vs H Q _ => ∃ (b a : Addr) (n : Nat) (zs : List Str), vs = [.ref b, .ref a] ∧ BoxAt H b n ∧ n ≤ 80000 ∧ H a = some (.lst (zs.map V.str)) ∧ (∀ z ∈ zs, NameZ z) ∧ 1 ≤ zs.length ∧ zs.length ≤ 100 ∧ a ≠ b ∧
  ∀ (p : Addr) (H' : Hp) (kvs : List (Key × V)), H p = none → H' p = some (.dK kvs) → (kvs.map (·.1)).Nodup → ValN zs kvs → 1 ≤ kvs.length → kvs.length ≤ 6 → kvs.length ≤ zs.length → BoxAt H' b (n + 201 + 3 * 6) → But b H H' → Q (.ref p) H'
/-- an order of texts is made of these texts -/
theorem texts_of : ∀ {zs : List Str} {qs : List Vd}, qs.Perm (zs.map fun z => (V.str z, PyData.str z)) → ∃ ys : List Str, qs.map (·.1) = ys.map V.str ∧ ys.length = zs.length ∧ ∀ y ∈ ys, y ∈ zs := by
  intro zs qs pm
  have each : ∀ x ∈ qs, ∃ y, x = (V.str y, PyData.str y) ∧ y ∈ zs := fun x hx => by
    obtain ⟨y, hy, e⟩ := List.mem_map.mp (pm.mem_iff.mp hx)
    exact ⟨y, e.symm, hy⟩
  have hlen : qs.length = zs.length := by
    rw [pm.length_eq, List.length_map]
  rw [← hlen]
  clear pm hlen
  induction qs with
  | nil => exact ⟨[], rfl, rfl, fun y hy => nomatch hy⟩
  | cons x qs ih =>
    obtain ⟨y, rfl, hy⟩ := each x List.mem_cons_self
    obtain ⟨ys, e1, e2, e3⟩ := ih fun x hx => each x (List.mem_cons_of_mem _ hx)
    refine ⟨y :: ys, ?_, congrArg (· + 1) e2, fun u hu => ?_⟩
    · rw [List.map_cons, e1]
      rfl
    · rcases List.mem_cons.mp hu with rfl | hu
      · exact hy
      · exact e3 u hu
theorem mem_putK {kvs : List (Key × V)} {k : Key} {v : V} {p : Key × V} (h : p ∈ putK kvs k v) : p = (k, v) ∨ p ∈ kvs := by
  unfold putK at h
  split at h
  · obtain ⟨q, hq, e⟩ := List.mem_map.mp h
    by_cases z : q.1 = k
    · rw [if_pos z] at e
      left
      rw [← e, z]
    · rw [if_neg z] at e
      right
      rw [← e]
      exact hq
  · rcases List.mem_append.mp h with h | h
    · exact .inr h
    · exact .inl (List.mem_singleton.mp h)
theorem putK_pos (kvs : List (Key × V)) (k : Key) (v : V) : 1 ≤ (putK kvs k v).length := by
  unfold putK
  split
  · rename_i h
    obtain ⟨x, hx, _⟩ := List.any_eq_true.mp h
    rw [List.length_map]
    exact List.length_pos_of_mem hx
  · rw [List.length_append]
    exact Nat.le_add_left 1 _
theorem ValN.put {zs : List Str} {kvs : List (Key × V)} (h : ValN zs kvs) {z : Str} {i : Int} (hz : z ∈ zs) (h1 : -999 ≤ i) (h2 : i ≤ 999) : ValN zs (putK kvs (Sum.inr z) (.int i)) := fun p hp => by
  rcases mem_putK hp with e | hp
  · exact ⟨z, i, e, hz, h1, h2⟩
  · exact h p hp
theorem cutV_first (xs : List V) (k : Nat) (h : k ≤ xs.length) : cutV xs none (some (k : Int)) = xs.take k := by
  unfold cutV
  rw [HT.sIx_none, HT.sIx_nat, List.drop_zero, Nat.min_eq_left h, Nat.sub_zero]
section
variable {P : Program} {w : World} {K : PySem.W.Frag} {mg : Str → Option Value} {base : Heap}
theorem ok_number {f fT : Addr} {fd fdT : FuncData} (F : Fun K "_law_number" "_law_number" sNumber f fd) (T : Fun K "_law_take" "_law_take" sTake fT fdT) (bT : Binds K fdT ["_law_box_here", "_law_many"] []) (gT : mg "_law_take" = some (.ref fT)) :
    FnOk P w K mg base CX0 2 f fd ["_law_box_here"] spNumber := by
  have GT : FnOk P w K mg base CX0 1 fT fdT ["_law_box_here", "_law_many"] spTake := ok_take T
  refine F.ok scNumber (fun vs H Q E h => ?_) (fun cdv A outer s H vs Q E hr h => ?_)
  · obtain ⟨b, n, rfl, _⟩ := h
    rfl
  · obtain ⟨b, n, rfl, B, hn, q⟩ := h
    refine ⟨_, pss_cons (ps_set (i := 1) scNumber.nd rfl (.inl rfl) (pe_lst (pa_cons pe_int (pa_cons pe_int (pa_cons (pe_un un_neg pe_int) (pa_cons pe_int (pa_cons pe_int (pa_cons (pe_un un_neg pe_int)
        (pa_cons (pe_op op_sub (pe_call GT hr rfl gT T.kp bT .nil pass0 (pa_cons (pv 0) (pa_cons pe_int pa_nil))) pe_int) (pa_cons (pe_op op_sub (pe_call GT hr rfl gT T.kp bT .nil pass0 (pa_cons (pv 0) (pa_cons pe_int pa_nil))) pe_int) pa_nil))))))))))
      (pss_one (ps_ret (pe_ix ix_list (pv 1) (pe_call GT hr rfl gT T.kp bT .nil pass0 (pa_cons (pv 0) (pa_cons pe_int pa_nil))) (fun _ _ => rfl)))), ?_⟩
    refine ⟨_, rfl, _, rfl, _, rfl, b, 21, n, rfl, B, by omega, by decide, by decide, fun r1 H1 a0 a1 B1 k1 => ⟨_, _, rfl, rfl, _, rfl, b, 1999, n + 1, rfl, B1, by omega, by decide, by decide, fun r2 H2 c0 c1 B2 k2 => ⟨_, _, rfl, rfl, (by show 8 ≤ sizeLine; decide), fun p hp => ?_⟩⟩⟩
    have np := box_ne B2 hp
    refine ⟨_, rfl, _, rfl, b, 8, n + 2, rfl, box_new B2 hp, by omega, by decide, by decide, fun r3 H3 d0 d1 B3 k3 => ?_⟩
    obtain ⟨j, rfl, hj⟩ := draw_at (n := 8) d0 d1 rfl
    have e3 := k3 _ _ np upd_same
    obtain ⟨i, hi, h1, h2⟩ : ∃ i : Int, ([.int 0, .int 1, .int (-1), .int 2, .int 999, .int (-999), .int (r1 - 10), .int (r2 - 999)] : List V)[j]? = some (.int i) ∧ -999 ≤ i ∧ i ≤ 999 := by
      match j, hj with
      | 0, _ => exact ⟨0, rfl, by decide, by decide⟩
      | 1, _ => exact ⟨1, rfl, by decide, by decide⟩
      | 2, _ => exact ⟨-1, rfl, by decide, by decide⟩
      | 3, _ => exact ⟨2, rfl, by decide, by decide⟩
      | 4, _ => exact ⟨999, rfl, by decide, by decide⟩
      | 5, _ => exact ⟨-999, rfl, by decide, by decide⟩
      | 6, _ => exact ⟨r1 - 10, rfl, by omega, by omega⟩
      | 7, _ => exact ⟨r2 - 999, rfl, by omega, by omega⟩
    exact ⟨p, _, _, .int i, rfl, rfl, .of e3, atI_nat hi, q i H3 h1 h2 B3 (((k1.trans k2).trans (But.new hp)).trans k3)⟩
theorem ok_value {f fT fM fN : Addr} {fd fdT fdM fdN : FuncData} (F : Fun K "_law_value" "_law_value" sValue f fd) (T : Fun K "_law_take" "_law_take" sTake fT fdT) (bT : Binds K fdT ["_law_box_here", "_law_many"] []) (gT : mg "_law_take" = some (.ref fT))
    (M : Fun K "_law_mixed" "_law_mixed" sMixed fM fdM) (bM : Binds K fdM ["_law_box_here", "_law_some"] []) (gM : mg "_law_mixed" = some (.ref fM))
    (Nm : Fun K "_law_number" "_law_number" sNumber fN fdN) (bN : Binds K fdN ["_law_box_here"] []) (gN : mg "_law_number" = some (.ref fN)) (ml : mg "len" = none) (mL : mg "list" = none) (mm : mg "min" = none) :
    FnOk P w K mg base CX0 3 f fd ["_law_box_here", "_law_fields"] (spValue K) := by
  have GT : FnOk P w K mg base CX0 1 fT fdT ["_law_box_here", "_law_many"] spTake := ok_take T
  have GM : FnOk P w K mg base CX0 2 fM fdM ["_law_box_here", "_law_some"] (spMixed K) := ok_mixed M T bT gT ml mL
  have GN : FnOk P w K mg base CX0 2 fN fdN ["_law_box_here"] spNumber := ok_number Nm T bT gT
  refine F.ok scValue (fun vs H Q E h => ?_) (fun cdv A outer s H vs Q E hr h => ?_)
  · obtain ⟨b, a, n, zs, rfl, _⟩ := h
    rfl
  · obtain ⟨b, a, n, zs, rfl, B, hn, hS, hz, l1, l100, nab, q⟩ := h
    have hr1 := hr.mono (show 1 ≤ 2 by decide)
    have hu := hu_of hr
    refine ⟨_, pss_cons (ps_set (i := 2) scValue.nd rfl (.inl rfl) pe_dnewK)
      (pss_cons (ps_for PassesOwn.never rfl (pi_list (pe_slice sl_list (pe_call GM hr rfl gM M.kp bM .nil pass0 (pa_cons (pv 0) (pa_cons (pv 1) pa_nil))) po_none
          (po_some (pe_op op_add pe_int (pe_call GT hr1 rfl gT T.kp bT .nil pass0 (pa_cons (pv 0) (pa_cons (pe_callB (call_min2 rfl) (by rfl) mm (by decide +kernel) (pa_cons pe_int (pa_cons (pe_callB call_len_seq (by rfl) ml PySem.boot_len (pa_cons (pv 1) pa_nil)) pa_nil))) pa_nil)))))))
        (pg_name (i := 3) scValue.nd rfl (.inl rfl))
        (pss_one (ps_dput hu (pv 2) (pv 3) (pe_call GN hr rfl gN Nm.kp bN .nil pass0 (pa_cons (pv 0) pa_nil)) rfl)))
      (pss_one (ps_ret (pv 2)))), ?_⟩
    intro d hd
    have nd := box_ne B hd
    refine ⟨_, rfl, _, rfl, b, a, n, zs.map fun z => (V.str z, PyData.str z), rfl, box_new B hd, ?_, .inl ?_, ?_, fun p H1 qs pm np e1 B1 k1 => ?_⟩
    · rw [List.length_map]
      omega
    · refine .of ?_
      rw [upd_ne (ne_of_none hS hd), hS, List.map_map]
      rfl
    · intro x hx
      obtain ⟨y, hyy, rfl⟩ := List.mem_map.mp hx
      exact ⟨(hz y hyy).1.lay, fun H' _ => .str y⟩
    · obtain ⟨ys, y1, y2, y3⟩ := texts_of pm
      rw [y1] at e1
      rw [List.length_map] at B1
      have nda : a ≠ d := ne_of_none hS hd
      have ea1 : H1 a = some (.lst (zs.map V.str)) := k1 _ _ nab ((upd_ne nda).trans hS)
      have ed1 : H1 d = some (.dK []) := k1 _ _ nd upd_same
      have kk1 : But b H H1 := (But.new hd).trans k1
      have npb : p ≠ b := by
        obtain ⟨x, y, z, e, _⟩ := B
        exact box_ne (box_new ⟨x, y, z, e, ‹_›⟩ hd) np
      have fp : H p = none := by
        by_cases z : p = d
        · rw [z] at np
          rw [upd_same] at np
          cases np
        · rwa [upd_ne z] at np
      have hmin : ∃ mn : Nat, (if ((List.map V.str zs).length : Int) < 6 then ((List.map V.str zs).length : Int) else 6) = (mn : Int) ∧ 1 ≤ mn ∧ mn ≤ 6 ∧ mn ≤ zs.length := by
        rw [List.length_map]
        by_cases h : (zs.length : Int) < 6
        · exact ⟨zs.length, if_pos h, l1, by omega, Nat.le_refl _⟩
        · exact ⟨6, if_neg h, by decide, by decide, by omega⟩
      obtain ⟨mn, emn, mn1, mn6, mnl⟩ := hmin
      refine ⟨_, rfl, _, rfl, a, _, rfl, .inl (.of ea1), _, _, rfl, ?_⟩
      rw [emn]
      refine ⟨b, mn, n + zs.length, rfl, B1, by omega, by omega, by omega, fun r H2 r0 r1 B2 k2 => ?_⟩
      obtain ⟨j, rfl, hj⟩ := draw_at (n := mn) r0 r1 rfl
      have e2 := k2 _ _ npb e1
      have ed2 := k2 _ _ nd ed1
      refine ⟨_, _, rfl, rfl, _, rfl, p, _, rfl, .of e2, fun p2 np2 => ?_⟩
      have ej : (1 + (j : Int) : Int) = ((1 + j : Nat) : Int) := by omega
      rw [ej, cutV_first _ (1 + j) (by rw [List.length_map]; omega), ← List.map_take]
      have nb2 := box_ne B2 np2
      have nd2 : d ≠ p2 := ne_of_none ed2 np2
      have kk2 : But b H H2 := kk1.trans k2
      have f2 : H p2 = none := free_of kk2 nb2 np2
      refine ⟨p2, rfl, ⟨_, .of upd_same⟩, ?_⟩
      have tl : ((ys.take (1 + j)).map V.str).length = 1 + j := by
        rw [List.length_map, List.length_take]
        omega
      refine for_list (xs := (ys.take (1 + j)).map V.str) (fun i σ H3 => ∃ (kvs : List (Key × V)) (x3 : Option V), σ = [some (.ref b), some (.ref a), some (.ref d), x3] ∧ H3 d = some (.dK kvs) ∧ (kvs.map (·.1)).Nodup ∧ ValN zs kvs ∧ kvs.length ≤ i ∧ (1 ≤ i → 1 ≤ kvs.length) ∧
        H3 p2 = some (.lst ((ys.take (1 + j)).map V.str)) ∧ BoxAt H3 b (n + zs.length + 1 + 3 * i) ∧ But b H H3) ?_ ?_ ?_ ?_
      · refine ⟨[], none, rfl, (upd_ne nd2).trans ed2, List.Pairwise.nil, (fun x hx => nomatch hx), Nat.le_refl _, (fun h => absurd h (by decide)), upd_same, box_new B2 np2, but_upd kk2 f2⟩
      · rintro i σ H3 _ ⟨kvs, x3, rfl, _, _, _, _, _, e3, _, _⟩
        exact .of e3
      · rintro i x σ H3 hx ⟨kvs, x3, rfl, ed3, nn3, v3, len3, pos3, e3, B3, k3⟩
        have hi : i < 1 + j := by
          rw [← tl]
          exact (List.getElem?_eq_some_iff.mp hx).1
        rw [List.getElem?_map] at hx
        obtain ⟨y, hy, rfl⟩ := Option.map_eq_some_iff.mp hx
        have hyz : y ∈ zs := y3 y (List.mem_of_mem_take (List.mem_of_getElem? hy))
        refine ⟨_, rfl, b, n + zs.length + 1 + 3 * i, rfl, B3, by omega, fun v H4 v0 v1 B4 k4 => ?_⟩
        have ed4 := k4 _ _ nd ed3
        have e4 := k4 _ _ nb2 e3
        refine ⟨_, rfl, _, rfl, d, _, rfl, DPut.k (k := Sum.inr y) ed4 (small1000 (by omega)), ?_⟩
        refine ⟨putK kvs (Sum.inr y) (.int v), _, rfl, upd_same, nodup_put nn3 _ _, v3.put hyz v0 v1, ?_, fun _ => putK_pos _ _ _, (upd_ne nd2.symm).trans e4, (box_upd B4 nd).mono (by omega), but_upd (k3.trans k4) hd⟩
        have := length_putK kvs (Sum.inr y) (.int v)
        omega
      · rintro σ H3 ⟨kvs, x3, rfl, ed3, nn3, v3, len3, pos3, e3, B3, k3⟩
        rw [tl] at len3 pos3 B3
        refine ⟨_, rfl, q d H3 kvs hd ed3 nn3 v3 (pos3 (by omega)) (by omega) (by omega) (B3.mono (by omega)) k3⟩
end
end G
set_option Elab.async false
set_option linter.all false
set_option maxRecDepth 100000
set_option maxHeartbeats 2000000
/-! P0: isinstance by the kind of a thing. -/
namespace G
open PySem PySem.Spec PyProof.Rows L2
def isI : PyData → Bool
  | .int _ => true
  | .bool _ => true
  | _ => false
def isB : PyData → Bool
  | .bool _ => true
  | _ => false
def isTup : PyData → Bool
  | .tuple _ => true
  | _ => false
def isLst : PyData → Bool
  | .list _ => true
  | _ => false
def isDic : PyData → Bool
  | .dict _ => true
  | _ => false
theorem kit_i {K : PySem.W.Frag} : ∀ d : PyData, PySem.W.kitOne K (.type (tyN d)) (.type "int") = some (isI d)
  | .none => kit_ty (a := "NoneType") (b := "int") (r := false) (by decide +kernel)
  | .bool _ => kit_ty (a := "bool") (b := "int") (r := true) (by decide +kernel)
  | .int _ => kit_ty (a := "int") (b := "int") (r := true) (by decide +kernel)
  | .str _ => kit_ty (a := "str") (b := "int") (r := false) (by decide +kernel)
  | .list _ => kit_ty (a := "list") (b := "int") (r := false) (by decide +kernel)
  | .tuple _ => kit_ty (a := "tuple") (b := "int") (r := false) (by decide +kernel)
  | .dict _ => kit_ty (a := "dict") (b := "int") (r := false) (by decide +kernel)
theorem kit_b {K : PySem.W.Frag} : ∀ d : PyData, PySem.W.kitOne K (.type (tyN d)) (.type "bool") = some (isB d)
  | .none => kit_ty (a := "NoneType") (b := "bool") (r := false) (by decide +kernel)
  | .bool _ => kit_ty (a := "bool") (b := "bool") (r := true) (by decide +kernel)
  | .int _ => kit_ty (a := "int") (b := "bool") (r := false) (by decide +kernel)
  | .str _ => kit_ty (a := "str") (b := "bool") (r := false) (by decide +kernel)
  | .list _ => kit_ty (a := "list") (b := "bool") (r := false) (by decide +kernel)
  | .tuple _ => kit_ty (a := "tuple") (b := "bool") (r := false) (by decide +kernel)
  | .dict _ => kit_ty (a := "dict") (b := "bool") (r := false) (by decide +kernel)
theorem kit_t {K : PySem.W.Frag} : ∀ d : PyData, PySem.W.kitOne K (.type (tyN d)) (.type "tuple") = some (isTup d)
  | .none => kit_ty (a := "NoneType") (b := "tuple") (r := false) (by decide +kernel)
  | .bool _ => kit_ty (a := "bool") (b := "tuple") (r := false) (by decide +kernel)
  | .int _ => kit_ty (a := "int") (b := "tuple") (r := false) (by decide +kernel)
  | .str _ => kit_ty (a := "str") (b := "tuple") (r := false) (by decide +kernel)
  | .list _ => kit_ty (a := "list") (b := "tuple") (r := false) (by decide +kernel)
  | .tuple _ => kit_ty (a := "tuple") (b := "tuple") (r := true) (by decide +kernel)
  | .dict _ => kit_ty (a := "dict") (b := "tuple") (r := false) (by decide +kernel)
theorem kit_l {K : PySem.W.Frag} : ∀ d : PyData, PySem.W.kitOne K (.type (tyN d)) (.type "list") = some (isLst d)
  | .none => kit_ty (a := "NoneType") (b := "list") (r := false) (by decide +kernel)
  | .bool _ => kit_ty (a := "bool") (b := "list") (r := false) (by decide +kernel)
  | .int _ => kit_ty (a := "int") (b := "list") (r := false) (by decide +kernel)
  | .str _ => kit_ty (a := "str") (b := "list") (r := false) (by decide +kernel)
  | .list _ => kit_ty (a := "list") (b := "list") (r := true) (by decide +kernel)
  | .tuple _ => kit_ty (a := "tuple") (b := "list") (r := false) (by decide +kernel)
  | .dict _ => kit_ty (a := "dict") (b := "list") (r := false) (by decide +kernel)
theorem kit_d {K : PySem.W.Frag} : ∀ d : PyData, PySem.W.kitOne K (.type (tyN d)) (.type "dict") = some (isDic d)
  | .none => kit_ty (a := "NoneType") (b := "dict") (r := false) (by decide +kernel)
  | .bool _ => kit_ty (a := "bool") (b := "dict") (r := false) (by decide +kernel)
  | .int _ => kit_ty (a := "int") (b := "dict") (r := false) (by decide +kernel)
  | .str _ => kit_ty (a := "str") (b := "dict") (r := false) (by decide +kernel)
  | .list _ => kit_ty (a := "list") (b := "dict") (r := false) (by decide +kernel)
  | .tuple _ => kit_ty (a := "tuple") (b := "dict") (r := false) (by decide +kernel)
  | .dict _ => kit_ty (a := "dict") (b := "dict") (r := true) (by decide +kernel)
def isS : PyData → Bool
  | .str _ => true
  | _ => false
theorem kit_s {K : PySem.W.Frag} : ∀ d : PyData, PySem.W.kitOne K (.type (tyN d)) (.type "str") = some (isS d)
  | .none => kit_ty (a := "NoneType") (b := "str") (r := false) (by decide +kernel)
  | .bool _ => kit_ty (a := "bool") (b := "str") (r := false) (by decide +kernel)
  | .int _ => kit_ty (a := "int") (b := "str") (r := false) (by decide +kernel)
  | .str _ => kit_ty (a := "str") (b := "str") (r := true) (by decide +kernel)
  | .list _ => kit_ty (a := "list") (b := "str") (r := false) (by decide +kernel)
  | .tuple _ => kit_ty (a := "tuple") (b := "str") (r := false) (by decide +kernel)
  | .dict _ => kit_ty (a := "dict") (b := "str") (r := false) (by decide +kernel)
/-- isinstance(x, int), by name -/
theorem pt_isi {X : Cx} {y : Str} {py : Pos} {te : TE} {n : Str} {p q pos : Pos} (T : String) (he : PE X (.Name y py) te) (hg : Gl X "isinstance" := by rfl) (hm : X.mg "isinstance" = none) (gn : Gl X n := by rfl) (mn : X.mg n = none) (hv : bootBuiltins n = some (.type T) := by decide +kernel)
    (hn : n ≠ "__name__" := by decide) (hd : (n == ("__debug__" : Str)) = false := by decide) :
    PE X (.Call (.Name "isinstance" p) [.Name y py, .Name n q] [] pos) (tCB (rIsi X.K) (tCons te (tCons (tC (.ty T)) tNil))) :=
  pe_callB call_isi hg hm (by decide +kernel) (pa_cons he (pa_cons (pe_bltn gn mn hv rfl hn hd) pa_nil))

end G
set_option Elab.async false
set_option linter.all false
set_option maxRecDepth 100000
set_option maxHeartbeats 2000000
/-! W1: checks that pass. -/
namespace G
open PySem PySem.Spec PyProof.Rows L2 NdefX
abbrev sIsInt : Stmt := topS 13
abbrev sIsName : Stmt := topS 14
abbrev sIsValue : Stmt := topS 15
abbrev sNeedInt : Stmt := topS 20
abbrev sNeedName : Stmt := topS 21
abbrev sNeedValue : Stmt := topS 22
abbrev sNeedRecord : Stmt := topS 23
theorem scIsInt : FnScope ["value", "low", "high"] ["value", "low", "high"] (defScope sIsInt) := ⟨rfl, rfl, rfl, by decide +kernel, rfl, by decide +kernel, by decide +kernel⟩
theorem scIsName : FnScope ["value", "letter"] ["value"] (defScope sIsName) := ⟨rfl, rfl, rfl, by decide +kernel, rfl, by decide +kernel, by decide +kernel⟩
theorem scNeedInt : FnScope ["value", "low", "high"] ["value", "low", "high"] (defScope sNeedInt) := ⟨rfl, rfl, rfl, by decide +kernel, rfl, by decide +kernel, by decide +kernel⟩
theorem scNeedName : FnScope ["value"] ["value"] (defScope sNeedName) := ⟨rfl, rfl, rfl, by decide +kernel, rfl, by decide +kernel, by decide +kernel⟩
theorem scIsValue : FnScope ["value", "field"] ["value"] (defScope sIsValue) := ⟨rfl, rfl, rfl, by decide +kernel, rfl, by decide +kernel, by decide +kernel⟩
theorem scNeedValue : FnScope ["value"] ["value"] (defScope sNeedValue) := ⟨rfl, rfl, rfl, by decide +kernel, rfl, by decide +kernel, by decide +kernel⟩
theorem scNeedRecord : FnScope ["key", "value"] ["key", "value"] (defScope sNeedRecord) := ⟨rfl, rfl, rfl, by decide +kernel, rfl, by decide +kernel, by decide +kernel⟩
/-- a record's value, of some names -/
structure ValOk (zs : List Str) (kvs : List (Key × V)) : Prop where
  nm : ∀ z ∈ zs, NameZ z
  is : ValN zs kvs
  pos : 1 ≤ kvs.length
  six : kvs.length ≤ 6
theorem valV_of {zs : List Str} {kvs : List (Key × V)} (h : ValN zs kvs) {i : Nat} {k : Key} {v : V} (e : kvs[i]? = some (k, v)) : ∃ (z : Str) (n : Int), k = Sum.inr z ∧ z ∈ zs ∧ valV kvs k = some (.int n) ∧ -999 ≤ n ∧ n ≤ 999 := by
  have hm := List.mem_of_getElem? e
  obtain ⟨z, j, ez, hz, _, _⟩ := h _ hm
  obtain ⟨rfl, _⟩ := Prod.mk.inj ez
  cases q : valV kvs (Sum.inr z) with
  | none =>
    exfalso
    have h2 : (kvs.find? fun kv => decide (kv.1 = (Sum.inr z : Key))) = none := by
      have : Option.map (fun p : Key × V => p.2) (kvs.find? fun kv => decide (kv.1 = (Sum.inr z : Key))) = none := q
      exact Option.map_eq_none_iff.mp this
    have h3 := List.find?_eq_none.mp h2 _ hm
    exact h3 (decide_eq_true rfl)
  | some x =>
    have h2 : Option.map (fun p : Key × V => p.2) (kvs.find? fun kv => decide (kv.1 = (Sum.inr z : Key))) = some x := q
    obtain ⟨p, hp, rfl⟩ := Option.map_eq_some_iff.mp h2
    obtain ⟨z2, n, ep, _, n1, n2⟩ := h p (List.mem_of_find?_eq_some hp)
    rw [ep]
    exact ⟨z, n, rfl, hz, rfl, n1, n2⟩
def spIsInt : Sp := fun vs H Q _ => ∃ v lo hi : Int, vs = [.int v, .int lo, .int hi] ∧ Q (.bl (decide (lo ≤ v) && decide (v ≤ hi))) H
def spIsName : Sp := fun vs H Q _ => ∃ z : Str, vs = [.str z] ∧ NameZ z ∧ ∀ H', Same H H' → Q (.bl true) H'
def spNeedInt : Sp := fun vs H Q _ => ∃ v lo hi : Int, vs = [.int v, .int lo, .int hi] ∧ lo ≤ v ∧ v ≤ hi ∧ Q .non H
def spNeedName : Sp := fun vs H Q _ => ∃ z : Str, vs = [.str z] ∧ NameZ z ∧ ∀ H', Same H H' → Q .non H'
def spIsValue : Sp := fun vs H Q _ => ∃ (d : Addr) (zs : List Str) (kvs : List (Key × V)), vs = [.ref d] ∧ H d = some (.dK kvs) ∧ ValOk zs kvs ∧ ∀ H', Same H H' → Q (.bl true) H'
def spNeedValue : Sp := fun vs H Q _ => ∃ (d : Addr) (zs : List Str) (kvs : List (Key × V)), vs = [.ref d] ∧ H d = some (.dK kvs) ∧ ValOk zs kvs ∧ ∀ H', Same H H' → Q .non H'
def spNeedRecord : Sp := fun vs H Q _ => ∃ (y : Str) (d : Addr) (zs : List Str) (kvs : List (Key × V)), vs = [.str y, .ref d] ∧ NameZ y ∧ H d = some (.dK kvs) ∧ ValOk zs kvs ∧ ∀ H', Same H H' → Q .non H'
section
variable {P : Program} {w : World} {K : PySem.W.Frag} {mg : Str → Option Value} {base : Heap}
theorem ok_isint {f : Addr} {fd : FuncData} (F : Fun K "is_integer" "is_integer" sIsInt f fd) (mi : mg "isinstance" = none) (mn : mg "int" = none) (mb : mg "bool" = none) : FnOk P w K mg base CX0 1 f fd ["value", "low", "high"] spIsInt := by
  refine F.ok scIsInt (fun vs H Q E h => ?_) (fun cdv A outer s H vs Q E hr h => ?_)
  · obtain ⟨v, lo, hi, rfl, _⟩ := h
    rfl
  · obtain ⟨v, lo, hi, rfl, q⟩ := h
    refine ⟨_, pss_cons (ps_if (PW.pt (pw_or (pt_not (pt_val (pt_isi "int" (pv 0) (hm := mi) (mn := mn)))) (pw_or1 (pt_val (pt_isi "bool" (pv 0) (hm := mi) (mn := mb)))))) (pss_one (ps_ret pe_bl)) pss_nil)
      (pss_one (ps_ret (pe_chain op_le op_le (pv 1) (pv 0) (pv 2)))), ?_⟩
    have hR : Rp K H (.int v) (.int v) := .int v
    refine ⟨_, rfl, _, _, _, _, _, rfl, .ty _, rp_ty hR, kit_i (.int v), _, rfl, iteF ?_⟩
    refine ⟨_, rfl, _, _, _, _, _, rfl, .ty _, rp_ty hR, kit_b (.int v), _, rfl, iteF ?_⟩
    refine ⟨_, rfl, _, rfl, _, _, rfl, rfl, _, rfl, ?_⟩
    cases e : decide (lo ≤ v) with
    | false =>
      refine iteF ?_
      rw [e] at q
      exact q
    | true =>
      refine iteT ?_
      rw [e] at q
      exact ⟨_, rfl, _, _, rfl, rfl, q⟩
theorem ok_isname {f : Addr} {fd : FuncData} {t1 t2 : Tok} (F : Fun K "is_name" "is_name" sIsName f fd) (gM : mg "MOST_LETTERS" = some (.int 8 t1)) (gL : mg "LETTERS" = some (.str abc t2)) (mi : mg "isinstance" = none) (ms : mg "str" = none) (ml : mg "len" = none) (ma : mg "all" = none) :
    FnOk P w K mg base CX0 1 f fd ["value"] spIsName := by
  refine F.ok scIsName (fun vs H Q E h => ?_) (fun cdv A outer s H vs Q E hr h => ?_)
  · obtain ⟨z, rfl, _⟩ := h
    rfl
  · obtain ⟨z, rfl, ⟨hz, h1, h8⟩, q⟩ := h
    refine ⟨_, pss_cons (ps_if (PW.pt (pw_or (pt_not (pt_val (pt_isi "str" (pv 0) (hm := mi) (mn := ms)))) (pw_or1 (pt_not (pt_chain op_le op_le pe_int (pe_callB call_len_str (by rfl) ml PySem.boot_len (pa_cons (pv 0) pa_nil)) (pe_glob (v := .int 8) rfl gM ⟨_, rfl⟩))))))
        (pss_one (ps_ret pe_bl)) pss_nil)
      (pss_one (ps_ret (pe_callB (cr_all rfl) (by rfl) ma (by decide +kernel) (pa_cons (pe_lc (own := [("letter", 1)]) (g := gName 1) (tt := tYes) (by rfl) scIsName.nd (pi_str (pv 0))
        (blkOk_by (own := [("letter", 1)]) (N := ["value", "letter"]) (sc := defScope sIsName) (by decide +kernel)) (fun _ _ _ _ _ => pg_name (i := 1) scIsName.nd rfl (.inl rfl)) (fun _ _ _ _ _ => pts_nil)
        (fun _ _ _ _ _ => pe_cmpR op_in_sign (pv 1) (pe_glob (v := .str abc) rfl gL ⟨_, rfl⟩) (by rfl))) pa_nil)))), ?_⟩
    have hR : Rp K H (.str z) (.str z) := .str z
    refine ⟨_, rfl, _, _, _, _, _, rfl, .ty _, rp_ty hR, kit_s (.str z), _, rfl, iteF ?_⟩
    refine ⟨_, rfl, z, rfl, small_size (by omega), _, _, rfl, rfl, _, rfl, ?_⟩
    rw [decide_eq_true (show (1 : Int) ≤ (z.length : Int) by omega)]
    refine iteT ⟨_, _, rfl, rfl, _, rfl, ?_⟩
    rw [decide_eq_true (show (z.length : Int) ≤ 8 by omega)]
    refine iteF ?_
    refine ⟨_, rfl, z, rfl, fun D hD => ?_⟩
    refine lc_it walk_str (fun i H2 => Same H H2 ∧ H2 D = some (.lst ((List.replicate i true).map V.bl))) ?_ ?_ ?_ ?_
    · exact ⟨Same.new hD, upd_same⟩
    · exact fun _ _ _ _ => trivial
    · rintro i x H2 H3 hi ⟨s2, e2⟩ ⟨rfl, c, hc, rfl⟩
      have hc2 : (cs z)[i]? = some c := by
        rw [← hc, ← Array.getElem?_toList]
      have hzs : z.cps.size = z.length := rfl
      have c97 := hz c (List.mem_of_getElem? hc2)
      refine ⟨rfl, ?_⟩
      unfold tYes
      dsimp only
      rw [if_pos rfl]
      refine ⟨_, rfl, c, _, rfl, rfl, _, e2, ?_, fun a o e => ?_, ?_⟩
      · rw [List.length_map, List.length_replicate]
        exact Nat.lt_of_lt_of_le hi (small_size (by omega))
      · rw [upd_ne (ne_of_none e hD)]
        exact s2 _ _ e
      · have hin : decide (c ∈ abc.cps.toList) = true := decide_eq_true (by
          have e : abc.cps.toList = (List.range 26).map (97 + ·) := by decide +kernel
          rw [e]
          exact List.mem_map.mpr ⟨c - 97, List.mem_range.mpr (by omega), by omega⟩)
        rw [upd_same, hin, List.replicate_succ', List.map_append]
        rfl
    · rintro H2 ⟨s2, e2⟩
      refine ⟨D, _, rfl, .of e2, ?_⟩
      have ha : (List.replicate z.cps.size true).all id = true := by
        rw [List.all_eq_true]
        intro x hx
        rw [(List.mem_replicate.mp hx).2]
        rfl
      rw [ha]
      exact q H2 s2
theorem ok_needint {f fI : Addr} {fd fdI : FuncData} (F : Fun K "need_integer" "need_integer" sNeedInt f fd) (I : Fun K "is_integer" "is_integer" sIsInt fI fdI) (bI : Binds K fdI ["value", "low", "high"] []) (gI : mg "is_integer" = some (.ref fI))
    (GI : FnOk P w K mg base CX0 1 fI fdI ["value", "low", "high"] spIsInt) : FnOk P w K mg base CX0 2 f fd ["value", "low", "high"] spNeedInt := by
  refine F.ok scNeedInt (fun vs H Q E h => ?_) (fun cdv A outer s H vs Q E hr h => ?_)
  · obtain ⟨v, lo, hi, rfl, _⟩ := h
    rfl
  · obtain ⟨v, lo, hi, rfl, h1, h2, q⟩ := h
    refine ⟨_, pss_one (ps_if (pt_not (pt_val (pe_call GI hr rfl gI I.kp bI .nil pass0 (pa_cons (pv 0) (pa_cons (pv 1) (pa_cons (pv 2) pa_nil)))))) (pss_one ps_never) pss_nil), ?_⟩
    refine ⟨_, rfl, _, rfl, _, rfl, v, lo, hi, rfl, _, rfl, ?_⟩
    rw [decide_eq_true h1, decide_eq_true h2]
    exact iteF q
theorem ok_needname {f fI : Addr} {fd fdI : FuncData} (F : Fun K "need_name" "need_name" sNeedName f fd) (I : Fun K "is_name" "is_name" sIsName fI fdI) (bI : Binds K fdI ["value"] []) (gI : mg "is_name" = some (.ref fI))
    (GI : FnOk P w K mg base CX0 1 fI fdI ["value"] spIsName) : FnOk P w K mg base CX0 2 f fd ["value"] spNeedName := by
  refine F.ok scNeedName (fun vs H Q E h => ?_) (fun cdv A outer s H vs Q E hr h => ?_)
  · obtain ⟨z, rfl, _⟩ := h
    rfl
  · obtain ⟨z, rfl, hz, q⟩ := h
    refine ⟨_, pss_one (ps_if (pt_not (pt_val (pe_call GI hr rfl gI I.kp bI .nil pass0 (pa_cons (pv 0) pa_nil)))) (pss_one ps_never) pss_nil), ?_⟩
    exact ⟨_, rfl, z, rfl, hz, fun H' s' => ⟨_, rfl, iteF (q H' s')⟩⟩
theorem ok_isvalue {f fN fI : Addr} {fd fdN fdI : FuncData} {t1 t2 : Tok} (F : Fun K "is_value" "is_value" sIsValue f fd) (N : Fun K "is_name" "is_name" sIsName fN fdN) (bN : Binds K fdN ["value"] []) (gN : mg "is_name" = some (.ref fN))
    (GN : FnOk P w K mg base CX0 1 fN fdN ["value"] spIsName) (I : Fun K "is_integer" "is_integer" sIsInt fI fdI) (bI : Binds K fdI ["value", "low", "high"] []) (gI : mg "is_integer" = some (.ref fI)) (GI : FnOk P w K mg base CX0 1 fI fdI ["value", "low", "high"] spIsInt)
    (gM : mg "MOST_FIELDS" = some (.int 6 t1)) (gG : mg "GREATEST" = some (.int 999 t2)) (mi : mg "isinstance" = none) (md : mg "dict" = none) (ml : mg "len" = none) (ma : mg "all" = none) :
    FnOk P w K mg base CX0 2 f fd ["value"] spIsValue := by
  refine F.ok scIsValue (fun vs H Q E h => ?_) (fun cdv A outer s H vs Q E hr h => ?_)
  · obtain ⟨d, zs, kvs, rfl, _⟩ := h
    rfl
  · obtain ⟨d, zs, kvs, rfl, hd, hv, q⟩ := h
    have hu := hu_of hr
    refine ⟨_, pss_cons (ps_if (PW.pt (pw_or (pt_not (pt_val (pt_isi "dict" (pv 0) (hm := mi) (mn := md)))) (pw_or1 (pt_not (pt_chain op_le op_le pe_int (pe_callB call_lenD (by rfl) ml PySem.boot_len (pa_cons (pv 0) pa_nil)) (pe_glob (v := .int 6) rfl gM ⟨_, rfl⟩))))))
        (pss_one (ps_ret pe_bl)) pss_nil)
      (pss_one (ps_ret (pe_callB (cr_all rfl) (by rfl) ma (by decide +kernel) (pa_cons (pe_lock (pe_lc (own := [("field", 1)]) (g := gName 1) (tt := tYes) (by rfl) scIsValue.nd (pi_keys (pv 0))
        (blkOk_by (own := [("field", 1)]) (N := ["value", "field"]) (sc := defScope sIsValue) (by decide +kernel)) (fun _ _ _ _ _ => pg_name (i := 1) scIsValue.nd rfl (.inl rfl)) (fun _ _ _ _ _ => pts_nil)
        (fun _ _ _ _ _ => pe_and (pe_call GN hr rfl gN N.kp bN .nil pass0 (pa_cons (pv 1) pa_nil)) (pe_one (pe_call GI hr rfl gI I.kp bI .nil pass0 (pa_cons (pe_dget hu (pv 0) (pv 1) (fun _ _ => rfl))
          (pa_cons (pe_un un_neg (pe_glob (v := .int 999) rfl gG ⟨_, rfl⟩)) (pa_cons (pe_glob (v := .int 999) rfl gG ⟨_, rfl⟩) pa_nil)))))))) pa_nil)))), ?_⟩
    refine ⟨_, rfl, _, _, _, _, _, rfl, .ty _, .base (.dK hd), kit_ty (a := "dict") (b := "dict") (r := true) (by decide +kernel), _, rfl, iteF ?_⟩
    refine ⟨_, rfl, d, kvs, rfl, hd, ?_⟩
    have h1 := hv.pos
    have h6 := hv.six
    refine ⟨_, _, rfl, rfl, _, rfl, ?_⟩
    rw [decide_eq_true (show (1 : Int) ≤ (kvs.length : Int) by omega)]
    refine iteT ⟨_, _, rfl, rfl, _, rfl, ?_⟩
    rw [decide_eq_true (show (kvs.length : Int) ≤ 6 by omega)]
    refine iteF ?_
    refine ⟨d, _, hd, trivial, fun od => ?_⟩
    refine ⟨_, rfl, d, od, rfl, .inl ⟨kvs, upd_same, fun D hD => ?_⟩⟩
    have ndD : d ≠ D := fun z => by
      rw [← z, upd_same] at hD
      cases hD
    have fD : H D = none := (upd_ne ndD.symm).symm.trans hD
    refine lc_it walk_keys (fun i H2 => But d H H2 ∧ H2 d = some (.frz od (.dK kvs)) ∧ H2 D = some (.lst ((List.replicate i true).map V.bl))) ?_ ?_ ?_ ?_
    · exact ⟨but_upd But.upd fD, (upd_ne ndD).trans upd_same, upd_same⟩
    · exact fun _ _ _ h => h.2.1
    · rintro i x H2 H3 hi ⟨b2, d2, e2⟩ ⟨rfl, k, v, hk, rfl⟩
      obtain ⟨z, n, rfl, hz, hn, n1, n2⟩ := valV_of hv.is hk
      refine ⟨rfl, ?_⟩
      unfold tYes
      dsimp only
      rw [if_pos rfl]
      refine ⟨_, rfl, z, rfl, hv.nm z hz, fun H4 s4 => ⟨_, rfl, iteT ?_⟩⟩
      have d4 := s4 _ _ d2
      have e4 := s4 _ _ e2
      refine ⟨_, rfl, _, rfl, d, .int n, rfl, .inl ⟨kvs, Sum.inr z, .inr ⟨od, d4⟩, rfl, hn.symm⟩, _, rfl, n, -999, 999, rfl, ?_⟩
      rw [decide_eq_true n1, decide_eq_true n2]
      refine ⟨_, e4, ?_, ?_, ?_, ?_⟩
      · rw [List.length_map, List.length_replicate]
        exact small1000 (by omega)
      · exact but_upd (b2.trans (But.same s4)) fD
      · exact (upd_ne ndD).trans d4
      · rw [upd_same, List.replicate_succ', List.map_append]
        rfl
    · rintro H2 ⟨b2, d2, e2⟩
      refine ⟨d2, D, _, rfl, .of ((upd_ne ndD.symm).trans e2), ?_⟩
      have ha : (List.replicate kvs.length true).all id = true := by
        rw [List.all_eq_true]
        intro x hx
        rw [(List.mem_replicate.mp hx).2]
        rfl
      rw [ha]
      refine q _ fun c o e => ?_
      by_cases hc : c = d
      · rw [hc] at e ⊢
        rw [hd] at e
        rw [← e]
        exact upd_same
      · rw [upd_ne hc]
        exact b2 c o hc e
theorem ok_needvalue {f fI : Addr} {fd fdI : FuncData} (F : Fun K "need_value" "need_value" sNeedValue f fd) (I : Fun K "is_value" "is_value" sIsValue fI fdI) (bI : Binds K fdI ["value"] []) (gI : mg "is_value" = some (.ref fI))
    (GI : FnOk P w K mg base CX0 2 fI fdI ["value"] spIsValue) : FnOk P w K mg base CX0 3 f fd ["value"] spNeedValue := by
  refine F.ok scNeedValue (fun vs H Q E h => ?_) (fun cdv A outer s H vs Q E hr h => ?_)
  · obtain ⟨d, zs, kvs, rfl, _⟩ := h
    rfl
  · obtain ⟨d, zs, kvs, rfl, hd, hv, q⟩ := h
    refine ⟨_, pss_one (ps_if (pt_not (pt_val (pe_call GI hr rfl gI I.kp bI .nil pass0 (pa_cons (pv 0) pa_nil)))) (pss_one ps_never) pss_nil), ?_⟩
    exact ⟨_, rfl, d, zs, kvs, rfl, hd, hv, fun H' s' => ⟨_, rfl, iteF (q H' s')⟩⟩
theorem ok_needrecord {f fN fV : Addr} {fd fdN fdV : FuncData} (F : Fun K "need_record" "need_record" sNeedRecord f fd) (kN : PySem.W.keepIn K (.ref fN) = true) (bN : Binds K fdN ["value"] []) (gN : mg "need_name" = some (.ref fN)) (GN : FnOk P w K mg base CX0 2 fN fdN ["value"] spNeedName)
    (kV : PySem.W.keepIn K (.ref fV) = true) (bV : Binds K fdV ["value"] []) (gV : mg "need_value" = some (.ref fV)) (GV : FnOk P w K mg base CX0 3 fV fdV ["value"] spNeedValue) : FnOk P w K mg base CX0 4 f fd ["key", "value"] spNeedRecord := by
  refine F.ok scNeedRecord (fun vs H Q E h => ?_) (fun cdv A outer s H vs Q E hr h => ?_)
  · obtain ⟨y, d, zs, kvs, rfl, _⟩ := h
    rfl
  · obtain ⟨y, d, zs, kvs, rfl, hy, hd, hv, q⟩ := h
    refine ⟨_, pss_cons (ps_expr (pe_call GN (hr.mono (by decide)) rfl gN kN bN .nil pass0 (pa_cons (pv 0) pa_nil))) (pss_one (ps_expr (pe_call GV hr rfl gV kV bV .nil pass0 (pa_cons (pv 1) pa_nil)))), ?_⟩
    exact ⟨_, rfl, y, rfl, hy, fun H1 s1 => ⟨_, rfl, d, zs, kvs, rfl, s1 _ _ hd, hv, fun H2 s2 => q H2 (s1.trans s2)⟩⟩
end
end G
set_option Elab.async false
set_option linter.all false
set_option maxRecDepth 100000
set_option maxHeartbeats 2000000
/-! W2: Plus: made, asked, compared, shown. -/
namespace G
open PySem PySem.Spec PyProof.Rows L2 NdefX
theorem ifN {c : Bool} {A B : Prop} (e : c = false) (h : B) : if c = true then A else B := by
  rw [e]
  exact iteF h
theorem ifY {c : Bool} {A B : Prop} (e : c = true) (h : A) : if c = true then A else B := by
  rw [e]
  exact iteT h
abbrev sPl (j : Nat) : Stmt := inClass (topS 25) j
theorem scPlI : FnScope ["self", "field", "number"] ["self", "field", "number"] (defScope (sPl 0)) := ⟨rfl, rfl, rfl, by decide +kernel, rfl, by decide +kernel, by decide +kernel⟩
theorem scPlF : FnScope ["self"] ["self"] (defScope (sPl 1)) := ⟨rfl, rfl, rfl, by decide +kernel, rfl, by decide +kernel, by decide +kernel⟩
theorem scPlN : FnScope ["self"] ["self"] (defScope (sPl 2)) := ⟨rfl, rfl, rfl, by decide +kernel, rfl, by decide +kernel, by decide +kernel⟩
theorem scPlC : FnScope ["self", "key", "value", "result", "total"] ["self", "key", "value"] (defScope (sPl 3)) := ⟨rfl, rfl, rfl, by decide +kernel, rfl, by decide +kernel, by decide +kernel⟩
theorem scPlE : FnScope ["self", "other"] ["self", "other"] (defScope (sPl 4)) := ⟨rfl, rfl, rfl, by decide +kernel, rfl, by decide +kernel, by decide +kernel⟩
theorem scPlS : FnScope ["self"] ["self"] (defScope (sPl 5)) := ⟨rfl, rfl, rfl, by decide +kernel, rfl, by decide +kernel, by decide +kernel⟩
/-- at a stands Plus(z, n) -/
def PlAt (C : Addr) (H : Hp) (a : Addr) (z : Str) (n : Int) : Prop := ∃ dx, H a = some (.ins C dx [("field_name", .str z), ("summand", .int n)])
theorem PlAt.same {C a : Addr} {H H' : Hp} {z : Str} {n : Int} (h : PlAt C H a z n) (s : Same H H') : PlAt C H' a z n := let ⟨dx, e⟩ := h; ⟨dx, s _ _ e⟩
def clamp (x : Int) : Int := if x > 999 then 999 else if x < -999 then -999 else x
def plusK (z : Str) (n : Int) (kvs : List (Key × V)) : List (Key × V) := match valV kvs (Sum.inr z) with
  | some (.int m) => putK kvs (Sum.inr z) (.int (clamp (m + n)))
  | _ => kvs
def spPlI (C : Addr) : Sp := fun vs H Q _ => ∃ (a dx : Addr) (z : Str) (n : Int), vs = [.ref a, .str z, .int n] ∧ H a = some (.ins C dx []) ∧ NameZ z ∧ -999 ≤ n ∧ n ≤ 999 ∧
  ∀ H', Same H H' → Q .non (upd H' a (.ins C dx [("field_name", .str z), ("summand", .int n)]))
def spPlF (C : Addr) : Sp := fun vs H Q _ => ∃ (a : Addr) (z : Str) (n : Int), vs = [.ref a] ∧ PlAt C H a z n ∧ Q (.str z) H
def spPlN (C : Addr) : Sp := fun vs H Q _ => ∃ (a : Addr) (z : Str) (n : Int), vs = [.ref a] ∧ PlAt C H a z n ∧ Q (.int n) H
def spPlC (C : Addr) : Sp := fun vs H Q _ => ∃ (a d : Addr) (y z : Str) (n : Int) (zs : List Str) (kvs : List (Key × V)), vs = [.ref a, .str y, .ref d] ∧ PlAt C H a z n ∧ NameZ y ∧ H d = some (.dK kvs) ∧ ValOk zs kvs ∧
  ∀ (p : Addr) (H' : Hp), Same H H' → H p = none → H' p = some (.dK (plusK z n kvs)) → Q (.ref p) H'
/-- what a Plus is compared with -/
inductive EqArg (C : Addr) (H : Hp) : V → Option (Str × Int) → Prop where
  | pl {b : Addr} {z : Str} {n : Int} (h : PlAt C H b z n) : EqArg C H (.ref b) (some (z, n))
  | non : EqArg C H .non none
  | int (i : Int) : EqArg C H (.int i) none
  | str (z : Str) : EqArg C H (.str z) none
  | lst {a : Addr} {xs : List V} (e : H a = some (.lst xs)) : EqArg C H (.ref a) none
def eqP (z : Str) (n : Int) : Option (Str × Int) → Bool
  | some (z2, n2) => decide (z = z2) && decide (n = n2)
  | none => false
def spPlE (C : Addr) : Sp := fun vs H Q _ => ∃ (a : Addr) (z : Str) (n : Int) (y : V) (o : Option (Str × Int)), vs = [.ref a, y] ∧ PlAt C H a z n ∧ EqArg C H y o ∧ Q (.bl (eqP z n o)) H
def spPlS (C : Addr) : Sp := fun vs H Q _ => ∃ (a : Addr) (z : Str) (n : Int), vs = [.ref a] ∧ PlAt C H a z n ∧ NameZ z ∧ -999 ≤ n ∧ n ≤ 999 ∧ ∀ m : Str, Q (.str m) H
/-- what isinstance asks of the class -/
structure PlC (K : PySem.W.Frag) (C : Addr) : Prop where
  cl : Cls K C
  n1 : NoAttr K C "field_name"
  n2 : NoAttr K C "summand"
  ha : PySem.W.findIn K (.ref C) "__class__" = some (some (.builtin "object.__class__"))
  hn : PySem.W.specialIn K (.builtin "object.__class__") "__get__" = some (some (.builtin "getset_descriptor.__get__"))
  htk : PySem.W.takesIn K (.builtin "object.__class__") = some true
  hm : PySem.W.mroIn K C (.type "object") = some true
  kit : PySem.W.kitOne K (.ref C) (.ref C) = some true
  kN : PySem.W.kitOne K (.type "NoneType") (.ref C) = some false
  kI : PySem.W.kitOne K (.type "int") (.ref C) = some false
  kS : PySem.W.kitOne K (.type "str") (.ref C) = some false
  kL : PySem.W.kitOne K (.type "list") (.ref C) = some false
theorem clamp_max (x : Int) : (if (if x < 999 then x else 999) > -999 then (if x < 999 then x else 999) else -999) = clamp x := by
  unfold clamp
  split <;> split <;> (try split) <;> (try split) <;> omega
theorem clamp_min (x : Int) : (if (if x > -999 then x else -999) < 999 then (if x > -999 then x else -999) else 999) = clamp x := by
  unfold clamp
  split <;> split <;> (try split) <;> (try split) <;> omega
section
variable {P : Program} {w : World} {K : PySem.W.Frag} {mg : Str → Option Value} {base : Heap} {f C : Addr} {fd : FuncData}
theorem ok_plinit {fN fJ : Addr} {fdN fdJ : FuncData} {t1 : Tok} (F : Fun K "__init__" "Plus.__init__" (sPl 0) f fd) (c : PlC K C) (gG : mg "GREATEST" = some (.int 999 t1))
    (GN : FnOk P w K mg base CX0 2 fN fdN ["value"] spNeedName) (gN : mg "need_name" = some (.ref fN)) (kN : PySem.W.keepIn K (.ref fN) = true) (bN : Binds K fdN ["value"] [])
    (GJ : FnOk P w K mg base CX0 2 fJ fdJ ["value", "low", "high"] spNeedInt) (gJ : mg "need_integer" = some (.ref fJ)) (kJ : PySem.W.keepIn K (.ref fJ) = true) (bJ : Binds K fdJ ["value", "low", "high"] []) :
    FnOk P w K mg base CX0 3 f fd ["self", "field", "number"] (spPlI C) := by
  refine F.ok scPlI (fun vs H Q E h => ?_) (fun cdv A outer s H vs Q E hr h => ?_)
  · obtain ⟨a, dx, z, n, rfl, _⟩ := h
    rfl
  · obtain ⟨a, dx, z, n, rfl, ha, hz, h1, h2, q⟩ := h
    refine ⟨_, pss_cons (ps_expr (pe_call GN hr rfl gN kN bN .nil pass0 (pa_cons (pv 1) pa_nil)))
      (pss_cons (ps_expr (pe_call GJ hr rfl gJ kJ bJ .nil pass0 (pa_cons (pv 2) (pa_cons (pe_un un_neg (pe_glob (v := .int 999) rfl gG ⟨_, rfl⟩)) (pa_cons (pe_glob (v := .int 999) rfl gG ⟨_, rfl⟩) pa_nil)))))
      (pss_cons (ps_fld (pv 0) (pv 1) rfl) (pss_one (ps_fld (pv 0) (pv 2) rfl)))), ?_⟩
    refine ⟨_, rfl, z, rfl, hz, fun H1 s1 => ?_⟩
    have ha1 := s1 _ _ ha
    refine ⟨_, rfl, _, rfl, n, -999, 999, rfl, h1, h2, ?_⟩
    refine ⟨_, rfl, _, rfl, a, C, dx, _, rfl, ha1, c.cl, c.n1, (by show 0 < 1000; decide), ?_⟩
    refine ⟨_, rfl, _, rfl, a, C, dx, _, rfl, upd_same, c.cl, c.n2, (by show 1 < 1000; decide), ?_⟩
    rw [upd_upd]
    exact q H1 s1
theorem ok_plfield (F : Fun K "field" "Plus.field" (sPl 1) f fd) (c : PlC K C) : FnOk P w K mg base CX0 1 f fd ["self"] (spPlF C) := by
  refine F.ok scPlF (fun vs H Q E h => ?_) (fun cdv A outer s H vs Q E hr h => ?_)
  · obtain ⟨a, z, n, rfl, _⟩ := h
    rfl
  · obtain ⟨a, z, n, rfl, ⟨dx, ha⟩, q⟩ := h
    exact ⟨_, pss_one (ps_ret (pe_fld (pv 0) rfl)), _, rfl, a, C, dx, _, _, rfl, ha, c.cl, c.n1, rfl, q⟩
theorem ok_plnumber (F : Fun K "number" "Plus.number" (sPl 2) f fd) (c : PlC K C) : FnOk P w K mg base CX0 1 f fd ["self"] (spPlN C) := by
  refine F.ok scPlN (fun vs H Q E h => ?_) (fun cdv A outer s H vs Q E hr h => ?_)
  · obtain ⟨a, z, n, rfl, _⟩ := h
    rfl
  · obtain ⟨a, z, n, rfl, ⟨dx, ha⟩, q⟩ := h
    exact ⟨_, pss_one (ps_ret (pe_fld (pv 0) rfl)), _, rfl, a, C, dx, _, _, rfl, ha, c.cl, c.n2, rfl, q⟩
theorem valN_get {zs : List Str} {kvs : List (Key × V)} (h : ValN zs kvs) (y : Str) : valV kvs (Sum.inr y) = none ∨ ∃ n, valV kvs (Sum.inr y) = some (.int n) ∧ -999 ≤ n ∧ n ≤ 999 := by
  cases e : valV kvs (Sum.inr y) with
  | none => exact .inl rfl
  | some v =>
    have h2 : Option.map (fun p : Key × V => p.2) (kvs.find? fun kv => decide (kv.1 = (Sum.inr y : Key))) = some v := e
    obtain ⟨p, hp, rfl⟩ := Option.map_eq_some_iff.mp h2
    obtain ⟨z, n, ep, _, n1, n2⟩ := h p (List.mem_of_find?_eq_some hp)
    rw [ep]
    exact .inr ⟨n, rfl, n1, n2⟩
theorem ok_plcall {fR : Addr} {fdR : FuncData} {t1 : Tok} (F : Fun K "__call__" "Plus.__call__" (sPl 3) f fd) (c : PlC K C) (gG : mg "GREATEST" = some (.int 999 t1)) (kR : PySem.W.keepIn K (.ref fR) = true) (bR : Binds K fdR ["key", "value"] []) (gR : mg "need_record" = some (.ref fR))
    (GR : FnOk P w K mg base CX0 4 fR fdR ["key", "value"] spNeedRecord) (mD : mg "dict" = none) (mmx : mg "max" = none) (mmn : mg "min" = none) : FnOk P w K mg base CX0 5 f fd ["self", "key", "value"] (spPlC C) := by
  refine F.ok scPlC (fun vs H Q E h => ?_) (fun cdv A outer s H vs Q E hr h => ?_)
  · obtain ⟨a, d, y, z, n, zs, kvs, rfl, _⟩ := h
    rfl
  · obtain ⟨a, d, y, z, n, zs, kvs, rfl, hp, hy, hd, hv, q⟩ := h
    have hu := hu_of hr
    refine ⟨_, pss_cons (ps_expr (pe_call GR hr rfl gR kR bR .nil pass0 (pa_cons (pv 1) (pa_cons (pv 2) pa_nil))))
      (pss_cons (ps_set (i := 3) scPlC.nd rfl (.inl rfl) (pe_callTy call_dictD (by rfl) mD (by decide +kernel) (pa_cons (pv 2) pa_nil)))
      (pss_cons (ps_if (pt_cmp (pc_din hu (pe_fld (pv 0) rfl) (pv 3)) rfl)
        (pss_cons (ps_set (i := 4) scPlC.nd rfl (.inl rfl) (pe_op op_add (pe_dget hu (pv 3) (pe_fld (pv 0) rfl) (fun _ _ => rfl)) (pe_fld (pv 0) rfl)))
        (pss_one (ps_dput hu (pv 3) (pe_fld (pv 0) rfl) (pe_callB (call_max2 rfl) (by rfl) mmx (by decide +kernel) (pa_cons (pe_un un_neg (pe_glob (v := .int 999) rfl gG ⟨_, rfl⟩)) (pa_cons (pe_callB (call_min2 rfl) (by rfl) mmn (by decide +kernel)
          (pa_cons (pe_glob (v := .int 999) rfl gG ⟨_, rfl⟩) (pa_cons (pv 4) pa_nil))) pa_nil))) rfl))) pss_nil)
      (pss_one (ps_ret (pv 3))))), ?_⟩
    refine ⟨_, rfl, _, rfl, y, d, zs, kvs, rfl, hy, hd, hv, fun H1 s1 => ?_⟩
    obtain ⟨dx, ha⟩ := hp.same s1
    refine ⟨_, rfl, d, kvs, rfl, .inl (s1 _ _ hd), fun p np => ?_⟩
    have s2 := s1.trans (Same.new (o := .dK kvs) np)
    have npa : a ≠ p := ne_of_none ha np
    have ha2 := (upd_ne (o := HO.dK kvs) npa).trans ha
    have fp : H p = none := s1.free np
    refine ⟨_, rfl, a, C, dx, _, _, rfl, ha2, c.cl, c.n1, rfl, _, rfl, p, _, rfl, DGet.k (k := Sum.inr z) upd_same, _, rfl, ?_⟩
    have e0 : plusK z n kvs = (match valV kvs (Sum.inr z) with
      | some (.int m) => putK kvs (Sum.inr z) (.int (clamp (m + n)))
      | _ => kvs) := rfl
    rcases valN_get hv.is z with e | ⟨m, e, m1, m2⟩
    · rw [e] at e0 ⊢
      refine iteF ⟨_, rfl, q p _ s2 fp ?_⟩
      rw [upd_same, e0]
    · rw [e] at e0 ⊢
      refine iteT ?_
      refine ⟨_, rfl, _, rfl, a, C, dx, _, _, rfl, ha2, c.cl, c.n1, rfl, p, .int m, rfl, .inl ⟨kvs, Sum.inr z, .inl upd_same, rfl, e.symm⟩, _, rfl, a, C, dx, _, _, rfl, ha2, c.cl, c.n2, rfl, _, _, rfl, rfl, ?_⟩
      refine ⟨_, rfl, _, rfl, _, _, rfl, _, _, rfl, ?_⟩
      rw [clamp_max]
      have h6 := hv.six
      refine ⟨_, rfl, _, rfl, a, C, dx, _, _, rfl, ha2, c.cl, c.n1, rfl, p, _, rfl, DPut.k (k := Sum.inr z) upd_same (small1000 (by omega)), ?_⟩
      refine ⟨_, rfl, q p _ (fun c' o e' => (upd_ne (ne_of_none e' fp)).trans (s2 _ _ e')) fp ?_⟩
      rw [upd_same, e0]
theorem ok_pleq (F : Fun K "__eq__" "Plus.__eq__" (sPl 4) f fd) (c : PlC K C) (gC : mg "Plus" = some (.ref C)) (mi : mg "isinstance" = none) : FnOk P w K mg base CX0 1 f fd ["self", "other"] (spPlE C) := by
  refine F.ok scPlE (fun vs H Q E h => ?_) (fun cdv A outer s H vs Q E hr h => ?_)
  · obtain ⟨a, z, n, y, o, rfl, _⟩ := h
    rfl
  · obtain ⟨a, z, n, y, o, rfl, ⟨dx, ha⟩, he, q⟩ := h
    refine ⟨_, pss_one (ps_ret (pe_and (pe_callB call_isi (by rfl) mi (by decide +kernel) (pa_cons (pv 1) (pa_cons (pe_glob (v := .ref C) rfl gC rfl) pa_nil)))
      (pe_and (pe_cmpR op_eq (pe_fld (pv 0) rfl) (pe_fld (pv 1) rfl) (nomark _)) (pe_one (pe_cmpR op_eq (pe_fld (pv 0) rfl) (pe_fld (pv 1) rfl) (nomark _)))))), ?_⟩
    cases he with
    | @pl b z2 n2 h =>
      obtain ⟨dy, hb⟩ := h
      refine ⟨_, rfl, _, _, _, _, _, rfl, .own C, .base (.ins hb c.cl c.ha c.hn c.htk c.hm), c.kit, _, rfl, iteT ?_⟩
      refine ⟨_, rfl, a, C, dx, _, _, rfl, ha, c.cl, c.n1, rfl, _, rfl, b, C, dy, _, _, rfl, hb, c.cl, c.n1, rfl, rfl, _, rfl, ?_⟩
      have q' : Q (.bl (decide (z = z2) && decide (n = n2))) H := q
      by_cases e : z = z2
      · rw [decide_eq_true e] at q'
        refine ifY (decide_eq_true (congrArg V.str e)) ?_
        refine ⟨_, rfl, a, C, dx, _, _, rfl, ha, c.cl, c.n2, rfl, _, rfl, b, C, dy, _, _, rfl, hb, c.cl, c.n2, rfl, rfl, ?_⟩
        have e2 : decide (V.int n = V.int n2) = decide (n = n2) := by
          by_cases z : n = n2
          · rw [decide_eq_true z, decide_eq_true (congrArg V.int z)]
          · rw [decide_eq_false z, decide_eq_false fun h => z (V.int.inj h)]
        rw [e2]
        exact q'
      · rw [decide_eq_false e] at q'
        have e2 : decide (V.str z = V.str z2) = false := decide_eq_false fun h => e (V.str.inj h)
        rw [e2]
        exact iteF q'
    | non => exact ⟨_, rfl, _, _, _, _, _, rfl, .own C, .base .non, c.kN, _, rfl, iteF q⟩
    | int i => exact ⟨_, rfl, _, _, _, _, _, rfl, .own C, .base (.int i), c.kI, _, rfl, iteF q⟩
    | str z => exact ⟨_, rfl, _, _, _, _, _, rfl, .own C, .base (.str z), c.kS, _, rfl, iteF q⟩
    | lst e => exact ⟨_, rfl, _, _, _, _, _, rfl, .own C, .base (.lst e), c.kL, _, rfl, iteF q⟩
end
end G
set_option Elab.async false
set_option linter.all false
set_option maxRecDepth 100000
set_option maxHeartbeats 2000000
/-! W3: Plus as text; Plus made by the law. -/
namespace G
open PySem PySem.Spec PyProof.Rows L2 NdefX
theorem slog {i : Int} (h1 : -999 ≤ i) (h2 : i ≤ 999) : i.natAbs.log2 < 1920 := by
  have h : i.natAbs < 2 ^ 10 := by omega
  by_cases z : i.natAbs = 0
  · rw [z]
    decide
  · exact Nat.lt_trans ((Nat.log2_lt z).mpr h) (by decide)
theorem int_text {i : Int} (h1 : -999 ≤ i) (h2 : i ≤ 999) : ((toString i : String) : Str).length ≤ 1921 := shown_le (.int i) (decide_eq_true (slog h1 h2))
section
variable {P : Program} {w : World} {K : PySem.W.Frag} {mg : Str → Option Value} {base : Heap} {f C : Addr} {fd : FuncData}
theorem ok_plstr (F : Fun K "__str__" "Plus.__str__" (sPl 5) f fd) (c : PlC K C) : FnOk P w K mg base CX0 1 f fd ["self"] (spPlS C) := by
  refine F.ok scPlS (fun vs H Q E h => ?_) (fun cdv A outer s H vs Q E hr h => ?_)
  · obtain ⟨a, z, n, rfl, _⟩ := h
    rfl
  · obtain ⟨a, z, n, rfl, ⟨dx, ha⟩, hz, n1, n2, q⟩ := h
    refine ⟨_, pss_one (ps_ret (pe_joined (.cons pe_str (.cons (pe_fmt (pe_fld (pv 0) rfl)) (.cons pe_str (.cons (pe_fmt (pe_fld (pv 0) rfl)) .nil)))))), ?_⟩
    have h8 := hz.2.2
    have hi := int_text n1 n2
    refine ⟨_, rfl, by decide, _, rfl, a, C, dx, _, _, rfl, ha, c.cl, c.n1, rfl, .inl ⟨z, rfl, small_size (by omega), _, rfl, ?_, _, rfl, ?_, _, rfl, a, C, dx, _, _, rfl, ha, c.cl, c.n2, rfl, .inr ⟨n, rfl, slog n1 n2, _, rfl, ?_, q _⟩⟩⟩
    all_goals
      simp only [app_len]
      have e0 : Str.empty.length = 0 := rfl
      have e1 : (("plus " : String) : Str).length = 5 := rfl
      have e2 : ((" " : String) : Str).length = 1 := rfl
      rw [sizeLine_eq]
      omega
end
/-- a Plus is made -/
theorem pl_made {C : Addr} {H1 : Hp} {Q : VK} {E : XK} {z : Str} {n : Int} (hz : NameZ z) (h1 : -999 ≤ n) (h2 : n ≤ 999) (q : ∀ (a : Addr) (H' : Hp), H1 a = none → PlAt C H' a z n → Same H1 H' → Q (.ref a) H') :
    ∀ x dx, H1 x = Option.none → H1 dx = Option.none → dx ≠ x → spPlI C [.ref x, .str z, .int n] (upd (upd H1 dx (.own x)) x (.ins C dx [])) (fun v H2 => v = .non ∧ Q (.ref x) H2) E := by
  intro x dx hx hdx hne
  refine ⟨x, dx, z, n, rfl, upd_same, hz, h1, h2, fun H' s' => ⟨rfl, q x _ hx ⟨dx, upd_same⟩ fun c o e => ?_⟩⟩
  have n1 := ne_of_none e hx
  rw [upd_ne n1]
  refine s' c o ?_
  rw [upd_ne n1, upd_ne (ne_of_none e hdx)]
  exact e
/-- Plus(number = n, field = z) -/
theorem kb_nf {K : PySem.W.Frag} {st : Stmt} {f : Addr} {fd : FuncData} (F : Fun K "__init__" "Plus.__init__" st f fd)
    (h : ∀ (kV doc pm : Value) (an : Option Addr) (cdv ct : Value) (a v k : Value), bindArgs (PySem.W.fnOf "__init__" "Plus.__init__" (defArgs st) (defBody st) (defScope st) .none kV doc pm an cdv ct) ⟨[a], [("number", v), ("field", k)]⟩ = pure [(("self" : Str), a), (("field" : Str), k), (("number" : Str), v)]) :
    KBn K fd ["self", "field", "number"] 1 ["number", "field"] (fun us ws => us ++ ws.reverse) (fun vs zs => vs ++ zs.reverse) := by
  obtain ⟨oc, od, kV, doc, pm, an, cdv, ct, osl, rfl, lk, hcd⟩ := F.ex
  refine ⟨fun s us ws _ hu hw => ?_, fun {vs us zs ws} r1 r2 => ?_⟩
  · match us, ws, hu, hw with
    | [a], [v, k], _, _ => exact .of_eq (h kV doc pm an cdv ct a v k)
  · have rev : ∀ {zs : List V} {ws : List Value}, Vals zs ws → Vals zs.reverse ws.reverse := by
      intro zs ws r
      induction r with
      | nil => exact .nil
      | cons a _ ih =>
        rw [List.reverse_cons, List.reverse_cons]
        exact ih.append (.cons a .nil)
    exact r1.append (rev r2)
end G
set_option Elab.async false
set_option linter.all false
set_option maxRecDepth 100000
set_option maxHeartbeats 4000000
/-! W4: repr of a dict; what a Plus makes of a value. -/
namespace G
open PySem PySem.Spec PyProof.Rows L2 NdefX StX
/-- repr(d), d a dict (or a tuple) without lists in it -/
def rReprD (K : PySem.W.Frag) : List V → Hp → VK → Prop := fun vs H Q => ∃ (a : Addr) (d : PyData), vs = [.ref a] ∧ Rp K H (.ref a) d ∧ d.showable = true ∧ okS d = true ∧ d.depth ≤ 20 ∧ mass d ≤ sizeLine ∧ Q (.str d.shown) H
theorem call_reprD {X : Cx} (hg : X.A.guards = some []) (hu : X.A.units + 64 < cLine) : CallR X (.builtin "repr") (rReprD X.K) := by
  intro pins s σ H xs us Q I r h
  obtain ⟨a, d, rfl, hr, hs, ho, hp, hm, q⟩ := h
  obtain rfl := Vals.ref1 r
  obtain ⟨as, q1, z1⟩ := rp_reads I d _ _ hr (show RelV (.ref a) (.ref a) from rfl)
  exact repr_of_reads' q1 hs (fun _ => z1 ho) hg (by omega) (fun _ _ e => e) (fun h' u tk k => ⟨.str _, H, I.kept k, ⟨u, rfl⟩, q⟩) (Nat.le_trans (shown_le d hs) hm)
/-- repr(b), b a truth value -/
def rReprB : List V → Hp → VK → Prop := fun vs H Q => ∃ b : Bool, vs = [.bl b] ∧ Q (.str (if b then "True" else "False")) H
theorem call_reprB {X : Cx} : CallR X (.builtin "repr") rReprB := by
  intro pins s σ H xs us Q I r h
  obtain ⟨b, rfl, q⟩ := h
  obtain ⟨u, rfl, ru⟩ := vals1 r
  obtain rfl : u = Value.bool b := ru
  exact PySem.P.repr_of_bool ⟨.str _, H, I.tok _, ⟨_, rfl⟩, q⟩
theorem small_log {i : Int} (h1 : -999 ≤ i) (h2 : i ≤ 999) : decide (i.natAbs.log2 < 1920) = true := by
  refine decide_eq_true ?_
  have h : i.natAbs < 2 ^ 10 := by omega
  by_cases z : i.natAbs = 0
  · rw [z]
    decide
  · exact Nat.lt_trans ((Nat.log2_lt z).mpr h) (by decide)
theorem name_repr {z : Str} (h : NameZ z) : (reprText z).length ≤ 200 := by
  have h1 := StrLaws.reprText_len z fun c hc => Nat.lt_of_le_of_lt (h.1 c hc).2 (by decide)
  have := h.2.2
  omega
def keyD : Key → PyData
  | .inl i => .int i
  | .inr z => .str z
def worthD : V → PyData
  | .int i => .int i
  | _ => .none
abbrev valD (kvs : List (Key × V)) : List (PyData × PyData) := kvs.map fun p => (keyD p.1, worthD p.2)
theorem val_all {K : PySem.W.Frag} {H : Hp} {zs : List Str} : ∀ {kvs : List (Key × V)}, (∀ z ∈ zs, NameZ z) → ValN zs kvs →
    RpAll K H (kvs.map fun p => kV p.1) ((valD kvs).map (·.1)) ∧ RpAll K H (kvs.map (·.2)) ((valD kvs).map (·.2)) ∧ PyData.showableKv (valD kvs) = true ∧ okSKv (valD kvs) = true ∧ PyData.depthKv (valD kvs) = 0 ∧ massKv (valD kvs) ≤ 2200 * kvs.length
  | [], _, _ => ⟨.nil, .nil, rfl, rfl, rfl, Nat.le_refl _⟩
  | p :: kvs, hz, h => by
    obtain ⟨z, n, rfl, hm, n1, n2⟩ := h p List.mem_cons_self
    obtain ⟨r1, r2, r3, r4, r5, r6⟩ := val_all (K := K) (H := H) (kvs := kvs) hz fun q hq => h q (List.mem_cons_of_mem _ hq)
    have m := name_repr (hz z hm)
    refine ⟨.cons (.str z) r1, .cons (.int n) r2, ?_, ?_, ?_, ?_⟩
    · show (PyData.showable (.str z) && PyData.showable (.int n) && PyData.showableKv (valD kvs)) = true
      rw [r3]
      have e := small_log n1 n2
      show (true && decide (n.natAbs.log2 < 1920) && true) = true
      rw [e]
      rfl
    · show (okS (.str z) && okS (.int n) && okSKv (valD kvs)) = true
      rw [r4]
      rfl
    · show max (max 0 0) (PyData.depthKv (valD kvs)) = 0
      rw [r5]
      rfl
    · show (reprText z).length + 1921 + 4 + massKv (valD kvs) ≤ 2200 * (kvs.length + 1)
      omega
/-- repr of such a dict can be asked -/
theorem val_repr {K : PySem.W.Frag} {H : Hp} {zs : List Str} {kvs : List (Key × V)} {d : Addr} (v : ValOk zs kvs) (hd : H d = some (.dK kvs)) :
    Rp K H (.ref d) (.dict (valD kvs)) ∧ (PyData.dict (valD kvs)).showable = true ∧ okS (.dict (valD kvs)) = true ∧ (PyData.dict (valD kvs)).depth ≤ 20 ∧ mass (.dict (valD kvs)) ≤ sizeLine := by
  obtain ⟨r1, r2, r3, r4, r5, r6⟩ := val_all (K := K) (H := H) v.nm v.is
  have h6 := v.six
  refine ⟨.dic hd r1 r2, r3, r4, ?_, ?_⟩
  · show PyData.depthKv (valD kvs) + 1 ≤ 20
    omega
  · show 3 + massKv (valD kvs) ≤ sizeLine
    rw [sizeLine_eq]
    omega
theorem nameA1 : NameZ "a" := ⟨fun c hc => by
  have e : cs ("a" : Str) = [97] := rfl
  rw [e] at hc
  rw [List.mem_singleton.mp hc]
  decide, by decide, by decide⟩
theorem ne_same {A B : Prop} {x y : V} (e : x = y) (h : B) : if (!decide (x = y)) = true then A else B := by
  subst e
  rw [decide_eq_true rfl]
  exact iteF h
theorem clamp_in (x : Int) : -999 ≤ clamp x ∧ clamp x ≤ 999 := by
  unfold clamp
  split <;> (try split) <;> omega
theorem plusK_ok {zs : List Str} {kvs : List (Key × V)} {z : Str} (hz : z ∈ zs) (h : ValN zs kvs) (nd : (kvs.map (·.1)).Nodup) (n : Int) : ValN zs (plusK z n kvs) ∧ ((plusK z n kvs).map (·.1)).Nodup ∧ (plusK z n kvs).length ≤ kvs.length + 1 := by
  have e0 : plusK z n kvs = (match valV kvs (Sum.inr z) with
    | some (.int m) => putK kvs (Sum.inr z) (.int (clamp (m + n)))
    | _ => kvs) := rfl
  rcases valN_get h z with e | ⟨m, e, m1, m2⟩
  · rw [e] at e0
    rw [e0]
    exact ⟨h, nd, Nat.le_succ _⟩
  · rw [e] at e0
    rw [e0]
    exact ⟨h.put hz (clamp_in _).1 (clamp_in _).2, nodup_put nd _ _, length_putK _ _ _⟩
theorem flat_of {zs : List Str} {kvs : List (Key × V)} (h : ValN zs kvs) : ∀ p ∈ kvs, flatB p.2 = true := fun p hp => by
  obtain ⟨z, i, rfl, _⟩ := h p hp
  rfl
theorem pt_isi' {X : Cx} {K : PySem.W.Frag} (hK : X.K = K) {y : Str} {py : Pos} {te : TE} {n : Str} {p q pos : Pos} (T : String) (he : PE X (.Name y py) te) (hm : X.mg "isinstance" = none) (mn : X.mg n = none) (hg : Gl X "isinstance" := by rfl) (gn : Gl X n := by rfl) (hv : bootBuiltins n = some (.type T) := by decide +kernel)
    (hn : n ≠ "__name__" := by decide) (hd : (n == ("__debug__" : Str)) = false := by decide) :
    PE X (.Call (.Name "isinstance" p) [.Name y py, .Name n q] [] pos) (tCB (rIsi K) (tCons te (tCons (tC (.ty T)) tNil))) := by
  rw [← hK]
  exact pt_isi T he hg hm gn mn hv hn hd
end G
set_option Elab.async false
set_option linter.all false
set_option maxRecDepth 100000
set_option maxHeartbeats 8000000
/-! W5: the law's turn: one value. -/
namespace G
open PySem PySem.Spec PyProof.Rows L2 NdefX StX
abbrev sR : Stmt := topS 34
abbrev nR : List Str := ["_law_box_here", "_law_names_here", "_law_name", "_law_more", "_law_plus", "_law_turn", "_law_worth", "_law_due", "_law_stood", "_law_found", "_law_other", "_law_same", "_law_one", "_law_thing"]
theorem scR : FnScope nR ["_law_box_here", "_law_names_here"] (defScope sR) := ⟨rfl, rfl, rfl, by decide +kernel, rfl, by decide +kernel, by decide +kernel⟩
def forBody : Stmt → List Stmt
  | .For _ _ b _ _ => b
  | _ => []
abbrev turnR : List Stmt := forBody ((defBody sR).getD 3 (.Pass ⟨0, 0, 0, 0⟩))
theorem nb_of {H : Hp} {b c : Addr} {n : Nat} {o : HO} (B : BoxAt H b n) (e : H c = some o) (h : ∀ xs, o ≠ .lst xs) : c ≠ b := fun z => by
  obtain ⟨_, _, _, eb, _⟩ := B
  rw [z, eb] at e
  exact h _ (Option.some.inj e).symm
theorem PlAt.but {C a b : Addr} {H H' : Hp} {n : Nat} {z : Str} {k : Int} (h : PlAt C H a z k) (B : BoxAt H b n) (m : But b H H') : PlAt C H' a z k := by
  obtain ⟨dx, e⟩ := h
  exact ⟨dx, m _ _ (nb_of B e fun xs z => by cases z) e⟩
/-- a value that is drawn or made -/
def Wk (H : Hp) (d : Addr) (zs : List Str) (kvs : List (Key × V)) : Prop := H d = some (.dK kvs) ∧ ValOk zs kvs ∧ (kvs.map (·.1)).Nodup
section
variable {P : Program} {w : World} {K : PySem.W.Frag} {mg : Str → Option Value} {base : Heap}
/-- from stood on -/
theorem r_stood {fC C : Addr} {fdC : FuncData} {cdv : Value} {A : Around} {outer : List Env} {s : Shared} {H : Hp} {E : XK} {f : Addr} (c : PlC K C)
    (bC : Binds K fdC ["self", "key", "value"] []) (cO : CallO K C fC) (GC : FnOk P w K mg base CX0 5 fC fdC ["self", "key", "value"] (spPlC C)) (mr : mg "repr" = none) (mD : mg "dict" = none) (mi : mg "isinstance" = none) (mB : mg "bool" = none) (mmx : mg "max" = none) (mmn : mg "min" = none)
    (hg : (A.deeper (envOfC "_law_right" (defScope sR) s.heap.objs.size f cdv)).guards = some []) (hr : Room 5 (A.deeper (envOfC "_law_right" (defScope sR) s.heap.objs.size f cdv))) :
    ∃ t, PSs (cxOf CX0 P w K mg base nR "_law_right" (defScope sR) f cdv A outer s H E).nox (turnR.drop 4) t ∧
      ∀ (De : Ends) (x0 x5 x8 x9 x10 x11 x12 x13 : Option V) (nl a d u : Addr) (z : Str) (k : Int) (z0 : Str) (zs : List Str) (kvs : List (Key × V)) (H0 : Hp), H0 nl = some (.lst ((z0 :: zs).map V.str)) → (∀ y ∈ z0 :: zs, NameZ y) → z ∈ z0 :: zs → PlAt C H0 a z k → Wk H0 d (z0 :: zs) kvs → H0 u = some (.dK (plusK z k kvs)) →
        (∀ (y8 y9 : Option V) (H' : Hp), Same H0 H' → De.nx [x0, some (.ref nl), some (.str z), some (.int k), some (.ref a), x5, some (.ref d), some (.ref u), y8, y9, x10, x11, x12, x13] H') →
        t De [x0, some (.ref nl), some (.str z), some (.int k), some (.ref a), x5, some (.ref d), some (.ref u), x8, x9, x10, x11, x12, x13] H0 := by
  have hu := hu_of hr
  have hu0 : (A.deeper (envOfC "_law_right" (defScope sR) s.heap.objs.size f cdv)).units < cLine := by
    have := hr.units
    omega
  refine ⟨_, pss_cons (ps_set (i := 8) scR.nd rfl (.inl rfl) (pe_callB (call_reprD hg hr.units) (by rfl) mr (by decide +kernel) (pa_cons (pv 6) pa_nil)))
    (pss_cons (ps_set (i := 9) scR.nd rfl (.inl rfl) (pe_callO (pv 4) cO (GC.raw bC .nil) hr pass0 (pa_cons (pe_ix ix_list (pv 1) pe_int (fun _ _ => rfl)) (pa_cons (pv 6) pa_nil))))
    (pss_cons (ps_if (PW.pt (pw_or (pt_cmpR (op_ne_dictA hu0) (pv 9) (pv 7) (nomark _)) (pw_or (pt_cmpR (op_neD hr.units) (pe_lock (pe_lc (own := [("_law_one", 12)]) (g := gName 12) (by rfl) scR.nd (pi_values (pv 9))
          (blkOk_by (own := [("_law_one", 12)]) (N := nR) (sc := defScope sR) (by decide +kernel)) (fun _ _ _ _ _ => pg_name (i := 12) scR.nd rfl (.inl rfl)) (fun _ _ _ _ _ => pts_one (pt_val (pt_isi' (K := K) rfl "bool" (pv 12) mi mB))) (fun _ _ _ _ _ => pv 12))) (pe_lst pa_nil) (nomark _))
        (pw_or1 (pt_cmpR op_ne (pe_callB (call_reprD hg hr.units) (by rfl) mr (by decide +kernel) (pa_cons (pv 6) pa_nil)) (pv 8) (nomark _)))))) (pss_one (ps_ret pe_bl)) pss_nil)
    (pss_cons (ps_dput hu (pv 9) (pv 2) pe_int rfl)
    (pss_cons (ps_expr (pe_dclear (pv 9)))
    (pss_one (ps_if (PW.pt (pw_or (pt_cmpR (op_ne_dictA hu0) (pe_callO (pv 4) cO (GC.raw bC .nil) hr pass0 (pa_cons pe_str (pa_cons (pv 6) pa_nil))) (pv 7) (nomark _))
        (pw_or1 (pt_cmpR op_ne (pe_callB (call_reprD hg hr.units) (by rfl) mr (by decide +kernel) (pa_cons (pv 6) pa_nil)) (pv 8) (nomark _))))) (pss_one (ps_ret pe_bl)) pss_nil)))))), ?_⟩
  intro De x0 x5 x8 x9 x10 x11 x12 x13 nl a d u z k z0 zs kvs H0 hnl hz hzm hP hW eu q
  obtain ⟨hd, hv, hnd⟩ := hW
  have h6 := hv.six
  obtain ⟨pN, pD, pL⟩ := plusK_ok hzm hv.is hnd k
  obtain ⟨dx, ea⟩ := id hP
  obtain ⟨r1, r2, r3, r4, r5⟩ := val_repr (K := K) hv hd
  refine ⟨_, rfl, d, _, rfl, r1, r2, r3, r4, r5, ?_⟩
  refine ⟨_, rfl, a, rfl, _, rfl, nl, _, ((0 : Nat) : Int), .str z0, rfl, rfl, .of hnl, atI_nat (j := 0) rfl, _, rfl, .inr ⟨dx, _, ea⟩, a, d, z0, z, k, z0 :: zs, kvs, rfl, hP, hz z0 List.mem_cons_self, hd, hv, fun p H1 s1 np ep => ?_⟩
  have eu1 := s1 _ _ eu
  obtain ⟨pk, hpk⟩ : ∃ pk, pk = plusK z k kvs := ⟨_, rfl⟩
  rw [← hpk] at pN pD pL ep eu1
  refine ⟨_, rfl, _, rfl, p, u, pk, pk, rfl, rfl, ep, eu1, rfl, (fun x hx => ⟨valV_nodup pD x hx, flat_of pN x hx⟩), _, rfl, iteF ?_⟩
  refine ⟨p, _, ep, trivial, fun od => ?_⟩
  refine ⟨_, rfl, p, od, pk, rfl, upd_same, fun D hD => ?_⟩
  have npD : p ≠ D := fun e => by
    rw [← e, upd_same] at hD
    cases hD
  refine lc_it walk_values (fun i H2 => H2 = upd (upd H1 p (.frz od (.dK pk))) D (.lst [])) ?_ ?_ ?_ ?_
  · rfl
  · rintro i H2 _ rfl
    exact (upd_ne npD).trans upd_same
  · rintro i x H2 H3 hi rfl ⟨rfl, k', hk⟩
    obtain ⟨y, m, e, _⟩ := pN _ (List.mem_of_getElem? hk)
    obtain ⟨_, rfl⟩ := Prod.mk.inj e
    refine ⟨rfl, ?_⟩
    exact ⟨_, rfl, _, _, _, _, _, rfl, .ty _, rp_ty (K := K) (.int m), kit_b (.int m), _, rfl, iteF rfl⟩
  · rintro H2 rfl
    refine ⟨(upd_ne npD).trans upd_same, (by show 0 ≤ sizeLine; exact Nat.zero_le _), fun l hl => ?_⟩
    have nDl : D ≠ l := fun e => by
      rw [← e, upd_ne npD.symm, upd_same] at hl
      cases hl
    have sz : Same H1 (upd (upd (upd (upd H1 p (.frz od (.dK pk))) D (.lst [])) p (.dK pk)) l (.lst [])) := fun c o e => by
      have fD : H1 D = none := (upd_ne npD.symm).symm.trans hD
      have n1 : c ≠ D := ne_of_none e fD
      by_cases hcp : c = p
      · have fl : p ≠ l := fun h => by
          rw [← h, upd_same] at hl
          cases hl
        rw [hcp] at e ⊢
        rw [ep] at e
        rw [upd_ne fl, upd_same, ← e]
      · have n3 : c ≠ l := fun h => by
          rw [← h, upd_ne hcp, upd_ne n1, upd_ne hcp, e] at hl
          cases hl
        rw [upd_ne n3, upd_ne hcp, upd_ne n1, upd_ne hcp]
        exact e
    refine ⟨.list [], .list [], .lst (xs := []) (.of ((upd_ne nDl).trans ((upd_ne npD.symm).trans upd_same))) .nil, .lst (xs := []) (.of upd_same) .nil, rfl, rfl, _, rfl, ifN (by simp [PyData.eqv, PyData.eqvAll]) ?_⟩
    generalize upd (upd (upd (upd H1 p (.frz od (.dK pk))) D (.lst [])) p (.dK pk)) l (.lst []) = H3 at sz ⊢
    have s3 := s1.trans sz
    obtain ⟨r1, r2, r3, r4, r5⟩ := val_repr (K := K) hv (s3 _ _ hd)
    refine ⟨_, rfl, d, _, rfl, r1, r2, r3, r4, r5, _, rfl, rfl, _, rfl, ne_same rfl ?_⟩
    -- the found one changes
    refine ⟨_, rfl, _, rfl, p, _, rfl, DPut.k (k := Sum.inr z) (sz _ _ ep) (small1000 (by omega)), ?_⟩
    have n4 : ∀ {o : HO}, Same H0 (upd H3 p o) := fun {o} c o' e => (upd_ne (ne_of_none e np)).trans (s3 _ _ e)
    refine ⟨_, rfl, .inr (.inr (.inl ⟨rfl, .inl ⟨_, upd_same⟩⟩)), p, _, rfl, rfl, upd_same, ?_⟩
    have s5 : Same H0 (upd (upd H3 p (.dK (putK pk (Sum.inr z) (.int 5)))) p (.dK [])) := fun c o' e => (upd_ne (ne_of_none e np)).trans (n4 _ _ e)
    generalize upd (upd H3 p (.dK (putK pk (Sum.inr z) (.int 5)))) p (.dK []) = H5 at s5 ⊢
    obtain ⟨dx5, ea5⟩ := hP.same s5
    refine ⟨_, rfl, a, rfl, _, rfl, .inr ⟨dx5, _, ea5⟩, a, d, "a", z, k, z0 :: zs, kvs, rfl, ⟨dx5, ea5⟩, nameA1, s5 _ _ hd, hv, fun p6 H6 s6 np6 ep6 => ?_⟩
    rw [← hpk] at ep6
    refine ⟨_, rfl, p6, u, pk, pk, rfl, rfl, ep6, s6 _ _ (s5 _ _ (hpk ▸ eu)), rfl, (fun x hx => ⟨valV_nodup pD x hx, flat_of pN x hx⟩), _, rfl, iteF ?_⟩
    have s7 := s5.trans s6
    obtain ⟨r1, r2, r3, r4, r5⟩ := val_repr (K := K) hv (s7 _ _ hd)
    refine ⟨_, rfl, d, _, rfl, r1, r2, r3, r4, r5, _, rfl, rfl, _, rfl, ne_same rfl ?_⟩
    exact q _ _ H6 s7
end
end G
set_option Elab.async false
set_option linter.all false
set_option maxRecDepth 100000
set_option maxHeartbeats 8000000
/-! W6: the law's turn, whole. -/
namespace G
open PySem PySem.Spec PyProof.Rows L2 NdefX StX
theorem put_len (kvs : List (Key × V)) (k : Key) (v w : V) : (putK kvs k v).length = (putK kvs k w).length := by
  unfold putK
  split
  · rw [List.length_map, List.length_map]
  · rw [List.length_append, List.length_append]
    rfl
section
variable {P : Program} {w : World} {K : PySem.W.Frag} {mg : Str → Option Value} {base : Heap}
theorem r_due {fC C : Addr} {fdC : FuncData} {cdv : Value} {A : Around} {outer : List Env} {s : Shared} {H : Hp} {E : XK} {f : Addr} (c : PlC K C)
    (bC : Binds K fdC ["self", "key", "value"] []) (cO : CallO K C fC) (GC : FnOk P w K mg base CX0 5 fC fdC ["self", "key", "value"] (spPlC C)) (mr : mg "repr" = none) (mD : mg "dict" = none) (mi : mg "isinstance" = none) (mB : mg "bool" = none) (mmx : mg "max" = none) (mmn : mg "min" = none)
    (hg : (A.deeper (envOfC "_law_right" (defScope sR) s.heap.objs.size f cdv)).guards = some []) (hr : Room 5 (A.deeper (envOfC "_law_right" (defScope sR) s.heap.objs.size f cdv))) :
    ∃ t, PSs (cxOf CX0 P w K mg base nR "_law_right" (defScope sR) f cdv A outer s H E).nox (turnR.drop 2) t ∧
      ∀ (De : Ends) (x0 x5 x7 x8 x9 x10 x11 x12 x13 : Option V) (nl a d : Addr) (z : Str) (k : Int) (z0 : Str) (zs : List Str) (kvs : List (Key × V)) (H0 : Hp), H0 nl = some (.lst ((z0 :: zs).map V.str)) → (∀ y ∈ z0 :: zs, NameZ y) → z ∈ z0 :: zs → PlAt C H0 a z k → Wk H0 d (z0 :: zs) kvs →
        (∀ (y7 y8 y9 : Option V) (H' : Hp), Same H0 H' → De.nx [x0, some (.ref nl), some (.str z), some (.int k), some (.ref a), x5, some (.ref d), y7, y8, y9, x10, x11, x12, x13] H') →
        t De [x0, some (.ref nl), some (.str z), some (.int k), some (.ref a), x5, some (.ref d), x7, x8, x9, x10, x11, x12, x13] H0 := by
  have hu := hu_of hr
  obtain ⟨tl, pl, ql⟩ := r_stood (P := P) (w := w) (base := base) (outer := outer) (H := H) (E := E) (cdv := cdv) (s := s) (f := f) c bC cO GC mr mD mi mB mmx mmn hg hr
  refine ⟨_, pss_cons (ps_set (i := 7) scR.nd rfl (.inl rfl) (pe_callTy call_dictD (by rfl) mD (by decide +kernel) (pa_cons (pv 6) pa_nil)))
    (pss_cons (ps_if (pt_cmp (pc_din hu (pv 2) (pv 7)) rfl) (pss_one (ps_dput hu (pv 7) (pv 2) (pe_callB (call_min2 rfl) (by rfl) mmn (by decide +kernel) (pa_cons pe_int (pa_cons (pe_callB (call_max2 rfl) (by rfl) mmx (by decide +kernel)
        (pa_cons (pe_un un_neg pe_int) (pa_cons (pe_op op_add (pe_dget hu (pv 7) (pv 2) (fun _ _ => rfl)) (pv 3)) pa_nil))) pa_nil))) rfl)) pss_nil) pl), ?_⟩
  intro De x0 x5 x7 x8 x9 x10 x11 x12 x13 nl a d z k z0 zs kvs H0 hnl hz hzm hP hW q
  obtain ⟨hd, hv, hnd⟩ := id hW
  have h6 := hv.six
  refine ⟨_, rfl, d, kvs, rfl, .inl hd, fun u nu => ?_⟩
  have go : ∀ H1 : Hp, Same H0 H1 → H1 u = some (.dK (plusK z k kvs)) → tl De [x0, some (.ref nl), some (.str z), some (.int k), some (.ref a), x5, some (.ref d), some (.ref u), x8, x9, x10, x11, x12, x13] H1 := fun H1 s1 eu =>
    ql De x0 x5 x8 x9 x10 x11 x12 x13 nl a d u z k z0 zs kvs H1 (s1 _ _ hnl) hz hzm (hP.same s1) ⟨s1 _ _ hd, hv, hnd⟩ eu fun y8 y9 H' s' => q _ y8 y9 H' (s1.trans s')
  have e0 : plusK z k kvs = (match valV kvs (Sum.inr z) with
    | some (.int m) => putK kvs (Sum.inr z) (.int (clamp (m + k)))
    | _ => kvs) := rfl
  refine ⟨_, rfl, _, rfl, u, _, rfl, DGet.k (k := Sum.inr z) upd_same, _, rfl, ?_⟩
  rcases valN_get hv.is z with e | ⟨m, e, m1, m2⟩
  · rw [e] at e0 ⊢
    exact iteF (go _ (Same.new nu) (by rw [upd_same, e0]))
  · rw [e] at e0 ⊢
    refine iteT ?_
    refine ⟨_, rfl, _, rfl, _, rfl, u, .int m, rfl, .inl ⟨kvs, Sum.inr z, .inl upd_same, rfl, e.symm⟩, _, rfl, _, _, rfl, rfl, _, _, rfl, _, _, rfl, ?_⟩
    rw [clamp_min]
    refine ⟨_, rfl, _, rfl, u, _, rfl, DPut.k (k := Sum.inr z) upd_same (small1000 (by omega)), ?_⟩
    exact go _ (fun c' o e' => (upd_ne (ne_of_none e' nu)).trans ((upd_ne (ne_of_none e' nu)).trans e')) (by rw [upd_same, e0])
theorem r_turn {fT fV fN fC C : Addr} {fdT fdV fdN fdC : FuncData} {cdv : Value} {A : Around} {outer : List Env} {s : Shared} {H : Hp} {E : XK} {f : Addr} (c : PlC K C)
    (T : Fun K "_law_take" "_law_take" sTake fT fdT) (bT : Binds K fdT ["_law_box_here", "_law_many"] []) (gT : mg "_law_take" = some (.ref fT))
    (Nm : Fun K "_law_number" "_law_number" sNumber fN fdN) (bN : Binds K fdN ["_law_box_here"] []) (gN : mg "_law_number" = some (.ref fN))
    (GV : FnOk P w K mg base CX0 3 fV fdV ["_law_box_here", "_law_fields"] (spValue K)) (gV : mg "_law_value" = some (.ref fV)) (kV : PySem.W.keepIn K (.ref fV) = true) (bV : Binds K fdV ["_law_box_here", "_law_fields"] [])
    (bC : Binds K fdC ["self", "key", "value"] []) (cO : CallO K C fC) (GC : FnOk P w K mg base CX0 5 fC fdC ["self", "key", "value"] (spPlC C)) (mr : mg "repr" = none) (mD : mg "dict" = none) (mi : mg "isinstance" = none) (mB : mg "bool" = none) (mmx : mg "max" = none) (mmn : mg "min" = none)
    (hg : (A.deeper (envOfC "_law_right" (defScope sR) s.heap.objs.size f cdv)).guards = some []) (hr : Room 5 (A.deeper (envOfC "_law_right" (defScope sR) s.heap.objs.size f cdv))) (ml : mg "len" = none) :
    ∃ t, PSs (cxOf CX0 P w K mg base nR "_law_right" (defScope sR) f cdv A outer s H E).nox turnR t ∧
      ∀ (De : Ends) (x5 x6 x7 x8 x9 x10 x11 x12 x13 : Option V) (b nl a : Addr) (n : Nat) (z : Str) (k : Int) (z0 : Str) (zs : List Str) (H0 : Hp), BoxAt H0 b n → n ≤ 70000 → nl ≠ b → (z0 :: zs).length ≤ 100 → H0 nl = some (.lst ((z0 :: zs).map V.str)) → (∀ y ∈ z0 :: zs, NameZ y) → z ∈ z0 :: zs → PlAt C H0 a z k → -999 ≤ k → k ≤ 999 →
        (∀ (y6 y7 y8 y9 : Option V) (H' : Hp), BoxAt H' b (n + 230) → But b H0 H' → De.nx [some (.ref b), some (.ref nl), some (.str z), some (.int k), some (.ref a), x5, y6, y7, y8, y9, x10, x11, x12, x13] H') →
        t De [some (.ref b), some (.ref nl), some (.str z), some (.int k), some (.ref a), x5, x6, x7, x8, x9, x10, x11, x12, x13] H0 := by
  have hu := hu_of hr
  have GT : FnOk P w K mg base CX0 1 fT fdT ["_law_box_here", "_law_many"] spTake := ok_take T
  have GN : FnOk P w K mg base CX0 2 fN fdN ["_law_box_here"] spNumber := ok_number Nm T bT gT
  have hr1 := hr.mono (show 1 ≤ 5 by decide)
  have hr2 := hr.mono (show 2 ≤ 5 by decide)
  have hr3 := hr.mono (show 3 ≤ 5 by decide)
  obtain ⟨tl, pl, ql⟩ := r_due (P := P) (w := w) (base := base) (outer := outer) (H := H) (E := E) (cdv := cdv) (s := s) (f := f) c bC cO GC mr mD mi mB mmx mmn hg hr
  refine ⟨_, pss_cons (ps_set (i := 6) scR.nd rfl (.inl rfl) (pe_call GV hr3 rfl gV kV bV .nil pass0 (pa_cons (pv 0) (pa_cons (pv 1) pa_nil))))
    (pss_cons (ps_if (PW.pt (pw_and (pt_cmpR op_eq (pe_call GT hr1 rfl gT T.kp bT .nil pass0 (pa_cons (pv 0) (pa_cons pe_int pa_nil))) pe_int (nomark _)) (pw_and1 (PW.pt (pw_or (pt_cmpR op_lt (pe_callB call_lenD (by rfl) ml PySem.boot_len (pa_cons (pv 6) pa_nil)) pe_int (nomark _)) (pw_or1 (pt_cmp (pc_din hu (pv 2) (pv 6)))))))))
      (pss_one (ps_dput hu (pv 6) (pv 2) (pe_ix ix_list (pe_lst (pa_cons pe_int (pa_cons (pe_un un_neg pe_int) (pa_cons (pe_op op_sub pe_int (pv 3)) (pa_cons pe_int (pa_cons (pe_call GN hr2 rfl gN Nm.kp bN .nil pass0 (pa_cons (pv 0) pa_nil)) pa_nil))))))
        (pe_call GT hr1 rfl gT T.kp bT .nil pass0 (pa_cons (pv 0) (pa_cons pe_int pa_nil))) (fun _ _ => rfl)) rfl)) pss_nil) pl), ?_⟩
  intro De x5 x6 x7 x8 x9 x10 x11 x12 x13 b nl a n z k z0 zs H0 B hn nnb l100 hnl hz hzm hP k1 k2 q
  refine ⟨_, rfl, _, rfl, b, nl, n, z0 :: zs, rfl, B, by omega, hnl, hz, Nat.succ_le_succ (Nat.zero_le _), l100, nnb, fun d H1 kvs nd ed ndk v1 v2 v3 v4 B1 m1 => ?_⟩
  have ndb : d ≠ b := nb_of B1 ed fun xs h => by cases h
  have go : ∀ (H2 : Hp) (kvs' : List (Key × V)), H2 d = some (.dK kvs') → ValOk (z0 :: zs) kvs' → (kvs'.map (·.1)).Nodup → BoxAt H2 b (n + 230) → But b H0 H2 → tl De [some (.ref b), some (.ref nl), some (.str z), some (.int k), some (.ref a), x5, some (.ref d), x7, x8, x9, x10, x11, x12, x13] H2 := fun H2 kvs' e2 ok2 nd2 B2 m2 =>
    ql De _ x5 x7 x8 x9 x10 x11 x12 x13 nl a d z k z0 zs kvs' H2 (m2 _ _ nnb hnl) hz hzm (hP.but B m2) ⟨e2, ok2, nd2⟩ fun y7 y8 y9 H' s' => q _ y7 y8 y9 H' (B2.keep fun o e => s' _ _ e) (m2.trans (But.same s'))
  have ok1 : ValOk (z0 :: zs) kvs := ⟨hz, v1, v2, v3⟩
  refine ⟨_, rfl, b, 2, _, rfl, B1, by omega, by decide, by decide, fun r H2 r0 r1 B2 m2 => ⟨rfl, _, rfl, ite2 (fun _ => ?_) (fun _ => go H2 kvs (m2 _ _ ndb ed) ok1 ndk (B2.mono (by omega)) (m1.trans m2))⟩⟩
  have d2 := m2 _ _ ndb ed
  have stop : tl De [some (.ref b), some (.ref nl), some (.str z), some (.int k), some (.ref a), x5, some (.ref d), x7, x8, x9, x10, x11, x12, x13] H2 := go H2 kvs d2 ok1 ndk (B2.mono (by omega)) (m1.trans m2)
  refine ⟨_, rfl, d, kvs, rfl, d2, _, _, rfl, rfl, _, rfl, ite2 (fun h => ?_) (fun _ => ⟨_, rfl, _, rfl, d, _, rfl, DGet.k (k := Sum.inr z) d2, _, rfl, ite2 (fun h => ?_) (fun _ => stop)⟩)⟩
  have hs : (putK kvs (Sum.inr z) (.int 0)).length ≤ 6 := by
    have h2 : (kvs.length : Int) < 6 := of_decide_eq_true h
    have := length_putK kvs (Sum.inr z) (V.int 0)
    omega
  rotate_left
  have hs : (putK kvs (Sum.inr z) (.int 0)).length ≤ 6 := by
    have e : kvs.any (fun kv => decide (kv.1 = (Sum.inr z : Key))) = true := by
      have h' : (Option.map (fun p : Key × V => p.2) (kvs.find? fun kv => decide (kv.1 = (Sum.inr z : Key)))).isSome = true := h
      rw [Option.isSome_map, List.find?_isSome] at h'
      exact List.any_eq_true.mpr h'
    unfold putK
    rw [if_pos e, List.length_map]
    exact v3
  all_goals
    refine ⟨_, rfl, _, rfl, _, _, rfl, rfl, _, rfl, b, _, rfl, B2, by omega, fun v H3 w1 w2 B3 m3 => ⟨(by show 5 ≤ sizeLine; exact small_size (by decide)), fun p hp => ?_⟩⟩
    have npb := box_ne B3 hp
    refine ⟨_, rfl, b, 5, _, rfl, box_new B3 hp, by omega, by decide, by decide, fun r2 H4 c0 c1 B4 m4 => ?_⟩
    obtain ⟨j, rfl, hj⟩ := draw_at (n := 5) c0 c1 rfl
    have ep4 := m4 _ _ npb upd_same
    have npd : d ≠ p := ne_of_none (m3 _ _ ndb d2) hp
    have d4 : H4 d = some (.dK kvs) := m4 _ _ ndb ((upd_ne npd).trans (m3 _ _ ndb d2))
    obtain ⟨i, hi, i1, i2⟩ : ∃ i : Int, ([.int 999, .int (-999), .int (0 - k), .int 998, .int v] : List V)[j]? = some (.int i) ∧ -999 ≤ i ∧ i ≤ 999 := by
      match j, hj with
      | 0, _ => exact ⟨999, rfl, by decide, by decide⟩
      | 1, _ => exact ⟨-999, rfl, by decide, by decide⟩
      | 2, _ => exact ⟨0 - k, rfl, by omega, by omega⟩
      | 3, _ => exact ⟨998, rfl, by decide, by decide⟩
      | 4, _ => exact ⟨v, rfl, by omega, by omega⟩
    have m14 : But b H0 H4 := ((((m1.trans m2).trans m3).trans (But.new hp)).trans m4)
    have hl : (putK kvs (Sum.inr z) (.int i)).length ≤ 6 := by
      rw [put_len kvs (Sum.inr z) (.int i) (.int 0)]
      exact hs
    have v3' := v3
    refine ⟨p, _, _, .int i, rfl, rfl, .of ep4, atI_nat hi, _, rfl, _, rfl, d, _, rfl, DPut.k (k := Sum.inr z) d4 (small1000 (by omega)), ?_⟩
    exact go _ (putK kvs (Sum.inr z) (.int i)) upd_same ⟨hz, v1.put hzm i1 i2, putK_pos _ _ _, hl⟩ (nodup_put ndk _ _) ((box_upd B4 ndb).mono (by omega)) (fun c' o e1 e2 => by
      by_cases hcd : c' = d
      · exfalso
        have fd : H0 d = none := nd
        rw [hcd, fd] at e2
        cases e2
      · exact (upd_ne hcd).trans (m14 _ _ e1 e2))
end
end G
set_option Elab.async false
set_option linter.all false
set_option maxRecDepth 100000
set_option maxHeartbeats 8000000
/-! W7: _law_right keeps its promise. -/
namespace G
open PySem PySem.Spec PyProof.Rows L2 NdefX StX
theorem two_eqv (z0 z : Str) (v k : Int) : PyData.eqv (.list [.str z0, .int v]) (.list [.str z, .int k]) = eqP z k (some (z0, v)) := by
  have hs : (z0 == z) = decide (z = z0) := by
    by_cases h : z = z0
    · rw [decide_eq_true h, h]
      exact beq_self_eq_true _
    · rw [decide_eq_false h]
      exact Bool.eq_false_iff.mpr fun e => h (beq_iff_eq.mp e).symm
  have hi : (v == k) = decide (k = v) := by
    by_cases h : k = v
    · rw [decide_eq_true h, h]
      exact beq_self_eq_true _
    · rw [decide_eq_false h]
      exact Bool.eq_false_iff.mpr fun e => h (beq_iff_eq.mp e).symm
  rw [PyData.eqv, PyData.eqvAll, PyData.eqvAll, PyData.eqvAll, PyData.eqv, PyData.eqv, hs, hi, Bool.and_true]
  rfl
theorem two_sh {z : Str} {k : Int} (hz : NameZ z) : SeqAt.shaped (.list [.str z, .int k]) = true := lay_list (ds := [.str z, .int k]) fun d hd => by
  rcases List.mem_cons.mp hd with rfl | hd
  · exact hz.1.lay
  · rw [List.mem_singleton.mp hd]
    exact ⟨rfl, rfl, Nat.zero_le _⟩
theorem pl_made2 {C : Addr} {H1 : Hp} {R : Addr → Hp → Prop} {E : XK} {z : Str} {n : Int} (hz : NameZ z) (h1 : -999 ≤ n) (h2 : n ≤ 999) (q : ∀ (a : Addr) (H' : Hp), H1 a = none → PlAt C H' a z n → Same H1 H' → R a H') :
    ∀ x dx, H1 x = Option.none → H1 dx = Option.none → dx ≠ x → spPlI C [.ref x, .str z, .int n] (upd (upd H1 dx (.own x)) x (.ins C dx [])) (fun v H2 => v = .non ∧ R x H2) E := by
  intro x dx hx hdx hne
  refine ⟨x, dx, z, n, rfl, upd_same, hz, h1, h2, fun H' s' => ⟨rfl, q x _ hx ⟨dx, upd_same⟩ fun c o e => ?_⟩⟩
  have n1 := ne_of_none e hx
  rw [upd_ne n1]
  refine s' c o ?_
  rw [upd_ne n1, upd_ne (ne_of_none e hdx)]
  exact e
/-- which of the built-in kinds come before a Plus in a comparison: none -/
structure NfO (K : PySem.W.Frag) (C : Addr) : Prop where
  n : PySem.W.notFirst K C (.type "NoneType") = true
  i : PySem.W.notFirst K C (.type "int") = true
  s : PySem.W.notFirst K C (.type "str") = true
  l : PySem.W.notFirst K C (.type "list") = true
theorem nf_self (K : PySem.W.Frag) (C : Addr) : PySem.W.notFirst K C (.ref C) = true := by
  unfold PySem.W.notFirst
  rw [beq_self_eq_true]
  rfl
theorem two_show {z : Str} {k : Int} (hz : NameZ z) (h1 : -999 ≤ k) (h2 : k ≤ 999) : PyData.showableAll [.str z, .int k] = true ∧ 3 + massAll [.str z, .int k] ≤ sizeLine := by
  refine ⟨?_, ?_⟩
  · simp only [PyData.showableAll, PyData.showable, Bool.and_true, Bool.true_and]
    rw [small_log h1 h2]
  · have := name_repr hz
    simp only [massAll, mass]
    rw [sizeLine_eq]
    omega
def spR : Sp := fun vs H Q _ => ∃ (b nl : Addr) (n : Nat) (z0 : Str) (zs : List Str), vs = [.ref b, .ref nl] ∧ BoxAt H b n ∧ n ≤ 60000 ∧ nl ≠ b ∧ (z0 :: zs).length ≤ 100 ∧ H nl = some (.lst ((z0 :: zs).map V.str)) ∧ (∀ y ∈ z0 :: zs, NameZ y) ∧
  ∀ H' : Hp, BoxAt H' b (n + 1000) → But b H H' → Q (.bl true) H'
section
variable {P : Program} {w : World} {K : PySem.W.Frag} {mg : Str → Option Value} {base : Heap}
theorem ok_right {f fT fV fN fC fI fE fS f1 f2 p1 p2 C : Addr} {fd fdT fdV fdN fdC fdI fdE fdS fd1 fd2 : FuncData} (F : Fun K "_law_right" "_law_right" sR f fd) (c : PlC K C) (nf : NfO K C)
    (T : Fun K "_law_take" "_law_take" sTake fT fdT) (bT : Binds K fdT ["_law_box_here", "_law_many"] []) (gT : mg "_law_take" = some (.ref fT))
    (Nm : Fun K "_law_number" "_law_number" sNumber fN fdN) (bN : Binds K fdN ["_law_box_here"] []) (gN : mg "_law_number" = some (.ref fN))
    (GV : FnOk P w K mg base CX0 3 fV fdV ["_law_box_here", "_law_fields"] (spValue K)) (gV : mg "_law_value" = some (.ref fV)) (kV : PySem.W.keepIn K (.ref fV) = true) (bV : Binds K fdV ["_law_box_here", "_law_fields"] [])
    (M : Mk K C fI) (FI : Fun K "__init__" "Plus.__init__" (sPl 0) fI fdI) (bI : Binds K fdI ["self", "field", "number"] []) (GI : FnOk P w K mg base CX0 3 fI fdI ["self", "field", "number"] (spPlI C)) (gC : mg "Plus" = some (.ref C))
    (P1 : PropOf K C "field" p1 f1) (G1 : FnOk P w K mg base CX0 1 f1 fd1 ["self"] (spPlF C)) (b1 : Binds K fd1 ["self"] []) (P2 : PropOf K C "number" p2 f2) (G2 : FnOk P w K mg base CX0 1 f2 fd2 ["self"] (spPlN C)) (b2 : Binds K fd2 ["self"] [])
    (eE : EqO K C fE) (bE : Binds K fdE ["self", "other"] []) (GE : FnOk P w K mg base CX0 1 fE fdE ["self", "other"] (spPlE C))
    (sS : PySem.W.findIn K (.ref C) "__str__" = some (some (.ref fS))) (iS : PySem.W.isFn K (.ref fS) = true) (bS : Binds K fdS ["self"] []) (GS : FnOk P w K mg base CX0 1 fS fdS ["self"] (spPlS C))
    (bC : Binds K fdC ["self", "key", "value"] []) (cO : CallO K C fC) (GC : FnOk P w K mg base CX0 5 fC fdC ["self", "key", "value"] (spPlC C)) (mr : mg "repr" = none) (mD : mg "dict" = none) (mi : mg "isinstance" = none) (mB : mg "bool" = none) (mmx : mg "max" = none) (mmn : mg "min" = none)
    (ml : mg "len" = none) (mg_ : mg "range" = none) (ms : mg "str" = none) : FnG P w K mg base CX0 6 f fd ["_law_box_here", "_law_names_here"] spR := by
  have GT : FnOk P w K mg base CX0 1 fT fdT ["_law_box_here", "_law_many"] spTake := ok_take T
  have GN : FnOk P w K mg base CX0 2 fN fdN ["_law_box_here"] spNumber := ok_number Nm T bT gT
  refine FnG.of_body F scR (fun vs H Q E h => ?_) (fun cdv A outer s H vs Q E hg hr h => ?_)
  · obtain ⟨b, nl, n, z0, zs, rfl, _⟩ := h
    rfl
  · obtain ⟨b, nl, n, z0, zs, rfl, B, hn, nnb, l100, hnl, hz, q⟩ := h
    have hr1 := hr.mono (show 1 ≤ 5 by decide)
    have hr2 := hr.mono (show 2 ≤ 5 by decide)
    have hr3 := hr.mono (show 1 + 2 ≤ 5 by decide)
    have hr4 := hr.mono (show 3 + 1 ≤ 5 by decide)
    obtain ⟨tl, pl, ql⟩ := r_turn (P := P) (w := w) (base := base) (outer := outer) (H := H) (E := E) (cdv := cdv) (s := s) (f := f) c T bT gT Nm bN gN GV gV kV bV bC cO GC mr mD mi mB mmx mmn hg hr ml
    refine ⟨_, pss_cons (ps_par (i := 2) (j := 3) (by rfl) scR.nd rfl rfl (by decide) rfl rfl (pa_cons (pe_ix ix_list (pv 1) (pe_call GT hr1 rfl gT T.kp bT .nil pass0 (pa_cons (pv 0) (pa_cons (pe_callB call_len_seq (by rfl) ml PySem.boot_len (pa_cons (pv 1) pa_nil)) pa_nil))) (fun _ _ => rfl))
        (pa_cons (pe_call GN hr2 rfl gN Nm.kp bN .nil pass0 (pa_cons (pv 0) pa_nil)) pa_nil)) (by rfl))
      (pss_cons (ps_set (i := 4) scR.nd rfl (.inr rfl) (pe_makeK0 M GI hr4 rfl gC (kb_nf FI fun _ _ _ _ _ _ _ _ _ => rfl) pass0 (pk_cons (pv 3) (pk_cons (pv 2) pk_nil))))
      (pss_cons (ps_if (pt_cmpR op_ne (pe_callB (call_repr hg hr.units) (by rfl) mr (by decide +kernel) (pa_cons (pe_lst (pa_cons (pe_prop (pv 4) c.cl P1 G1 hr2 b1 .nil pass0 rfl) (pa_cons (pe_prop (pv 4) c.cl P2 G2 hr2 b2 .nil pass0 rfl) pa_nil))) pa_nil))
        (pe_callB (call_repr hg hr.units) (by rfl) mr (by decide +kernel) (pa_cons (pe_lst (pa_cons (pv 2) (pa_cons (pv 3) pa_nil))) pa_nil)) (nomark _)) (pss_one (ps_ret pe_bl)) pss_nil)
      (pss_cons (ps_for PassesOwn.never rfl (pi_range1 rfl mg_ (pa_cons pe_int pa_nil)) (pg_name (i := 5) scR.nd rfl (.inl rfl)) pl)
      (pss_cons (ps_set (i := 10) scR.nd rfl (.inl rfl) (pe_lst (pa_cons (pe_ix ix_list (pv 1) pe_int (fun _ _ => rfl)) (pa_cons (pe_call GN hr2 rfl gN Nm.kp bN .nil pass0 (pa_cons (pv 0) pa_nil)) pa_nil))))
      (pss_cons (ps_set (i := 11) scR.nd rfl (.inl rfl) (pe_cmpR (op_eqD hr.units) (pv 10) (pe_lst (pa_cons (pv 2) (pa_cons (pv 3) pa_nil))) (nomark _)))
      (pss_cons (ps_if (pt_cmpR op_ne (pe_callB (call_repr hg hr.units) (by rfl) mr (by decide +kernel) (pa_cons (pe_lst
          (pa_cons (pe_cmpR (op_eqB eE bE GE hr1 pass0) (pv 4) (pe_make M GI hr4 rfl gC bI .nil pass0 (pa_cons (pe_ix ix_list (pv 10) pe_int (fun _ _ => rfl)) (pa_cons (pe_ix ix_list (pv 10) pe_int (fun _ _ => rfl)) pa_nil))) (nomark _))
          (pa_cons (pe_cmpR (op_neB (E := E0) eE bE GE hr2) (pv 4) (pe_make M GI hr4 rfl gC bI .nil pass0 (pa_cons (pe_ix ix_list (pv 10) pe_int (fun _ _ => rfl)) (pa_cons (pe_ix ix_list (pv 10) pe_int (fun _ _ => rfl)) pa_nil))) (nomark _)) pa_nil))) pa_nil))
        (pe_callB (call_repr hg hr.units) (by rfl) mr (by decide +kernel) (pa_cons (pe_lst (pa_cons (pv 11) (pa_cons (pe_not (pv 11)) pa_nil))) pa_nil)) (nomark _)) (pss_one (ps_ret pe_bl)) pss_nil)
      (pss_one (ps_ret (pe_and (pe_cmpR (op_eqB eE bE GE hr1 pass0) (pv 4) (pe_make M GI hr4 rfl gC bI .nil pass0 (pa_cons (pv 2) (pa_cons (pv 3) pa_nil))) (nomark _))
        (pe_one (pe_cmpR (op_eqD hr.units) (pe_lc (own := [("_law_thing", 13)]) (g := gName 13) (by rfl) scR.nd (pi_list (pe_lst (pa_cons pe_non (pa_cons pe_int (pa_cons (pe_callTy (call_strB (E := E0) sS iS bS GS hr3) (by rfl) ms (by decide +kernel) (pa_cons (pv 4) pa_nil)) (pa_cons (pv 10) pa_nil))))))
          (blkOk_by (own := [("_law_thing", 13)]) (N := nR) (sc := defScope sR) (by decide +kernel)) (fun _ _ _ _ _ => pg_name (i := 13) scR.nd rfl (.inl rfl)) (fun _ _ _ _ _ => pts_one (pt_cmpR (r := rEqB K C (spPlE C) E0 true) (op_eqB eE bE GE hr1 pass0) (pv 4) (pv 13) (nomark _))) (fun _ _ _ _ _ => pv 13)) (pe_lst pa_nil) (nomark _)))))))))))), ?_⟩
    refine ⟨_, rfl, _, rfl, _, rfl, nl, _, rfl, .inl (.of hnl), b, _, n, rfl, B, by omega, ?_, ?_, fun r H1 r0 r1 B1 m1 => ?_⟩
    · rw [List.length_map]
      simp
    · rw [List.length_map]
      omega
    obtain ⟨j, rfl, hj⟩ := draw_at (n := (z0 :: zs).length) r0 r1 (by rw [List.length_map])
    have hz1 := hz _ (List.getElem_mem hj)
    have hzm := List.getElem_mem hj
    have en1 := m1 _ _ nnb hnl
    refine ⟨nl, _, _, .str (z0 :: zs)[j], rfl, rfl, .of en1, atI_nat (by rw [List.getElem?_map, List.getElem?_eq_getElem hj] <;> rfl), ?_⟩
    generalize (z0 :: zs)[j] = z at hz1 hzm ⊢
    refine ⟨_, rfl, b, n + 1, rfl, B1, by omega, fun k H2 k1 k2 B2 m2 => ⟨_, _, rfl, ?_⟩⟩
    have en2 := m2 _ _ nnb en1
    refine ⟨_, rfl, _, rfl, rfl, rfl, ?_⟩
    show ∀ x dx, H2 x = Option.none → H2 dx = Option.none → dx ≠ x → spPlI C [.ref x, .str z, .int k] (upd (upd H2 dx (.own x)) x (.ins C dx [])) _ E0
    refine pl_made2 (C := C) (H1 := H2) (E := E0) hz1 k1 k2 fun a H3 na hP s3 => ?_
    have B3 : BoxAt H3 b (n + 1 + 3) := B2.keep fun o e => s3 _ _ e
    have m3 : But b H H3 := (m1.trans m2).trans (But.same s3)
    obtain ⟨dx, ea⟩ := id hP
    obtain ⟨q1, q2⟩ := two_show hz1 k1 k2
    have rp : ∀ Hx : Hp, RpAll K Hx [.str z, .int k] [.str z, .int k] := fun Hx => .cons (.str _) (.cons (.int _) .nil)
    refine ⟨_, rfl, a, dx, _, rfl, ea, a, z, k, rfl, hP, _, rfl, a, dx, _, rfl, ea, a, z, k, rfl, hP, (by show 2 ≤ sizeLine; exact small_size (by decide)), fun p hp => ?_⟩
    refine ⟨p, _, _, rfl, upd_same, rp _, q1, (fun hh => by simp [PyData.hasDictAll, PyData.hasDict] at hh), (by show (1 : Nat) ≤ 20; decide), q2, ?_⟩
    refine ⟨_, rfl, _, rfl, (by show 2 ≤ sizeLine; exact small_size (by decide)), fun p2 hp2 => ⟨p2, _, _, rfl, upd_same, rp _, q1, (fun hh => by simp [PyData.hasDictAll, PyData.hasDict] at hh), (by show (1 : Nat) ≤ 20; decide), q2, rfl, _, rfl, ne_same rfl ?_⟩⟩
    have s4 := (Same.new (o := .lst [.str z, .int k]) hp).trans (Same.new (o := .lst [.str z, .int k]) hp2)
    generalize upd (upd H3 p (.lst [.str z, .int k])) p2 (.lst [.str z, .int k]) = H4 at s4 ⊢
    have B4 : BoxAt H4 b (n + 4) := B3.keep fun o e => s4 _ _ e
    have m4 : But b H H4 := m3.trans (But.same s4)
    have hP4 := hP.same s4
    refine ⟨4, rfl, by decide, by decide, ?_⟩
    refine for_range (lo := 0) (n := 4) (fun i σ H5 => ∃ y5 y6 y7 y8 y9 : Option V, σ = [some (.ref b), some (.ref nl), some (.str z), some (.int k), some (.ref a), y5, y6, y7, y8, y9, none, none, none, none] ∧ BoxAt H5 b (n + 4 + 230 * i) ∧ But b H4 H5) ?_ ?_ ?_
    · exact ⟨none, none, none, none, none, rfl, B4, But.refl _ _⟩
    · rintro i σ H5 hi ⟨y5, y6, y7, y8, y9, rfl, B5, m5⟩
      refine ql _ _ _ _ _ _ _ _ _ _ b nl a (n + 4 + 230 * i) z k z0 zs H5 B5 (by omega) nnb l100 ((m4.trans m5) _ _ nnb hnl) hz hzm (hP4.but B4 m5) k1 k2 fun w6 w7 w8 w9 H6 B6 m6 => ?_
      exact ⟨_, _, _, _, _, rfl, B6.mono (by omega), m5.trans m6⟩
    · rintro σ H5 ⟨y5, y6, y7, y8, y9, rfl, B5, m5⟩
      have m45 := m4.trans m5
      have hP5 := hP4.but B4 m5
      have hz0 := hz z0 List.mem_cons_self
      refine ⟨_, rfl, nl, _, ((0 : Nat) : Int), .str z0, rfl, rfl, .of (m45 _ _ nnb hnl), atI_nat (j := 0) rfl, _, rfl, b, _, rfl, B5, by omega, fun v H6 v1 v2 B6 m6 => ⟨(by show 2 ≤ sizeLine; exact small_size (by decide)), fun o ho => ?_⟩⟩
      have nob := box_ne B6 ho
      have m46 : But b H H6 := m45.trans m6
      have fo : H o = none := free_of m46 nob ho
      have B7 : BoxAt (upd H6 o (.lst [.str z0, .int v])) b (n + 4 + 230 * 4 + 3) := box_new B6 ho
      have m7 : But b H (upd H6 o (.lst [.str z0, .int v])) := but_upd m46 fo
      have hP7 : PlAt C (upd H6 o (.lst [.str z0, .int v])) a z k := (hP5.but B5 m6).same (Same.new ho)
      have eo : (upd H6 o (.lst [.str z0, .int v])) o = some (.lst [.str z0, .int v]) := upd_same
      generalize upd H6 o (.lst [.str z0, .int v]) = H7 at B7 m7 hP7 eo ⊢
      refine ⟨_, rfl, _, rfl, _, rfl, (by show 2 ≤ sizeLine; exact small_size (by decide)), fun p3 hp3 => ⟨.list [.str z0, .int v], .list [.str z, .int k], .lst (.of (Same.new hp3 _ _ eo)) (.cons (.str z0) (.cons (.int v) .nil)), .lst (.of upd_same) (.cons (.str z) (.cons (.int k) .nil)), two_sh hz0, two_sh hz1, ?_⟩⟩
      rw [two_eqv]
      have s8 := Same.new (o := .lst [.str z, .int k]) hp3
      generalize upd H7 p3 (.lst [.str z, .int k]) = H8 at s8 ⊢
      obtain ⟨dx8, ea8⟩ := hP7.same s8
      refine ⟨_, rfl, _, rfl, o, _, ((0 : Nat) : Int), .str z0, rfl, rfl, .of (s8 _ _ eo), atI_nat (j := 0) rfl, _, rfl, o, _, ((1 : Nat) : Int), .int v, rfl, rfl, .of (s8 _ _ eo), atI_nat (j := 1) rfl, pl_made2 (E := E0) hz0 v1 v2 fun c1 H9 nc hC s9 => ?_⟩
      obtain ⟨dc, ec⟩ := id hC
      refine ⟨a, dx8, _, .ref C, rfl, s9 _ _ ea8, .ins ec, nf_self K C, a, z, k, .ref c1, some (z0, v), rfl, ⟨dx8, s9 _ _ ea8⟩, .pl hC, _, rfl, ?_⟩
      have s89 := s8.trans s9
      refine ⟨_, rfl, _, rfl, o, _, ((0 : Nat) : Int), .str z0, rfl, rfl, .of (s89 _ _ eo), atI_nat (j := 0) rfl, _, rfl, o, _, ((1 : Nat) : Int), .int v, rfl, rfl, .of (s89 _ _ eo), atI_nat (j := 1) rfl, pl_made2 (E := E0) hz0 v1 v2 fun c2 H10 nc2 hC2 s10 => ?_⟩
      obtain ⟨dc2, ec2⟩ := id hC2
      have ea10 := s10 _ _ (s9 _ _ ea8)
      refine ⟨a, dx8, _, .ref C, rfl, ea10, .ins ec2, nf_self K C, a, z, k, .ref c2, some (z0, v), rfl, ⟨dx8, ea10⟩, .pl hC2, _, rfl, (by show 2 ≤ sizeLine; exact small_size (by decide)), fun p4 hp4 => ?_⟩
      generalize eqP z k (some (z0, v)) = e
      have rb : ∀ Hx : Hp, RpAll K Hx [.bl e, .bl (!e)] [.bool e, .bool (!e)] := fun Hx => .cons (.bl _) (.cons (.bl _) .nil)
      have sb : 3 + massAll [.bool e, .bool (!e)] ≤ sizeLine := small_size (by show 3 + (5 + 2 + (5 + 2 + 0)) ≤ 7000; decide)
      refine ⟨p4, _, [.bool e, .bool (!e)], rfl, upd_same, rb _, rfl, (fun hh => by simp [PyData.hasDictAll, PyData.hasDict] at hh), (by show (1 : Nat) ≤ 20; decide), sb, ?_⟩
      refine ⟨_, rfl, _, rfl, _, rfl, (by show 2 ≤ sizeLine; exact small_size (by decide)), fun p5 hp5 => ⟨p5, _, [.bool e, .bool (!e)], rfl, upd_same, rb _, rfl, (fun hh => by simp [PyData.hasDictAll, PyData.hasDict] at hh), (by show (1 : Nat) ≤ 20; decide), sb, rfl, _, rfl, ne_same rfl ?_⟩⟩
      have s11 := (Same.new (o := .lst [.bl e, .bl (!e)]) hp4).trans (Same.new (o := .lst [.bl e, .bl (!e)]) hp5)
      refine ⟨_, rfl, _, rfl, _, rfl, pl_made2 (E := E0) hz1 k1 k2 fun c3 H12 nc3 hC3 s12 => ?_⟩
      obtain ⟨dc3, ec3⟩ := id hC3
      have ea12 := s12 _ _ (s11 _ _ ea10)
      refine ⟨a, dx8, _, .ref C, rfl, ea12, .ins ec3, nf_self K C, a, z, k, .ref c3, some (z, k), rfl, ⟨dx8, ea12⟩, .pl hC3, _, rfl, _, rfl, ifY (by simp [eqP]) ?_⟩
      have eo12 := s12 _ _ (s11 _ _ (s10 _ _ (s89 _ _ eo)))
      have s712 : Same H7 H12 := (((s89.trans s10).trans s11).trans s12)
      refine ⟨_, rfl, a, dx8, _, rfl, ea12, a, z, k, rfl, ⟨dx8, ea12⟩, hz1, k1, k2, fun m => ⟨m, rfl, _, rfl, (by show 4 ≤ sizeLine; exact small_size (by decide)), fun w hw => ?_⟩⟩
      refine ⟨w, rfl, ⟨_, .of upd_same⟩, fun D hD => ?_⟩
      have nwD : w ≠ D := fun h => by
        rw [← h, upd_same] at hD
        cases hD
      have sw : Same H12 (upd (upd H12 w (.lst [.non, .int 5, .str m, .ref o])) D (.lst [])) := (Same.new hw).trans (Same.new hD)
      refine lc_list (xs := [.non, .int 5, .str m, .ref o]) (fun i H2 => H2 = upd (upd H12 w (.lst [.non, .int 5, .str m, .ref o])) D (.lst [])) ?_ ?_ ?_ ?_
      · rfl
      · rintro i H2 _ rfl
        exact .of ((upd_ne nwD).trans upd_same)
      · rintro i x H2 hx rfl
        have eaw := sw _ _ ea12
        refine ⟨rfl, ?_⟩
        match i, hx with
        | 0, hx =>
          obtain rfl := Option.some.inj hx
          exact ⟨_, rfl, _, rfl, a, dx8, _, _, rfl, eaw, .non, nf.n, a, z, k, _, none, rfl, ⟨dx8, eaw⟩, .non, _, rfl, _, rfl, iteF rfl⟩
        | 1, hx =>
          obtain rfl := Option.some.inj hx
          exact ⟨_, rfl, _, rfl, a, dx8, _, _, rfl, eaw, .int 5, nf.i, a, z, k, _, none, rfl, ⟨dx8, eaw⟩, .int 5, _, rfl, _, rfl, iteF rfl⟩
        | 2, hx =>
          obtain rfl := Option.some.inj hx
          exact ⟨_, rfl, _, rfl, a, dx8, _, _, rfl, eaw, .str m, nf.s, a, z, k, _, none, rfl, ⟨dx8, eaw⟩, .str m, _, rfl, _, rfl, iteF rfl⟩
        | 3, hx =>
          obtain rfl := Option.some.inj hx
          exact ⟨_, rfl, _, rfl, a, dx8, _, _, rfl, eaw, .lst (sw _ _ eo12), nf.l, a, z, k, _, none, rfl, ⟨dx8, eaw⟩, .lst (sw _ _ eo12), _, rfl, _, rfl, iteF rfl⟩
      · rintro H2 rfl
        refine ⟨(by show 0 ≤ sizeLine; exact Nat.zero_le _), fun l hl => ?_⟩
        have nDl : D ≠ l := fun h => by
          rw [← h, upd_same] at hl
          cases hl
        refine ⟨.list [], .list [], .lst (xs := []) (.of ((upd_ne nDl).trans upd_same)) .nil, .lst (xs := []) (.of upd_same) .nil, rfl, rfl, ?_⟩
        have ee : PyData.eqv (.list []) (.list []) = true := by simp [PyData.eqv, PyData.eqvAll]
        rw [ee]
        have sl := (s712.trans sw).trans (Same.new (o := .lst []) hl)
        exact q _ ((B7.keep fun o' e' => sl _ _ e').mono (by omega)) (m7.trans (But.same sl))
end
end G
set_option Elab.async false
set_option linter.all false
set_option maxRecDepth 100000
set_option maxHeartbeats 4000000
/-! W8: the law. -/
namespace G
open PySem PySem.Spec PyProof.Rows L2 NdefX StX
abbrev sLaw : Stmt := topS 35
abbrev nLaw : List Str := ["_law_script", "_law_k", "_law_box_here", "_law_names_here"]
theorem scLaw : FnScope nLaw ["_law_script"] (defScope sLaw) := ⟨rfl, rfl, rfl, by decide +kernel, rfl, by decide +kernel, by decide +kernel⟩
def spLaw (K : PySem.W.Frag) : Sp := fun vs H Q _ => ∃ (a : Addr) (ns : List Int), vs = [.ref a] ∧ SqL K H a (ns.map V.int) ∧ ns.length ≤ 63 ∧ ∀ H', Q (.bl true) H'
theorem sqL_same {K : PySem.W.Frag} {H H' : Hp} {a : Addr} {xs : List V} (h : SqL K H a xs) (s : Same H H') : SqL K H' a xs := by
  rcases h with (h | ⟨o, h⟩) | h
  · exact .inl (.inl (s _ _ h))
  · exact .inl (.inr ⟨o, s _ _ h⟩)
  · exact .inr h
theorem same_but {b : Addr} {H H1 H2 : Hp} (s : Same H H1) (n : H b = none) (k : But b H1 H2) : Same H H2 := fun c o e => k c o (ne_of_none e n) (s c o e)
section
variable {P : Program} {w : World} {K : PySem.W.Frag} {mg : Str → Option Value} {base : Heap}
theorem ok_law {f fc fb fT fn fR : Addr} {fd fdc fdb fdT fdn fdR : FuncData} (F : Fun K "law" "law" sLaw f fd)
    (Fc : Fun K "_law_cell" "_law_cell" sCell fc fdc) (bc : Binds K fdc ["_law_script", "_law_k"] []) (gc : mg "_law_cell" = some (.ref fc))
    (Fb : Fun K "_law_box" "_law_box" sBox fb fdb) (bb : Binds K fdb ["_law_cell_here"] []) (gb : mg "_law_box" = some (.ref fb))
    (T : Fun K "_law_take" "_law_take" sTake fT fdT) (bT : Binds K fdT ["_law_box_here", "_law_many"] []) (gT : mg "_law_take" = some (.ref fT))
    (kn : PySem.W.keepIn K (.ref fn) = true) (bn : Binds K fdn ["_law_box_here", "_law_many"] []) (gn : mg "_law_names" = some (.ref fn)) (Gn : FnOk P w K mg base CX0 3 fn fdn ["_law_box_here", "_law_many"] spNames)
    (kR : PySem.W.keepIn K (.ref fR) = true) (bR : Binds K fdR ["_law_box_here", "_law_names_here"] []) (gR : mg "_law_right" = some (.ref fR)) (GR : FnG P w K mg base CX0 6 fR fdR ["_law_box_here", "_law_names_here"] spR)
    (mr : mg "range" = none) (mmx : mg "max" = none) (mmn : mg "min" = none) (ml : mg "len" = none) : FnG P w K mg base CX0 7 f fd ["_law_script"] (spLaw K) := by
  have Gc : FnOk P w K mg base CX0 1 fc fdc ["_law_script", "_law_k"] (spCell' K) := ok_cell Fc ml
  have Gb : FnOk P w K mg base CX0 1 fb fdb ["_law_cell_here"] spBox := ok_box Fb mmx
  have GT : FnOk P w K mg base CX0 1 fT fdT ["_law_box_here", "_law_many"] spTake := ok_take T
  refine FnG.of_body F scLaw (fun vs H Q E h => ?_) (fun cdv A outer s H vs Q E hg hr h => ?_)
  · obtain ⟨a, ns, rfl, _⟩ := h
    rfl
  · obtain ⟨a, ns, rfl, hS, hl, q⟩ := h
    have hr1 := hr.mono (show 1 ≤ 6 by decide)
    have hr3 := hr.mono (show 3 ≤ 6 by decide)
    refine ⟨_, pss_cons (ps_for PassesOwn.never rfl (pi_range1 rfl mr (pa_cons (pe_callB (call_max2 rfl) (by rfl) mmx (by decide +kernel) (pa_cons pe_int (pa_cons (pe_callB (call_min2 rfl) (by rfl) mmn (by decide +kernel)
          (pa_cons (pe_callB call_len_seq (by rfl) ml PySem.boot_len (pa_cons (pv 0) pa_nil)) (pa_cons pe_int pa_nil))) pa_nil))) pa_nil)) (pg_name (i := 1) scLaw.nd rfl (.inl rfl))
        (pss_cons (ps_set (i := 2) scLaw.nd rfl (.inl rfl) (pe_call Gb hr1 rfl gb Fb.kp bb .nil pass0 (pa_cons (pe_call Gc hr1 rfl gc Fc.kp bc .nil pass0 (pa_cons (pv 0) (pa_cons (pv 1) pa_nil))) pa_nil)))
        (pss_cons (ps_set (i := 3) scLaw.nd rfl (.inl rfl) (pe_call Gn hr3 rfl gn kn bn .nil pass0 (pa_cons (pv 2) (pa_cons (pe_op op_add pe_int (pe_call GT hr1 rfl gT T.kp bT .nil pass0 (pa_cons (pv 2) (pa_cons pe_int pa_nil)))) pa_nil))))
        (pss_one (ps_if (PW.pt (pw_or (pt_not (pt_val (pe_callG GR hg hr rfl gR kR bR .nil pass0 (pa_cons (pv 2) (pa_cons (pv 3) pa_nil)))))
          (pw_or1 (pt_not (pt_val (pe_callG GR hg hr rfl gR kR bR .nil pass0 (pa_cons (pv 2) (pa_cons (pv 3) pa_nil)))))))) (pss_one (ps_ret pe_bl)) pss_nil)))))
      (pss_one (ps_ret pe_bl)), ?_⟩
    refine ⟨_, rfl, a, _, rfl, .inl hS, _, _, rfl, _, _, rfl, ?_⟩
    generalize hm : (if (if (8 : Int) < ((ns.map V.int).length : Int) then (8 : Int) else ((ns.map V.int).length : Int)) > 2 then (if (8 : Int) < ((ns.map V.int).length : Int) then (8 : Int) else ((ns.map V.int).length : Int)) else 2) = m
    have hm8 : 0 ≤ m ∧ m ≤ 8 := by
      rw [← hm]
      split <;> split at * <;> omega
    refine ⟨m, rfl, by omega, by omega, ?_⟩
    refine for_range (lo := 0) (n := m.toNat) (fun i σ H' => Same H H' ∧ ∃ x1 x2 x3 : Option V, σ = [some (.ref a), x1, x2, x3]) ?_ ?_ ?_
    · exact ⟨Same.refl H, none, none, none, rfl⟩
    · rintro i σ H1 hi ⟨s1, x1, x2, x3, rfl⟩
      refine ⟨_, rfl, _, rfl, a, ns, 0 + i, rfl, sqL_same hS s1, by omega, by omega, fun cell => ⟨cell, rfl, fun b H2 nb s2 B2 => ?_⟩⟩
      refine ⟨_, rfl, _, rfl, b, 7, 0, rfl, B2, by omega, by decide, by decide, fun r H3 r0 r1 B3 k3 => ⟨_, _, rfl, rfl, ?_⟩⟩
      obtain ⟨j, rfl, hj⟩ := draw_at (n := 7) r0 r1 rfl
      have ej : (1 + (j : Int) : Int) = ((1 + j : Nat) : Int) := by omega
      refine ⟨b, 1 + j, 0 + 1, (by show [V.ref b, V.int (1 + (j : Int))] = _; rw [ej]), B3, by decide, by omega, fun p H4 zs lz zn np e4 B4 k4 => ?_⟩
      have npb := box_ne B3 np
      obtain ⟨z0, zs', rfl⟩ : ∃ z0 zs', zs = z0 :: zs' := by
        cases zs with
        | nil =>
          have : (0 : Nat) = 1 + j := lz
          omega
        | cons x r => exact ⟨x, r, rfl⟩
      refine ⟨_, rfl, _, rfl, b, p, _, z0, zs', rfl, B4, by omega, npb, by omega, e4, zn, fun H5 B5 k5 => ⟨_, rfl, iteF ?_⟩⟩
      refine ⟨_, rfl, _, rfl, b, p, _, z0, zs', rfl, B5, by omega, npb, by omega, k5 _ _ npb e4, zn, fun H6 B6 k6 => ⟨_, rfl, iteF ?_⟩⟩
      have nbH : H b = none := s1.free nb
      have s12 : Same H H2 := s1.trans s2
      exact ⟨same_but (same_but (same_but (same_but s12 nbH k3) nbH k4) nbH k5) nbH k6, _, _, _, rfl⟩
    · rintro σ H1 ⟨s1, x1, x2, x3, rfl⟩
      exact q H1
end
end G
set_option Elab.async false
set_option linter.all false
set_option maxRecDepth 100000
set_option maxHeartbeats 2000000
/-! HK: the head's facts by a Hook of our own: methods that capture __class__, properties, instances that are called; the law's end over it. -/
namespace G
open PySem PySem.Spec PyProof.Rows L2 NdefX StX He

/-! ### defs by where they stand -/
/-- a def of the text: where it stands, its names, its statement, the names that it captures -/
structure Dp where
  at_ : PySem.W.Frag → Addr
  name : Str
  qual : Str
  st : Stmt
  clo : List Str
abbrev FnY : Type := Option (Str × Str × Arguments × FuncBody × Scope × Addr × List Str × Addr)
def fnY (K : PySem.W.Frag) (a : Addr) : FnY := match K.lookup a with
  | some ⟨_, _, .func fd, _⟩ => some (fd.name, fd.qualname, fd.params, fd.body, fd.scope, fd.globals, fd.closure.map (·.1), fd.builtins)
  | _ => none
def Dp.val (d : Dp) : FnY := some (d.name, d.qual, defArgs d.st, .stmts (defBody d.st), defScope d.st, mainGlobals, d.clo, builtinsNs)
def noneB : Value → Bool
  | .none => true
  | _ => false
/-- the def's code, no positional defaults -/
def codB (K : PySem.W.Frag) (a : Addr) (q : Str) : Bool := match K.lookup a with
  | some ⟨_, _, .func fd, _⟩ => PySem.W.codeIn K fd.code q && noneB fd.defaults
  | _ => false
def plainB (K : PySem.W.Frag) (a : Addr) (q : Str) : Bool := PySem.W.keepIn K (.ref a) && codB K a q
theorem fun_of {K : PySem.W.Frag} {a : Addr} {d : Dp} (e : fnY K a = d.val) (hc : d.clo = []) (c : plainB K a d.qual = true) : ∃ fd, Fun K d.name d.qual d.st a fd := by
  obtain ⟨kp, c2⟩ := ba c
  unfold fnY Dp.val at e
  rw [hc] at e
  unfold codB at c2
  cases q : K.lookup a with
  | none =>
    rw [q] at c2
    cases c2
  | some o =>
    obtain ⟨oc, od, dt, osl⟩ := o
    rw [q] at c2 e
    cases dt with
    | func fd =>
      obtain ⟨n1, n2, n3, n4, n5, n6, n7, n8, n9, n10, n11, n12, n13, n14, n15⟩ := fd
      have e2 : (some (n1, n2, n3, n4, n5, n6, n7.map (·.1), n15) : FnY) = some (d.name, d.qual, defArgs d.st, .stmts (defBody d.st), defScope d.st, mainGlobals, [], builtinsNs) := e
      simp only [Option.some.injEq, Prod.mk.injEq] at e2
      obtain ⟨h1, h2, h3, h4, h5, h6, h7, h8⟩ := e2
      have h7' : n7 = [] := List.map_eq_nil_iff.mp h7
      subst h1 h2 h3 h4 h5 h6 h7' h8
      have c3 : (PySem.W.codeIn K n13 d.qual && noneB n8) = true := c2
      obtain ⟨k1, k2⟩ := ba c3
      cases n8 with
      | none => exact ⟨_, ⟨oc, od, n9, n10, n11, n12, n13, n14, osl, rfl, q, k1⟩, kp⟩
      | _ => cases k2
    | _ => cases c2
/-- a method that captures __class__ -/
def celC (K : PySem.W.Frag) (cc C : Addr) : Bool := match K.lookup cc with
  | some ⟨_, _, .cell (some (.ref D)), _⟩ => decide (D = C)
  | _ => false
def cloB (K : PySem.W.Frag) (a C : Addr) : Bool := match K.lookup a with
  | some ⟨_, _, .func fd, _⟩ => (match fd.closure with
    | [(_, cc)] => celC K cc C
    | _ => false)
  | _ => false
/-- .. its code object's file -/
def filC (K : PySem.W.Frag) (c : Addr) (file : Str) : Bool := match K.lookup c with
  | some ⟨_, _, .fields vs, _⟩ => (match vs.toList[2]? with
    | some (Value.str fl _) => file == fl
    | _ => false)
  | _ => false
def filV (K : PySem.W.Frag) (v : Value) (file : Str) : Bool := match v with
  | .ref c => filC K c file
  | _ => false
def filB (K : PySem.W.Frag) (a : Addr) (file : Str) : Bool := match K.lookup a with
  | some ⟨_, _, .func fd, _⟩ => filV K fd.code file
  | _ => false
def kwV (K : PySem.W.Frag) (a : Addr) : Value := match K.lookup a with
  | some ⟨_, _, .func fd, _⟩ => fd.kwdefaults
  | _ => .none
/-- what FunX and SupOf want of the def at a, of the class at C -/
structure ClsDef (P : Program) (K : PySem.W.Frag) (d : Dp) (a C : Addr) : Prop where
  ex : ∃ (oc : Value) (od : Option Addr) (doc pm ct : Value) (an : Option Addr) (osl : Array (Option Value)) (cda cc : Addr) (oc3 : Value) (od3 : Option Addr) (sl3 : Array (Option Value)) (oc2 : Value) (od2 : Option Addr) (vs : Array Value) (sl2 : Array (Option Value)) (fl : Str) (tf : Tok),
    K.lookup a = some ⟨oc, od, .func (PySem.W.ksFn d.name d.qual (defArgs d.st) (defBody d.st) (defScope d.st) .none (kwV K a) doc pm an (.ref cda) ct cc), osl⟩ ∧ PySem.W.codeIn K (.ref cda) d.qual = true ∧
    K.lookup cc = some ⟨oc3, od3, .cell (some (.ref C)), sl3⟩ ∧ K.lookup cda = some ⟨oc2, od2, .fields vs, sl2⟩ ∧ vs.toList[2]? = some (Value.str fl tf) ∧ ((P.main.file : Str) == fl) = true
theorem clsdef_of {P : Program} {K : PySem.W.Frag} {a C : Addr} {d : Dp} (e : fnY K a = d.val) (hc : d.clo = [("__class__" : Str)]) (c : (codB K a d.qual && (cloB K a C && filB K a P.main.file)) = true) : ClsDef P K d a C := by
  obtain ⟨c1, c23⟩ := ba c
  obtain ⟨c2, c3⟩ := ba c23
  unfold fnY Dp.val at e
  rw [hc] at e
  unfold codB at c1
  unfold cloB at c2
  unfold filB at c3
  cases q : K.lookup a with
  | none =>
    rw [q] at c1
    cases c1
  | some o =>
    obtain ⟨oc, od, dt, osl⟩ := o
    rw [q] at c1 c2 c3 e
    cases dt with
    | func fd =>
      have ekw : kwV K a = fd.kwdefaults := by
        unfold kwV
        rw [q]
      obtain ⟨n1, n2, n3, n4, n5, n6, n7, n8, n9, n10, n11, n12, n13, n14, n15⟩ := fd
      have e2 : (some (n1, n2, n3, n4, n5, n6, n7.map (·.1), n15) : FnY) = some (d.name, d.qual, defArgs d.st, .stmts (defBody d.st), defScope d.st, mainGlobals, [("__class__" : Str)], builtinsNs) := e
      simp only [Option.some.injEq, Prod.mk.injEq] at e2
      obtain ⟨h1, h2, h3, h4, h5, h6, h7, h8⟩ := e2
      obtain ⟨cc, rfl⟩ : ∃ cc, n7 = [(("__class__" : Str), cc)] := by
        match n7, h7 with
        | [(y, cc)], h7 =>
          have : y = ("__class__" : Str) := by
            have h9 : [y] = [("__class__" : Str)] := h7
            exact List.head_eq_of_cons_eq h9
          exact ⟨cc, by rw [this]⟩
      subst h1 h2 h3 h4 h5 h6 h8
      have c4 : (PySem.W.codeIn K n13 d.qual && noneB n8) = true := c1
      obtain ⟨k1, k2⟩ := ba c4
      have c5 : celC K cc C = true := c2
      unfold celC at c5
      have c6 : filV K n13 P.main.file = true := c3
      obtain ⟨oc3, od3, sl3, hcell⟩ : ∃ oc3 od3 sl3, K.lookup cc = some ⟨oc3, od3, .cell (some (.ref C)), sl3⟩ := by
        split at c5
        · rename_i x1 x2 D x3 ho
          rw [of_decide_eq_true c5] at ho
          exact ⟨_, _, _, ho⟩
        · cases c5
      cases n13 with
      | ref cda =>
        have c7 : filC K cda P.main.file = true := c6
        unfold filC at c7
        obtain ⟨oc2, od2, vs, sl2, fl, tf, w1, w2, w3⟩ : ∃ oc2 od2 vs sl2 fl tf, K.lookup cda = some ⟨oc2, od2, .fields vs, sl2⟩ ∧ vs.toList[2]? = some (Value.str fl tf) ∧ ((P.main.file : Str) == fl) = true := by
          split at c7
          · rename_i x1 x2 vs x3 ho
            split at c7
            · rename_i fl tf hv
              exact ⟨_, _, vs, _, fl, tf, ho, hv, c7⟩
            · cases c7
          · cases c7
        cases n8 with
        | none =>
          refine ⟨oc, od, n10, n11, n14, n12, osl, cda, cc, oc3, od3, sl3, oc2, od2, vs, sl2, fl, tf, ?_, k1, hcell, w1, w2, w3⟩
          rw [ekw]
          exact q
        | _ => cases k2
      | _ => cases c6
    | _ => cases c1
/-- what super() rests on besides -/
def supB (K : PySem.W.Frag) (C f2 : Addr) : Bool := PySem.W.isClsIn K C && (decide (PySem.W.mroIn K C (.ref C) = some true) && (eqO (PySem.W.nsIn K cStatics "thirdparty.any") (some none) && (eqO (PySem.W.ks_superIn K C C "__init__") (some (some (.ref f2))) &&
  (decide (PySem.W.typeIn K (.ref f2) = some (.type "function")) && PySem.W.fnIn K f2))))
/-! ### properties, calls -/
def getr (K : PySem.W.Frag) (p : Addr) : Addr := match PySem.W.recIn K p "property" with
  | some (.ref g :: _) => g
  | _ => 0
def proB (K : PySem.W.Frag) (C : Addr) (f : Str) : Bool := eqO (PySem.W.findIn K (.ref C) f) (some (some (.ref (ma K C f)))) && (eqO (PySem.W.specialIn K (.ref (ma K C f)) "__get__") (some (some (.builtin "property.__get__"))) &&
  (decide (PySem.W.takesIn K (.ref (ma K C f)) = some true) && (match PySem.W.recIn K (ma K C f) "property" with
    | some (.ref _ :: _) => true
    | _ => false)))
theorem pro_ok {K : PySem.W.Frag} {C : Addr} {f : Str} (h : proB K C f = true) : PropOf K C f (ma K C f) (getr K (ma K C f)) := by
  obtain ⟨c1, c⟩ := ba h
  obtain ⟨c2, c⟩ := ba c
  obtain ⟨c3, c4⟩ := ba c
  refine ⟨eqO_ok c1, eqO_ok c2, of_decide_eq_true c3, ?_⟩
  unfold getr
  split at c4
  · rename_i g rest e
    rw [e]
    exact ⟨rest, rfl⟩
  · cases c4
def calB (K : PySem.W.Frag) (C : Addr) : Bool := eqO (PySem.W.findIn K (.ref C) "__call__") (some (some (.ref (ma K C "__call__")))) && (PySem.W.isFn K (.ref (ma K C "__call__")) && PySem.W.fnIn K (ma K C "__call__"))
theorem cal_ok {K : PySem.W.Frag} {C : Addr} (h : calB K C = true) : CallO K C (ma K C "__call__") := by
  obtain ⟨c1, c⟩ := ba h
  obtain ⟨c2, c3⟩ := ba c
  exact ⟨eqO_ok c1, c2, c3⟩
/-! ### the Hook -/
/-- what an object names, as far as the facts ask -/
def refsQ (o : Obj) : List Addr := match o.data with
  | .dict es _ => es.toList.flatMap fun e => refV e.val
  | .func fd => refV fd.code ++ (refV fd.kwdefaults ++ fd.closure.map (·.2))
  | .cls cd => [cd.ns]
  | .fields vs => (match o.cls with
    | .type n => (match decide (n = "property") with
      | true => vs.toList.flatMap refV
      | false => [])
    | _ => [])
  | _ => []
def frL {α : Type} : List Addr → (List Addr → α) → α
  | [], k => k []
  | a :: r, k => HandSHeadRun.frNat a fun a => frL r fun r => k (a :: r)
theorem frL_eq {α : Type} : ∀ (l : List Addr) (k : List Addr → α), frL l k = k l
  | [], _ => rfl
  | a :: r, k => by
    show (HandSHeadRun.frNat a fun a => frL r fun r => k (a :: r)) = _
    rw [HandSHeadRun.frNat_eq, frL_eq r]
def lvl (g : Addr → Option Obj) (as : List Addr) : List Addr := as.flatMap fun a => match g a with
  | some o => refsQ o
  | none => []
def asQ {α : Type} (g : Addr → Option Obj) : Nat → List Addr → List Addr → (List Addr → α) → α
  | 0, fr, acc, k => k (acc ++ fr)
  | n + 1, fr, acc, k => frL (lvl g fr) fun f2 => asQ g n f2 (acc ++ fr) k
theorem asQ_ex {g : Addr → Option Obj} : ∀ (n : Nat) (fr acc : List Addr), ∃ as : List Addr, ∀ (α : Type) (k : List Addr → α), asQ g n fr acc k = k as
  | 0, fr, acc => ⟨acc ++ fr, fun _ _ => rfl⟩
  | n + 1, fr, acc => by
    obtain ⟨as, h⟩ := asQ_ex (g := g) n (lvl g fr) (acc ++ fr)
    refine ⟨as, fun α k => ?_⟩
    show (frL (lvl g fr) fun f2 => asQ g n f2 (acc ++ fr) k) = _
    rw [frL_eq]
    exact h α k
def frK {α : Type} (g : Addr → Option Obj) : List Addr → (PySem.W.Frag → α) → α
  | [], k => k []
  | a :: r, k => match g a with
    | some o => frK g r fun K => k ((a, o) :: K)
    | none => frK g r k
theorem frK_eq {α : Type} {g : Addr → Option Obj} : ∀ (as : List Addr) (k : PySem.W.Frag → α), frK g as k = k (frG g as)
  | [], _ => rfl
  | a :: r, k => by
    unfold frK frG
    rw [List.filterMap_cons]
    cases g a with
    | some o =>
      show (frK g r fun K => k ((a, o) :: K)) = _
      rw [frK_eq r]
      rfl
    | none =>
      show frK g r k = _
      rw [frK_eq r]
      rfl
abbrev AlP : Type := Bool × List FnY
abbrev Ck : Type := PySem.W.Frag → Bool
def obsP (cs : List Ck) (fn : List Dp) (K : PySem.W.Frag) : AlP := (cs.all fun c => c K, fn.map fun d => fnY K (d.at_ K))
def valP (fn : List Dp) : AlP := (true, fn.map Dp.val)
def SaysP (cs : List Ck) (fn : List Dp) (K : PySem.W.Frag) : Prop := obsP cs fn K = valP fn
def obsPG (n : Nat) (cs : List Ck) (fn : List Dp) (g : Addr → Option Obj) : AlP := asQ g n [mainGlobals, cStatics] [] fun as => frK g as fun K => obsP cs fn K
theorem obsPG_ex (n : Nat) (cs : List Ck) (fn : List Dp) (g : Addr → Option Obj) : ∃ as, obsPG n cs fn g = obsP cs fn (frG g as) := by
  obtain ⟨as, h⟩ := asQ_ex (g := g) n [mainGlobals, cStatics] []
  refine ⟨as, ?_⟩
  unfold obsPG
  rw [h, frK_eq]
def hookP (n : Nat) (cs : List Ck) (fn : List Dp) : PySem.W.Hook where
  α := AlP
  obs := fun s => obsPG n cs fn s.heap.get?
  val := fun _ => valP fn
  says := fun _ h => ∃ K : PySem.W.Frag, K.In h ∧ SaysP cs fn K
  of := fun _ s e => by
    obtain ⟨as, h⟩ := obsPG_ex n cs fn s.heap.get?
    rw [h] at e
    exact ⟨_, frG_in, e⟩
  keeps := fun _ _ _ ⟨K, hK, c⟩ k => ⟨K, PySem.W.Frag.In.keeps hK k, c⟩
theorem obsPG_eq {n : Nat} {cs : List Ck} {fn : List Dp} {g : Addr → Option Obj} {s : Shared} (h : ∀ a, g a = s.heap.get? a) : obsPG n cs fn g = (hookP n cs fn).obs s := by
  have e : g = s.heap.get? := funext h
  rw [e] <;> rfl
section
variable {cs : List Ck} {fn : List Dp} {K : PySem.W.Frag}
theorem SaysP.ck (c : SaysP cs fn K) (i : Nat) {f : Ck} (h : cs[i]? = some f := by rfl) : f K = true :=
  List.all_eq_true.mp (show (cs.all fun c => c K) = true from congrArg (fun z : AlP => z.1) c) f (List.mem_of_getElem? h)
theorem SaysP.at_ (c : SaysP cs fn K) (i : Nat) {d : Dp} (h : fn[i]? = some d := by rfl) : fnY K (d.at_ K) = d.val := by
  have e : fn.map (fun d => fnY K (d.at_ K)) = fn.map Dp.val := congrArg (fun z : AlP => z.2) c
  have e2 : (fn.map fun d => fnY K (d.at_ K))[i]? = (fn.map Dp.val)[i]? := by rw [e]
  rw [List.getElem?_map, List.getElem?_map, h] at e2
  exact Option.some.inj e2
end
/-! ### the law's end -/
theorem walk_goE {l : PySem.W.OpenLaw} {n k : Nat} {q : Program} {loose : List Str} {XP : (Str → Option Value) → Heap → Prop} {YP : World → Heap → Prop} {d : DefRec} {x : Str}
    (most : l.most = some n) (few : n ≤ sizeLine) (nodf : d.params.defaults = []) (hr : Room k callerA)
    (F : ∀ (w : World) (mg : Str → Option Value) (fa : Addr) (h : Heap), YP w h → h.Ns mainGlobals mg → mg d.name = some (.ref fa) →
      ∃ (K : PySem.W.Frag) (fd : FuncData) (sp : Sp), K.In h ∧ (∀ (s : Shared) (u : Value), BindsTo s fd ⟨[u], []⟩ [(x, u)]) ∧
        (∀ (H : Hp) (a : Addr) (ns : List Int), ns.length ≤ n → Only H → SqL K H a (ns.map V.int) → sp [.ref a] H (fun v _ => v = .bl true) fun _ _ _ => False) ∧
        ∀ base : Heap, K.In base → base.Ns mainGlobals mg → FnG l.prog w K mg base CX0 k fa fd [x] sp) :
    PySem.W.WalkO q loose XP YP l.row.toRowW d [] (fun f vs => PySem.call f vs) := by
  refine Att.attach_call most nodf
    fun w _ s₁ mg mb fa _ _ _ _ a vs ns top Y _ _ _ atF obj allInt len noG => ?_
  obtain ⟨K, fd, sp, inK, binds, hsp, keeps⟩ := F w mg fa _ Y top.T.g atF
  exact law_go inK top.T.g top.T.b top.T.builtins top.T.nolimit noG obj allInt (Nat.le_trans len few) hr keeps binds
    fun H hO hS => hsp H a ns len hO hS
end G
set_option Elab.async false
set_option linter.all false
set_option maxRecDepth 100000
set_option maxHeartbeats 8000000
/-! XA: what the top has written. -/
namespace G
open PySem PySem.Spec PyProof.Rows L2 NdefX StX
open He in
def eqoB (K : PySem.W.Frag) (C f : Addr) : Bool := eqO (PySem.W.findIn K (.ref C) "__eq__") (some (some (.ref f))) && (PySem.W.isFn K (.ref f) && (eqO (PySem.W.findIn K (.ref C) "__ne__") (some (some (.builtin "object.__ne__"))) && decide (PySem.W.mroIn K C (.type "object") = some true)))
open He in
theorem eqo_ok {K : PySem.W.Frag} {C f : Addr} (h : eqoB K C f = true) : EqO K C f := by
  obtain ⟨c1, h⟩ := ba h
  obtain ⟨c2, h⟩ := ba h
  obtain ⟨c3, c4⟩ := ba h
  exact ⟨eqO_ok c1, c2, eqO_ok c3, of_decide_eq_true c4⟩
open He in
def plcB (K : PySem.W.Frag) (C : Addr) : Bool := eqO (PySem.W.findIn K (.ref C) "__class__") (some (some (.builtin "object.__class__"))) && (eqO (PySem.W.specialIn K (.builtin "object.__class__") "__get__") (some (some (.builtin "getset_descriptor.__get__"))) &&
  (decide (PySem.W.takesIn K (.builtin "object.__class__") = some true) && (decide (PySem.W.mroIn K C (.type "object") = some true) && (decide (PySem.W.kitOne K (.ref C) (.ref C) = some true) && (decide (PySem.W.kitOne K (.type "NoneType") (.ref C) = some false) &&
  (decide (PySem.W.kitOne K (.type "int") (.ref C) = some false) && (decide (PySem.W.kitOne K (.type "str") (.ref C) = some false) && decide (PySem.W.kitOne K (.type "list") (.ref C) = some false))))))))
open He in
theorem plc_ok {K : PySem.W.Frag} {C : Addr} (h : plcB K C = true) (cl : Cls K C) (n1 : NoAttr K C "field_name") (n2 : NoAttr K C "summand") : PlC K C := by
  obtain ⟨c1, h⟩ := ba h
  obtain ⟨c2, h⟩ := ba h
  obtain ⟨c3, h⟩ := ba h
  obtain ⟨c4, h⟩ := ba h
  obtain ⟨c5, h⟩ := ba h
  obtain ⟨c6, h⟩ := ba h
  obtain ⟨c7, h⟩ := ba h
  obtain ⟨c8, c9⟩ := ba h
  exact ⟨cl, n1, n2, eqO_ok c1, eqO_ok c2, of_decide_eq_true c3, of_decide_eq_true c4, of_decide_eq_true c5, of_decide_eq_true c6, of_decide_eq_true c7, of_decide_eq_true c8, of_decide_eq_true c9⟩
def nfB (K : PySem.W.Frag) (C : Addr) : Bool := PySem.W.notFirst K C (.type "NoneType") && (PySem.W.notFirst K C (.type "int") && (PySem.W.notFirst K C (.type "str") && PySem.W.notFirst K C (.type "list")))
open He in
theorem nf_ok {K : PySem.W.Frag} {C : Addr} (h : nfB K C = true) : NfO K C := by
  obtain ⟨c1, h⟩ := ba h
  obtain ⟨c2, h⟩ := ba h
  obtain ⟨c3, c4⟩ := ba h
  exact ⟨c1, c2, c3, c4⟩
open He in
def strB (K : PySem.W.Frag) (C f : Addr) : Bool := eqO (PySem.W.findIn K (.ref C) "__str__") (some (some (.ref f))) && PySem.W.isFn K (.ref f)
abbrev PX : Program := PySem.W.OpenLaw.prog PySem.Challenge.rw_listviews_k20_plus_called
def cks0 : List Ck := [
  fun K => He.Fa.ok K (.free "isinstance"),
  fun K => He.Fa.ok K (.free "int"),
  fun K => He.Fa.ok K (.free "bool"),
  fun K => He.Fa.ok K (.free "str"),
  fun K => He.Fa.ok K (.free "dict"),
  fun K => He.Fa.ok K (.free "len"),
  fun K => He.Fa.ok K (.free "all"),
  fun K => He.Fa.ok K (.free "list"),
  fun K => He.Fa.ok K (.free "range"),
  fun K => He.Fa.ok K (.free "min"),
  fun K => He.Fa.ok K (.free "max"),
  fun K => He.Fa.ok K (.free "repr"),
  fun K => He.Fa.ok K (.str "LETTERS" "abcdefghijklmnopqrstuvwxyz"),
  fun K => He.Fa.ok K (.int "MOST_LETTERS" 8),
  fun K => He.Fa.ok K (.int "MOST_FIELDS" 6),
  fun K => He.Fa.ok K (.int "GREATEST" 999),
  fun K => plainB K (He.ga K "is_integer") "is_integer",
  fun K => He.Fa.ok K (.glo "is_integer"),
  fun K => plainB K (He.ga K "is_name") "is_name",
  fun K => He.Fa.ok K (.glo "is_name"),
  fun K => plainB K (He.ga K "is_value") "is_value",
  fun K => He.Fa.ok K (.glo "is_value"),
  fun K => plainB K (He.ga K "need_integer") "need_integer",
  fun K => He.Fa.ok K (.glo "need_integer"),
  fun K => plainB K (He.ga K "need_name") "need_name",
  fun K => He.Fa.ok K (.glo "need_name"),
  fun K => plainB K (He.ga K "need_value") "need_value",
  fun K => He.Fa.ok K (.glo "need_value"),
  fun K => plainB K (He.ga K "need_record") "need_record",
  fun K => He.Fa.ok K (.glo "need_record")]
def cks1 : List Ck := [
  fun K => plainB K (He.ga K "_law_cell") "_law_cell",
  fun K => He.Fa.ok K (.glo "_law_cell"),
  fun K => plainB K (He.ga K "_law_box") "_law_box",
  fun K => He.Fa.ok K (.glo "_law_box"),
  fun K => plainB K (He.ga K "_law_take") "_law_take",
  fun K => He.Fa.ok K (.glo "_law_take"),
  fun K => plainB K (He.ga K "_law_mixed") "_law_mixed",
  fun K => He.Fa.ok K (.glo "_law_mixed"),
  fun K => plainB K (He.ga K "_law_names") "_law_names",
  fun K => He.Fa.ok K (.glo "_law_names"),
  fun K => plainB K (He.ga K "_law_number") "_law_number",
  fun K => He.Fa.ok K (.glo "_law_number"),
  fun K => plainB K (He.ga K "_law_value") "_law_value",
  fun K => He.Fa.ok K (.glo "_law_value"),
  fun K => plainB K (He.ga K "_law_right") "_law_right",
  fun K => He.Fa.ok K (.glo "_law_right"),
  fun K => plainB K (He.ga K "law") "law",
  fun K => He.Fa.ok K (.glo "law"),
  fun K => He.Fa.ok K (.glo "Plus"),
  fun K => He.Fa.ok K (.cls "Plus"),
  fun K => He.Fa.ok K (.noat "Plus" "field_name"),
  fun K => He.Fa.ok K (.noat "Plus" "summand"),
  fun K => He.Fa.ok K (.mkr "Plus"),
  fun K => plainB K (He.ma K (He.ga K "Plus") "__init__") "Plus.__init__",
  fun K => plainB K (getr K (He.ma K (He.ga K "Plus") "field")) "Plus.field",
  fun K => proB K (He.ga K "Plus") "field",
  fun K => plainB K (getr K (He.ma K (He.ga K "Plus") "number")) "Plus.number",
  fun K => proB K (He.ga K "Plus") "number",
  fun K => plainB K (He.ma K (He.ga K "Plus") "__call__") "Plus.__call__",
  fun K => calB K (He.ga K "Plus")]
def cks2 : List Ck := [
  fun K => plainB K (He.ma K (He.ga K "Plus") "__eq__") "Plus.__eq__",
  fun K => plainB K (He.ma K (He.ga K "Plus") "__str__") "Plus.__str__",
  fun K => eqoB K (He.ga K "Plus") (He.ma K (He.ga K "Plus") "__eq__"),
  fun K => plcB K (He.ga K "Plus"),
  fun K => nfB K (He.ga K "Plus"),
  fun K => strB K (He.ga K "Plus") (He.ma K (He.ga K "Plus") "__str__")]
abbrev cks : List Ck := cks0 ++ cks1 ++ cks2
def fns0 : List Dp := [
  ⟨fun K => He.ga K "is_integer", "is_integer", "is_integer", sIsInt, []⟩,
  ⟨fun K => He.ga K "is_name", "is_name", "is_name", sIsName, []⟩,
  ⟨fun K => He.ga K "is_value", "is_value", "is_value", sIsValue, []⟩,
  ⟨fun K => He.ga K "need_integer", "need_integer", "need_integer", sNeedInt, []⟩,
  ⟨fun K => He.ga K "need_name", "need_name", "need_name", sNeedName, []⟩,
  ⟨fun K => He.ga K "need_value", "need_value", "need_value", sNeedValue, []⟩,
  ⟨fun K => He.ga K "need_record", "need_record", "need_record", sNeedRecord, []⟩,
  ⟨fun K => He.ga K "_law_cell", "_law_cell", "_law_cell", sCell, []⟩,
  ⟨fun K => He.ga K "_law_box", "_law_box", "_law_box", sBox, []⟩,
  ⟨fun K => He.ga K "_law_take", "_law_take", "_law_take", sTake, []⟩,
  ⟨fun K => He.ga K "_law_mixed", "_law_mixed", "_law_mixed", sMixed, []⟩,
  ⟨fun K => He.ga K "_law_names", "_law_names", "_law_names", sNames, []⟩,
  ⟨fun K => He.ga K "_law_number", "_law_number", "_law_number", sNumber, []⟩,
  ⟨fun K => He.ga K "_law_value", "_law_value", "_law_value", sValue, []⟩,
  ⟨fun K => He.ga K "_law_right", "_law_right", "_law_right", sR, []⟩,
  ⟨fun K => He.ga K "law", "law", "law", sLaw, []⟩,
  ⟨fun K => He.ma K (He.ga K "Plus") "__init__", "__init__", "Plus.__init__", (sPl 0), []⟩,
  ⟨fun K => getr K (He.ma K (He.ga K "Plus") "field"), "field", "Plus.field", (sPl 1), []⟩,
  ⟨fun K => getr K (He.ma K (He.ga K "Plus") "number"), "number", "Plus.number", (sPl 2), []⟩,
  ⟨fun K => He.ma K (He.ga K "Plus") "__call__", "__call__", "Plus.__call__", (sPl 3), []⟩]
def fns1 : List Dp := [
  ⟨fun K => He.ma K (He.ga K "Plus") "__eq__", "__eq__", "Plus.__eq__", (sPl 4), []⟩,
  ⟨fun K => He.ma K (He.ga K "Plus") "__str__", "__str__", "Plus.__str__", (sPl 5), []⟩]
abbrev fns : List Dp := fns0 ++ fns1
theorem facts {w : World} {K : PySem.W.Frag} {h : Heap} {mg : Str → Option Value} {fa : Addr} (X : K.In h) (G : h.Ns mainGlobals mg) (hfa : mg "law" = some (.ref fa)) (c : SaysP cks fns K) :
    ∃ fd : FuncData, (∀ (s : Shared) (u : Value), BindsTo s fd ⟨[u], []⟩ [("_law_script", u)]) ∧ ∀ base : Heap, K.In base → base.Ns mainGlobals mg → FnG PX w K mg base CX0 7 fa fd ["_law_script"] (spLaw K) := by
  have m_isinstance : mg "isinstance" = none := He.free_ok X G (c.ck 0 rfl)
  have m_int : mg "int" = none := He.free_ok X G (c.ck 1 rfl)
  have m_bool : mg "bool" = none := He.free_ok X G (c.ck 2 rfl)
  have m_str : mg "str" = none := He.free_ok X G (c.ck 3 rfl)
  have m_dict : mg "dict" = none := He.free_ok X G (c.ck 4 rfl)
  have m_len : mg "len" = none := He.free_ok X G (c.ck 5 rfl)
  have m_all : mg "all" = none := He.free_ok X G (c.ck 6 rfl)
  have m_list : mg "list" = none := He.free_ok X G (c.ck 7 rfl)
  have m_range : mg "range" = none := He.free_ok X G (c.ck 8 rfl)
  have m_min : mg "min" = none := He.free_ok X G (c.ck 9 rfl)
  have m_max : mg "max" = none := He.free_ok X G (c.ck 10 rfl)
  have m_repr : mg "repr" = none := He.free_ok X G (c.ck 11 rfl)
  obtain ⟨tcLet, gcLet⟩ := He.str_ok X G (x := "LETTERS") (c.ck 12 rfl)
  obtain ⟨tcML, gcML⟩ := He.int_ok X G (x := "MOST_LETTERS") (c.ck 13 rfl)
  obtain ⟨tcMF, gcMF⟩ := He.int_ok X G (x := "MOST_FIELDS") (c.ck 14 rfl)
  obtain ⟨tcG, gcG⟩ := He.int_ok X G (x := "GREATEST") (c.ck 15 rfl)
  obtain ⟨fd1, F1⟩ : ∃ fd, Fun K "is_integer" "is_integer" sIsInt (He.ga K "is_integer") fd := fun_of (c.at_ 0 rfl) rfl (c.ck 16 rfl)
  have b1 := F1.binds (ps := ["value", "low", "high"]) fun _ _ _ _ _ _ us hl => match us, hl with | [_, _, _], _ => rfl
  have g1 : mg "is_integer" = some (.ref (He.ga K "is_integer")) := He.glo_ok X G (c.ck 17 rfl)
  have k1 := F1.kp
  obtain ⟨fd2, F2⟩ : ∃ fd, Fun K "is_name" "is_name" sIsName (He.ga K "is_name") fd := fun_of (c.at_ 1 rfl) rfl (c.ck 18 rfl)
  have b2 := F2.binds (ps := ["value"]) fun _ _ _ _ _ _ us hl => match us, hl with | [_], _ => rfl
  have g2 : mg "is_name" = some (.ref (He.ga K "is_name")) := He.glo_ok X G (c.ck 19 rfl)
  have k2 := F2.kp
  obtain ⟨fd3, F3⟩ : ∃ fd, Fun K "is_value" "is_value" sIsValue (He.ga K "is_value") fd := fun_of (c.at_ 2 rfl) rfl (c.ck 20 rfl)
  have b3 := F3.binds (ps := ["value"]) fun _ _ _ _ _ _ us hl => match us, hl with | [_], _ => rfl
  have g3 : mg "is_value" = some (.ref (He.ga K "is_value")) := He.glo_ok X G (c.ck 21 rfl)
  have k3 := F3.kp
  obtain ⟨fd4, F4⟩ : ∃ fd, Fun K "need_integer" "need_integer" sNeedInt (He.ga K "need_integer") fd := fun_of (c.at_ 3 rfl) rfl (c.ck 22 rfl)
  have b4 := F4.binds (ps := ["value", "low", "high"]) fun _ _ _ _ _ _ us hl => match us, hl with | [_, _, _], _ => rfl
  have g4 : mg "need_integer" = some (.ref (He.ga K "need_integer")) := He.glo_ok X G (c.ck 23 rfl)
  have k4 := F4.kp
  obtain ⟨fd5, F5⟩ : ∃ fd, Fun K "need_name" "need_name" sNeedName (He.ga K "need_name") fd := fun_of (c.at_ 4 rfl) rfl (c.ck 24 rfl)
  have b5 := F5.binds (ps := ["value"]) fun _ _ _ _ _ _ us hl => match us, hl with | [_], _ => rfl
  have g5 : mg "need_name" = some (.ref (He.ga K "need_name")) := He.glo_ok X G (c.ck 25 rfl)
  have k5 := F5.kp
  obtain ⟨fd6, F6⟩ : ∃ fd, Fun K "need_value" "need_value" sNeedValue (He.ga K "need_value") fd := fun_of (c.at_ 5 rfl) rfl (c.ck 26 rfl)
  have b6 := F6.binds (ps := ["value"]) fun _ _ _ _ _ _ us hl => match us, hl with | [_], _ => rfl
  have g6 : mg "need_value" = some (.ref (He.ga K "need_value")) := He.glo_ok X G (c.ck 27 rfl)
  have k6 := F6.kp
  obtain ⟨fd7, F7⟩ : ∃ fd, Fun K "need_record" "need_record" sNeedRecord (He.ga K "need_record") fd := fun_of (c.at_ 6 rfl) rfl (c.ck 28 rfl)
  have b7 := F7.binds (ps := ["key", "value"]) fun _ _ _ _ _ _ us hl => match us, hl with | [_, _], _ => rfl
  have g7 : mg "need_record" = some (.ref (He.ga K "need_record")) := He.glo_ok X G (c.ck 29 rfl)
  have k7 := F7.kp
  obtain ⟨fd8, F8⟩ : ∃ fd, Fun K "_law_cell" "_law_cell" sCell (He.ga K "_law_cell") fd := fun_of (c.at_ 7 rfl) rfl (c.ck 30 rfl)
  have b8 := F8.binds (ps := ["_law_script", "_law_k"]) fun _ _ _ _ _ _ us hl => match us, hl with | [_, _], _ => rfl
  have g8 : mg "_law_cell" = some (.ref (He.ga K "_law_cell")) := He.glo_ok X G (c.ck 31 rfl)
  have k8 := F8.kp
  obtain ⟨fd9, F9⟩ : ∃ fd, Fun K "_law_box" "_law_box" sBox (He.ga K "_law_box") fd := fun_of (c.at_ 8 rfl) rfl (c.ck 32 rfl)
  have b9 := F9.binds (ps := ["_law_cell_here"]) fun _ _ _ _ _ _ us hl => match us, hl with | [_], _ => rfl
  have g9 : mg "_law_box" = some (.ref (He.ga K "_law_box")) := He.glo_ok X G (c.ck 33 rfl)
  have k9 := F9.kp
  obtain ⟨fdA, FA⟩ : ∃ fd, Fun K "_law_take" "_law_take" sTake (He.ga K "_law_take") fd := fun_of (c.at_ 9 rfl) rfl (c.ck 34 rfl)
  have bA := FA.binds (ps := ["_law_box_here", "_law_many"]) fun _ _ _ _ _ _ us hl => match us, hl with | [_, _], _ => rfl
  have gA : mg "_law_take" = some (.ref (He.ga K "_law_take")) := He.glo_ok X G (c.ck 35 rfl)
  have kA := FA.kp
  obtain ⟨fdB, FB⟩ : ∃ fd, Fun K "_law_mixed" "_law_mixed" sMixed (He.ga K "_law_mixed") fd := fun_of (c.at_ 10 rfl) rfl (c.ck 36 rfl)
  have bB := FB.binds (ps := ["_law_box_here", "_law_some"]) fun _ _ _ _ _ _ us hl => match us, hl with | [_, _], _ => rfl
  have gB : mg "_law_mixed" = some (.ref (He.ga K "_law_mixed")) := He.glo_ok X G (c.ck 37 rfl)
  have kB := FB.kp
  obtain ⟨fdC, FC⟩ : ∃ fd, Fun K "_law_names" "_law_names" sNames (He.ga K "_law_names") fd := fun_of (c.at_ 11 rfl) rfl (c.ck 38 rfl)
  have bC := FC.binds (ps := ["_law_box_here", "_law_many"]) fun _ _ _ _ _ _ us hl => match us, hl with | [_, _], _ => rfl
  have gC : mg "_law_names" = some (.ref (He.ga K "_law_names")) := He.glo_ok X G (c.ck 39 rfl)
  have kC := FC.kp
  obtain ⟨fdD, FD⟩ : ∃ fd, Fun K "_law_number" "_law_number" sNumber (He.ga K "_law_number") fd := fun_of (c.at_ 12 rfl) rfl (c.ck 40 rfl)
  have bD := FD.binds (ps := ["_law_box_here"]) fun _ _ _ _ _ _ us hl => match us, hl with | [_], _ => rfl
  have gD : mg "_law_number" = some (.ref (He.ga K "_law_number")) := He.glo_ok X G (c.ck 41 rfl)
  have kD := FD.kp
  obtain ⟨fdE, FE⟩ : ∃ fd, Fun K "_law_value" "_law_value" sValue (He.ga K "_law_value") fd := fun_of (c.at_ 13 rfl) rfl (c.ck 42 rfl)
  have bE := FE.binds (ps := ["_law_box_here", "_law_fields"]) fun _ _ _ _ _ _ us hl => match us, hl with | [_, _], _ => rfl
  have gE : mg "_law_value" = some (.ref (He.ga K "_law_value")) := He.glo_ok X G (c.ck 43 rfl)
  have kE := FE.kp
  obtain ⟨fdri, Fri⟩ : ∃ fd, Fun K "_law_right" "_law_right" sR (He.ga K "_law_right") fd := fun_of (c.at_ 14 rfl) rfl (c.ck 44 rfl)
  have bri := Fri.binds (ps := ["_law_box_here", "_law_names_here"]) fun _ _ _ _ _ _ us hl => match us, hl with | [_, _], _ => rfl
  have gri : mg "_law_right" = some (.ref (He.ga K "_law_right")) := He.glo_ok X G (c.ck 45 rfl)
  have kri := Fri.kp
  obtain ⟨fdL, FL⟩ : ∃ fd, Fun K "law" "law" sLaw (He.ga K "law") fd := fun_of (c.at_ 15 rfl) rfl (c.ck 46 rfl)
  have bL := FL.binds (ps := ["_law_script"]) fun _ _ _ _ _ _ us hl => match us, hl with | [_], _ => rfl
  have gL : mg "law" = some (.ref (He.ga K "law")) := He.glo_ok X G (c.ck 47 rfl)
  have kL := FL.kp
  have gPl : mg "Plus" = some (.ref (He.ga K "Plus")) := He.glo_ok X G (c.ck 48 rfl)
  have cPl : Cls K (He.ga K "Plus") := He.cls_ok (c.ck 49 rfl)
  have nPl_field_name : NoAttr K (He.ga K "Plus") "field_name" := He.noat_ok (c.ck 50 rfl)
  have nPl_summand : NoAttr K (He.ga K "Plus") "summand" := He.noat_ok (c.ck 51 rfl)
  have MPl : Mk K (He.ga K "Plus") (He.ma K (He.ga K "Plus") "__init__") := He.mkr_ok (c.ck 52 rfl)
  obtain ⟨fdin, Fin⟩ : ∃ fd, Fun K "__init__" "Plus.__init__" (sPl 0) (He.ma K (He.ga K "Plus") "__init__") fd := fun_of (c.at_ 16 rfl) rfl (c.ck 53 rfl)
  have bin := Fin.binds (ps := ["self", "field", "number"]) fun _ _ _ _ _ _ us hl => match us, hl with | [_, _, _], _ => rfl
  obtain ⟨fdf1, Ff1⟩ : ∃ fd, Fun K "field" "Plus.field" (sPl 1) (getr K (He.ma K (He.ga K "Plus") "field")) fd := fun_of (c.at_ 17 rfl) rfl (c.ck 54 rfl)
  have bf1 := Ff1.binds (ps := ["self"]) fun _ _ _ _ _ _ us hl => match us, hl with | [_], _ => rfl
  have Pf1 : PropOf K (He.ga K "Plus") "field" (He.ma K (He.ga K "Plus") "field") (getr K (He.ma K (He.ga K "Plus") "field")) := pro_ok (c.ck 55 rfl)
  obtain ⟨fdf2, Ff2⟩ : ∃ fd, Fun K "number" "Plus.number" (sPl 2) (getr K (He.ma K (He.ga K "Plus") "number")) fd := fun_of (c.at_ 18 rfl) rfl (c.ck 56 rfl)
  have bf2 := Ff2.binds (ps := ["self"]) fun _ _ _ _ _ _ us hl => match us, hl with | [_], _ => rfl
  have Pf2 : PropOf K (He.ga K "Plus") "number" (He.ma K (He.ga K "Plus") "number") (getr K (He.ma K (He.ga K "Plus") "number")) := pro_ok (c.ck 57 rfl)
  obtain ⟨fdca, Fca⟩ : ∃ fd, Fun K "__call__" "Plus.__call__" (sPl 3) (He.ma K (He.ga K "Plus") "__call__") fd := fun_of (c.at_ 19 rfl) rfl (c.ck 58 rfl)
  have bca := Fca.binds (ps := ["self", "key", "value"]) fun _ _ _ _ _ _ us hl => match us, hl with | [_, _, _], _ => rfl
  have Mca : CallO K (He.ga K "Plus") (He.ma K (He.ga K "Plus") "__call__") := cal_ok (c.ck 59 rfl)
  obtain ⟨fdeq, Feq⟩ : ∃ fd, Fun K "__eq__" "Plus.__eq__" (sPl 4) (He.ma K (He.ga K "Plus") "__eq__") fd := fun_of (c.at_ 20 rfl) rfl (c.ck 60 rfl)
  have beq := Feq.binds (ps := ["self", "other"]) fun _ _ _ _ _ _ us hl => match us, hl with | [_, _], _ => rfl
  obtain ⟨fdst, Fst⟩ : ∃ fd, Fun K "__str__" "Plus.__str__" (sPl 5) (He.ma K (He.ga K "Plus") "__str__") fd := fun_of (c.at_ 21 rfl) rfl (c.ck 61 rfl)
  have bst := Fst.binds (ps := ["self"]) fun _ _ _ _ _ _ us hl => match us, hl with | [_], _ => rfl
  have eE : EqO K (He.ga K "Plus") (He.ma K (He.ga K "Plus") "__eq__") := eqo_ok (c.ck 62 rfl)
  have cc : PlC K (He.ga K "Plus") := plc_ok (c.ck 63 rfl) cPl nPl_field_name nPl_summand
  have nf : NfO K (He.ga K "Plus") := nf_ok (c.ck 64 rfl)
  obtain ⟨sS1, sS2⟩ := He.ba (c.ck 65 rfl : strB K (He.ga K "Plus") (He.ma K (He.ga K "Plus") "__str__") = true)
  have e := hfa.symm.trans gL
  cases e
  obtain ⟨_, _, _, _, _, _, _, _, _, hfd, _, _⟩ := FL.ex
  refine ⟨fdL, fun s u => by rw [hfd]; exact .of_eq rfl, fun base _ _ => ?_⟩
  skip
  have O1 : FnOk PX w K mg base CX0 1 _ _ ["value", "low", "high"] spIsInt := ok_isint F1 m_isinstance m_int m_bool
  have O2 : FnOk PX w K mg base CX0 1 _ _ ["value"] spIsName := ok_isname F2 gcML gcLet m_isinstance m_str m_len m_all
  have O4 : FnOk PX w K mg base CX0 2 _ _ ["value", "low", "high"] spNeedInt := ok_needint F4 F1 b1 g1 O1
  have O5 : FnOk PX w K mg base CX0 2 _ _ ["value"] spNeedName := ok_needname F5 F2 b2 g2 O2
  have O3 : FnOk PX w K mg base CX0 2 _ _ ["value"] spIsValue := ok_isvalue F3 F2 b2 g2 O2 F1 b1 g1 O1 gcMF gcG m_isinstance m_dict m_len m_all
  have O6 : FnOk PX w K mg base CX0 3 _ _ ["value"] spNeedValue := ok_needvalue F6 F3 b3 g3 O3
  have O7 : FnOk PX w K mg base CX0 4 _ _ ["key", "value"] spNeedRecord := ok_needrecord F7 k5 b5 g5 O5 k6 b6 g6 O6
  have OI : FnOk PX w K mg base CX0 3 _ _ ["self", "field", "number"] (spPlI (He.ga K "Plus")) := ok_plinit Fin cc gcG O5 g5 k5 b5 O4 g4 k4 b4
  have Of1 : FnOk PX w K mg base CX0 1 _ _ ["self"] (spPlF (He.ga K "Plus")) := ok_plfield Ff1 cc
  have Of2 : FnOk PX w K mg base CX0 1 _ _ ["self"] (spPlN (He.ga K "Plus")) := ok_plnumber Ff2 cc
  have Oc : FnOk PX w K mg base CX0 5 _ _ ["self", "key", "value"] (spPlC (He.ga K "Plus")) := ok_plcall Fca cc gcG k7 b7 g7 O7 m_dict m_max m_min
  have Oe : FnOk PX w K mg base CX0 1 _ _ ["self", "other"] (spPlE (He.ga K "Plus")) := ok_pleq Feq cc gPl m_isinstance
  have Os : FnOk PX w K mg base CX0 1 _ _ ["self"] (spPlS (He.ga K "Plus")) := ok_plstr Fst cc
  have Nn : FnOk PX w K mg base CX0 3 _ _ ["_law_box_here", "_law_many"] spNames := ok_names FC FA bA gA FB bB gB m_len m_list m_range
  have Nv : FnOk PX w K mg base CX0 3 _ _ ["_law_box_here", "_law_fields"] (spValue K) := ok_value FE FA bA gA FB bB gB FD bD gD m_len m_list m_min
  have Ri : FnG PX w K mg base CX0 6 _ _ ["_law_box_here", "_law_names_here"] spR := ok_right Fri cc nf FA bA gA FD bD gD Nv gE kE bE MPl Fin bin OI gPl Pf1 Of1 bf1 Pf2 Of2 bf2 eE beq Oe (He.eqO_ok sS1) sS2 bst Os bca Mca Oc m_repr m_dict m_isinstance m_bool m_max m_min m_len m_range m_str
  exact ok_law FL F8 b8 g8 F9 b9 g9 FA bA gA kC bC gC Nn kri bri gri Ri m_range m_max m_min m_len
end G
set_option Elab.async false
set_option linter.all false
set_option maxRecDepth 100000
set_option maxHeartbeats 8000000
/-! XB: the top's run. -/
namespace G
open PySem PySem.Spec PyProof.Rows L2 NdefX StX
abbrev hk : PySem.W.Hook := hookP 5 cks fns
def ob (s : PySem.W.SharedT) : AlP := obsPG 5 cks fns (HandSHeadRun.getT s)
theorem ob_eq (s : PySem.W.SharedT) : ob s = hk.obs s.abs := obsPG_eq (HandSHeadRun.getT_eq s)
def loose0 : List Str := ["BoardError", "InvalidInteger", "InvalidName", "InvalidValue", "InvalidText", "LETTERS", "DIGITS", "MOST_LETTERS", "MOST_FIELDS", "MOST_DIGITS", "GREATEST", "is_integer", "is_name", "is_value", "parse_integer", "is_decimal", "split_words", "need_integer", "need_name", "need_value", "need_record", "Plus", "_law_cell", "_law_box", "_law_take", "_law_mixed", "_law_names", "_law_number", "_law_value", "_law_right"]
abbrev looseX : List Str := loose0
theorem run (w : World) : HandSHeadRun.RunEq (PySem.W.OpenLaw.row PySem.Challenge.rw_listviews_k20_plus_called) (PySem.W.view PX [35]) hk ob 20000 looseX w := by
  intro os
  kernel_rfl
end G
set_option Elab.async false
set_option linter.all false
set_option maxRecDepth 100000
set_option maxHeartbeats 8000000
/-! XC: the end. -/
open PySem PySem.W PySem.Calls PyProof.Rows
set_option maxRecDepth 100000 in
set_option maxHeartbeats 0 in
theorem PySem.Challenge.cw_listviews_k20_plus_called_holds : PySem.Challenge.rw_listviews_k20_plus_called.Holds := by
  w_on; o_law
  refine HandSHeadRun.head_any (r := OpenLaw.row PySem.Challenge.rw_listviews_k20_plus_called) (q := view (OpenLaw.row PySem.Challenge.rw_listviews_k20_plus_called).prog [35]) (H := G.hk) (ob := G.ob) (M := 20000) (loose := G.looseX) (d := HandSHeadRun.topDef (OpenLaw.row PySem.Challenge.rw_listviews_k20_plus_called).prog 35) (kwd := []) G.ob_eq
    (by kernel_rfl) (fun s => by kernel_rfl) G.run (by kernel_rfl) (by kernel_rfl) (by kernel_rfl) (by rfl) (by first | assumption | decide +kernel) (by decide +kernel) ⟨rfl, rfl, rfl, rfl, rfl, by decide +kernel⟩ ?hw ?hc
  case hw => w_witness2
  case hc =>
    refine G.walk_goE (l := PySem.Challenge.rw_listviews_k20_plus_called) (n := 63) (k := 7) (x := "_law_script") rfl (by decide) (by kernel_rfl) ⟨rfl, by decide, by decide⟩ ?F
    intro w mg fa h Y GX hmg0
    obtain ⟨K, KX, c⟩ := Y
    have hmg : mg ("law" : PySem.Str) = some (.ref fa) := by
      have e : (HandSHeadRun.topDef (OpenLaw.row PySem.Challenge.rw_listviews_k20_plus_called).prog 35).name = ("law" : PySem.Str) := by kernel_rfl
      rw [← e]
      exact hmg0
    obtain ⟨fd, hb, hF⟩ := G.facts (w := w) KX GX hmg c
    exact ⟨K, fd, G.spLaw K, KX, hb, fun H a ns hl _ hS => ⟨a, ns, rfl, hS, hl, fun _ => rfl⟩, hF⟩
