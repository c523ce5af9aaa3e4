import PyProof.Rows.All
import Wide.All
import OpenK.AllK
import Wide.FinOn
import HandS.ForMost
import HandS.Star
import PyProof.Draws
import PyProof.ZipIter
import HandS.IsInst
import HandS.JoinGen
import PyProof.GenCompD
import PyProof.SumAny
import PyProof.WalksMore
import HandS.Wide
import KE.GoesEnum
import HandS.Conv
import HandS.SetFor
import HandS.Strs
import HandS.SortInts
import HandS.AnyAll
import HandS.Lambda
import PyProof.ConsumeS
import KE.KSortKeyAny
import HandS.SortKw
import KE.KMathGC
import HandS.Defaults
import PySem.Challenge.RW_allknown_k07_whole_numbers
import HandS.CallSlots
import KE.KDictWalk
import HandS.Gcd
import HandS.StrMore
import HandS.ForExc
import HandS.RaiseMore
import HandS.ExcIs
import PyProof.StrOps2
import HandS.EndTab
import HandS.EndBits
import KE.KNest
set_option Elab.async false
set_option linter.all false
set_option maxRecDepth 100000
set_option maxHeartbeats 2000000
namespace AK
open PySem PySem.Spec PyProof.Rows L2

theorem zn_typeCall (us : List Value) : checkTypeCall "zip" ⟨us, []⟩ = pure () := by kernel_rfl
theorem zn_newCall (us : List Value) : checkBuiltinCall "zip.__new__" ⟨.type "zip" :: us, []⟩ = pure () := by
  cases us with
  | nil => kernel_rfl
  | cons u r => kernel_rfl
theorem zn_initArgs (obj : Value) (us : List Value) : argsOk "object.__init__" ⟨obj :: us, []⟩ := by
  unfold argsOk; rw [signature?_of (id := "object.__init__") (n := ['_', '_', 't', 'i', 'n', 'i', '_', '_']) (o := ['t', 'c', 'e', 'j', 'b', 'o']) (by kernel_rfl) F.owner_object]; kernel_rfl

section
variable {M : Model} {A : Around} {E : Value → Shared → Prop}
/-- a loop over a list, by what holds ahead of each turn -/
theorem forIn_turns {α β : Type} {f : α → β → Sem (ForInStep β)} {Q : β → Shared → Prop} (J : Nat → β → Shared → Prop) :
    ∀ (l : List α) (i : Nat) (b : β) (s : Shared), J i b s →
      (∀ k a b s, l[k]? = some a → J (i + k) b s → wpAny M A (f a b) (fun r s' => ∃ b', r = .yield b' ∧ J (i + k + 1) b' s') E s) →
      (∀ b s, J (i + l.length) b s → Q b s) → wpAny M A (forIn l b f) Q E s
  | [], i, b, s, h, _, hQ => by
    rw [List.forIn_nil]
    exact wpAny_pure (hQ b s h)
  | a :: l, i, b, s, h, hs, hQ => by
    rw [List.forIn_cons]
    refine wpAny_bind (wpAny_mono (hs 0 a b s rfl h) (fun r s' ⟨b', e, j⟩ => ?_) fun _ _ x => x)
    subst e
    refine forIn_turns J l (i + 1) b' s' j (fun k a b s hk hj => ?_) fun b s hj => hQ b s ?_
    · have e : i + 1 + k = i + (k + 1) := by omega
      rw [e] at hj ⊢
      exact hs (k + 1) a b s hk hj
    · have e : i + 1 + l.length = i + (l.length + 1) := by omega
      rw [e] at hj
      exact hj
/-- the same where every turn goes on, the state alone is told -/
theorem wpAny_loadIfAlive {a : Addr} {s : Shared} {Q : Option Obj → Shared → Prop} (h : Q (s.heap.get? a) s) : wpAny M A (loadIfAlive a) Q E s := fun _ _ _ => h
end

theorem ne_adr {a b : Nat} (h : a < b ∨ b < a) : a ≠ b := by omega
/-! ### zip over texts of small signs, any number of them -/
def refs (b k : Nat) : List Value := (List.range k).map fun j => Value.ref (b + j)
theorem refs_len (b k : Nat) : (refs b k).length = k := by simp [refs]
theorem refs_get {b k j : Nat} (h : j < k) : (refs b k)[j]? = some (.ref (b + j)) := by simp [refs, h]
theorem refs_succ (b k : Nat) : refs b (k + 1) = refs b k ++ [.ref (b + k)] := by simp [refs, List.range_succ]
def txts (us : List (Str × Tok)) : List Value := us.map fun u => .str u.1 u.2
/-- the zip object at b + n + 2 over the iterators at b .. b + n - 1, the j-th at place c j -/
structure ZAt (h : Heap) (b : Nat) (us : List (Str × Tok)) (c : Nat → Nat) (ok : Value → Prop := fun f0 => f0 = .none ∨ ∃ a t, f0 = .int a t) : Prop where
  z : ∃ f0 f1 : Value, ok f0 ∧ h.get? (b + us.length + 2) = some { cls := .type "zip", dict := none, data := .fields #[f0, f1, .bool false, .ref (b + us.length), .ref (b + us.length + 1)], slots := #[] }
  TI : h.get? (b + us.length) = some { cls := .type "tuple", data := .seq (refs b us.length).toArray }
  TO : ∃ xs : Array Value, xs.size = us.length ∧ h.get? (b + us.length + 1) = some { cls := .type "tuple", data := .seq xs }
  its : ∀ (j : Nat) (u : Str × Tok), us[j]? = some u → h.IsStrIter (b + j) "str_ascii_iterator" u.1 u.2 (c j)
/-- what the j-th text holds at i -/
def SignsAt (us : List (Str × Tok)) (i : Nat) (xs : List Value) : Prop := xs.length = us.length ∧ ∀ (j : Nat) (u : Str × Tok), us[j]? = some u → ∃ c t, u.1.cps[i]? = some c ∧ xs[j]? = some (.str ⟨#[c]⟩ t)
abbrev Out (b n : Nat) (h h' : Heap) : Prop := ∀ c o, ¬(b ≤ c ∧ c < b + n + 3) → h.get? c = some o → h'.get? c = some o
section
variable {prog : Program} {w : World} {A : Around} {E : Value → Shared → Prop} {s : Shared}
theorem iterAll_txts (us : List (Str × Tok)) (ha : ∀ u ∈ us, u.1.cps.all (· < 128) = true) {Q : List Value → Shared → Prop}
    (hQ : ∀ h', h'.objs.size = s.heap.objs.size + us.length → (∀ c o, s.heap.get? c = some o → h'.get? c = some o) →
      (∀ (j : Nat) (u : Str × Tok), us[j]? = some u → h'.IsStrIter (s.heap.objs.size + j) "str_ascii_iterator" u.1 u.2 0) → Q (refs s.heap.objs.size us.length) { s with heap := h' }) :
    wpAny (model prog w) A (Builtin.SmallTypes.iterAll (txts us)) Q E s := by
  unfold Builtin.SmallTypes.iterAll
  refine wpAny_bind ?_
  refine forIn_turns (fun i b s' => b.toList = refs s.heap.objs.size i ∧ ∃ h', s' = { s with heap := h' } ∧ h'.objs.size = s.heap.objs.size + i ∧ (∀ c o, s.heap.get? c = some o → h'.get? c = some o) ∧
      (∀ (j : Nat) (u : Str × Tok), j < i → us[j]? = some u → h'.IsStrIter (s.heap.objs.size + j) "str_ascii_iterator" u.1 u.2 0)) (txts us) 0 _ _
    ⟨rfl, s.heap, rfl, rfl, fun _ _ e => e, fun j u h => absurd h (Nat.not_lt_zero _)⟩ (fun k a b s' hk hj => ?_) fun b s' hj => ?_
  · rw [Nat.zero_add] at hj ⊢
    obtain ⟨eb, h', rfl, sz, kp, its⟩ := hj
    obtain ⟨u, hu, rfl⟩ : ∃ u, us[k]? = some u ∧ a = .str u.1 u.2 := by
      unfold txts at hk
      rw [List.getElem?_map] at hk
      cases e : us[k]? with
      | none => rw [e] at hk; cases hk
      | some u => rw [e] at hk; exact ⟨u, rfl, (Option.some.inj hk).symm⟩
    refine wpAny_bind (wpAny_holding (wpAny_pyIter_ascii (ha u (List.mem_of_getElem? hu)) (wpAny_pure ⟨_, rfl, ?_, _, rfl, ?_, fun c o e => Heap.get?_push_of_some _ (kp c o e), fun j v hj hv => ?_⟩)))
    · show (b.push (.ref h'.objs.size)).toList = _
      rw [Array.toList_push, eb, refs_succ, sz]
    · rw [Heap.size_push]
      show h'.objs.size + 1 = _
      rw [sz]; omega
    · by_cases e : j = k
      · subst e
        rw [hu] at hv; cases hv
        have q : (h'.push { cls := .type "str_ascii_iterator", data := .fields #[.str u.1 u.2, .int 0 0] }).get? (s.heap.objs.size + j) = some { cls := .type "str_ascii_iterator", data := .fields #[.str u.1 u.2, .int 0 0] } := by
          rw [← sz]; exact Heap.get?_push_size _ rfl
        exact ⟨_, q, rfl, rfl⟩
      · obtain ⟨o, ho, r⟩ := its j v (by omega) hv
        exact ⟨o, Heap.get?_push_of_some _ ho, r⟩
  · obtain ⟨eb, h', rfl, sz, kp, its⟩ := hj
    have el : 0 + (txts us).length = us.length := by unfold txts; rw [List.length_map, Nat.zero_add]
    rw [el] at eb sz its
    refine wpAny_pure ?_
    rw [eb]
    exact hQ h' sz kp fun j u hu => its j u (List.getElem?_eq_some_iff.mp hu).1 hu

theorem newClass_zip (us : List Value) {Q : Value × List Value → Shared → Prop} (h : Q (.type "zip", us) s) : wpAny (model prog w) A (Builtin.SmallTypes.newClass "zip" ⟨.type "zip" :: us, []⟩) Q E s := by
  unfold Builtin.SmallTypes.newClass
  show wpAny _ _ (isType (.type "zip") >>= _) _ _ s
  refine wpAny_bind (m := isType (.type "zip")) (wpAny_of_eq (a := true) rfl ?_)
  show wpAny _ _ (isSubtype (.type "zip") (.type "zip") >>= _) _ _ s
  refine wpAny_bind (wpAny_of_eq sub_zip ?_)
  exact wpAny_pure h
theorem meets_zipN (us : List (Str × Tok)) (ha : ∀ u ∈ us, u.1.cps.all (· < 128) = true) (hl : us.length ≤ 1000) :
    Meets (Builtin.«zip.__new__» ⟨.type "zip" :: txts us, []⟩) (fun _ R s => ∀ h', ZAt h' s.heap.objs.size us (fun _ => 0) → h'.objs.size = s.heap.objs.size + us.length + 3 → (∀ c o, s.heap.get? c = some o → h'.get? c = some o) →
      R (.ok (.ret (.ref (s.heap.objs.size + us.length + 2)))) { s with heap := h' }) :=
  .of_wp fun prog w A R s h => by
    unfold Builtin.«zip.__new__»
    refine wpAny_bind (newClass_zip _ ?_)
    show wpAny _ _ (Builtin.SmallTypes.iterAll (txts us) >>= _) _ _ s
    refine wpAny_bind (iterAll_txts us ha fun h1 sz1 kp1 its1 => ?_)
    generalize hb : s.heap.objs.size = b at *
    have hs : us.length ≤ sizeLine := Nat.le_trans hl (by decide)
    have el : (refs b us.length).length = us.length := refs_len _ _
    refine wpAny_bind (wpAny_newTuple ?_ (by rw [el]; exact hs))
    refine wpAny_bind (wpAny_newTuple ?_ (by rw [List.length_map, el]; exact hs))
    unfold Builtin.SmallTypes.newRecord
    refine wpAny_bind (wpAny_newObj_type ?_ (by show (5 : Nat) ≤ sizeLine + 2; decide))
    refine wpAny_pure ⟨_, rfl, ?_⟩
    generalize e2 : (h1.push { cls := .type "tuple", data := .seq (refs b us.length).toArray } : Heap) = h2
    generalize e3 : (h2.push { cls := .type "tuple", data := .seq ((refs b us.length).map fun _ => Value.none).toArray } : Heap) = h3
    have sz2 : h2.objs.size = b + us.length + 1 := by rw [← e2, Heap.size_push, sz1]
    have sz3 : h3.objs.size = b + us.length + 2 := by rw [← e3, Heap.size_push, sz2]
    have up : ∀ (o3 : Obj) c o, h1.get? c = some o → (h3.push o3).get? c = some o := fun o3 c o e => by
      refine Heap.get?_push_of_some _ ?_
      rw [← e3]
      refine Heap.get?_push_of_some _ ?_
      rw [← e2]
      exact Heap.get?_push_of_some _ e
    have g1 : h2.get? (b + us.length) = some { cls := .type "tuple", data := .seq (refs b us.length).toArray } := by
      rw [← e2, ← sz1]; exact Heap.get?_push_size _ rfl
    have g2 : h3.get? (b + us.length + 1) = some { cls := .type "tuple", data := .seq ((refs b us.length).map fun _ => Value.none).toArray } := by
      rw [← e3, ← sz2]; exact Heap.get?_push_size _ rfl
    have g1' : h3.get? (b + us.length) = some { cls := .type "tuple", data := .seq (refs b us.length).toArray } := by
      rw [← e3]; exact Heap.get?_push_of_some _ g1
    show R (.ok (.ret (.ref h3.objs.size))) _
    rw [sz3]
    refine h _ ⟨⟨.none, .bool false, .inl rfl, ?_⟩, Heap.get?_push_of_some _ g1', ⟨_, ?_, Heap.get?_push_of_some _ g2⟩, fun j u hu => ?_⟩ ?_ fun c o e => up _ c o (kp1 c o e)
    · rw [← sz3]
      have q : (h3.push { cls := .type "zip", dict := none, data := .fields (Builtin.SmallTypes.ownedTupleFields ++ [Value.bool false, .ref h1.objs.size, .ref h2.objs.size]).toArray, slots := #[] }).get? h3.objs.size = some { cls := .type "zip", dict := none, data := .fields (Builtin.SmallTypes.ownedTupleFields ++ [Value.bool false, .ref h1.objs.size, .ref h2.objs.size]).toArray, slots := #[] } := Heap.get?_push_size _ rfl
      exact q.trans (by rw [sz1, sz2] <;> rfl)
    · simp [refs]
    · obtain ⟨o, ho, r⟩ := its1 j u hu
      exact ⟨o, up _ _ o ho, r⟩
    · rw [Heap.size_push, sz3]
theorem call_zipN {us : List (Str × Tok)} {Q : Value → Shared → Prop} (ha : ∀ u ∈ us, u.1.cps.all (· < 128) = true) (hl : us.length ≤ 1000)
    (hQ : ∀ h', ZAt h' s.heap.objs.size us (fun _ => 0) → h'.objs.size = s.heap.objs.size + us.length + 3 → (∀ c o, s.heap.get? c = some o → h'.get? c = some o) → Q (.ref (s.heap.objs.size + us.length + 2)) { s with heap := h' }) :
    wpAny (model prog w) A (call (.type "zip") (txts us)) Q E s := by
  refine callType_new F.called_zip (by decide) (zn_typeCall _) (zn_newCall _) (fun obj => zn_initArgs obj _) F.entry_zip_new (meets_zipN us ha hl) fun h' Z sz kp => ?_
  obtain ⟨f0, f1, _, q⟩ := id Z.z
  exact ⟨⟨_, q, rfl⟩, hQ h' Z sz kp⟩

variable {b : Nat} {us : List (Str × Tok)} {c : Nat → Nat} {ok : Value → Prop} {h h' : Heap}
theorem ZAt.lt (Z : ZAt h b us c ok) : b + us.length + 2 < h.objs.size := let ⟨_, _, _, e⟩ := Z.z; Heap.lt_size e
/-- the k-th iterator has turned -/
theorem ZAt.draw {k i : Nat} {u : Str × Tok} (Z : ZAt h b us c ok) (hu : us[k]? = some u) (sb : Heap.SameBut (b + k) h h') (hit : h'.IsStrIter (b + k) "str_ascii_iterator" u.1 u.2 i) {c' : Nat → Nat} (h1 : c' k = i) (h2 : ∀ j, j ≠ k → c' j = c j) : ZAt h' b us c' ok := by
  have hk : k < us.length := (List.getElem?_eq_some_iff.mp hu).1
  obtain ⟨⟨f0, f1, ho, hz⟩, hTI, ⟨xs, hx, hTO⟩, its⟩ := Z
  refine ⟨⟨f0, f1, ho, (sb.2 _ (ne_adr (by omega))).trans hz⟩, (sb.2 _ (ne_adr (by omega))).trans hTI, ⟨xs, hx, (sb.2 _ (ne_adr (by omega))).trans hTO⟩, fun j v hv => ?_⟩
  by_cases e : j = k
  · subst e
    rw [hu] at hv; cases hv
    rw [h1]; exact hit
  · obtain ⟨o, ho, r⟩ := its j v hv
    rw [h2 j e]
    exact ⟨o, (sb.2 _ (ne_adr (by omega))).trans ho, r⟩
/-- the zip object's own fields have changed -/
theorem ZAt.mark {ok' : Value → Prop} {f0 f1 : Value} (Z : ZAt h b us c ok) (sb : Heap.SameBut (b + us.length + 2) h h') (e : h'.get? (b + us.length + 2) = some { cls := .type "zip", dict := none, data := .fields #[f0, f1, .bool false, .ref (b + us.length), .ref (b + us.length + 1)], slots := #[] })
    (ho : ok' f0) : ZAt h' b us c ok' := by
  obtain ⟨_, hTI, ⟨xs, hx, hTO⟩, its⟩ := Z
  refine ⟨⟨f0, f1, ho, e⟩, (sb.2 _ (ne_adr (by omega))).trans hTI, ⟨xs, hx, (sb.2 _ (ne_adr (by omega))).trans hTO⟩, fun j v hv => ?_⟩
  have hk : j < us.length := (List.getElem?_eq_some_iff.mp hv).1
  obtain ⟨o, ho, r⟩ := its j v hv
  exact ⟨o, (sb.2 _ (ne_adr (by omega))).trans ho, r⟩
/-- the owned tuple has changed -/
theorem ZAt.own {xs : Array Value} (Z : ZAt h b us c ok) (sb : Heap.SameBut (b + us.length + 1) h h') (hx : xs.size = us.length) (e : h'.get? (b + us.length + 1) = some { cls := .type "tuple", data := .seq xs }) : ZAt h' b us c ok := by
  obtain ⟨⟨f0, f1, ho, hz⟩, hTI, _, its⟩ := Z
  refine ⟨⟨f0, f1, ho, (sb.2 _ (ne_adr (by omega))).trans hz⟩, (sb.2 _ (ne_adr (by omega))).trans hTI, ⟨xs, hx, e⟩, fun j v hv => ?_⟩
  have hk : j < us.length := (List.getElem?_eq_some_iff.mp hv).1
  obtain ⟨o, ho, r⟩ := its j v hv
  exact ⟨o, (sb.2 _ (ne_adr (by omega))).trans ho, r⟩
theorem ZAt.kept (Z : ZAt h b us c ok) (k : ∀ c o, b ≤ c → c < b + us.length + 3 → h.get? c = some o → h'.get? c = some o) : ZAt h' b us c ok := by
  obtain ⟨⟨f0, f1, ho, hz⟩, hTI, ⟨xs, hx, hTO⟩, its⟩ := Z
  refine ⟨⟨f0, f1, ho, k _ _ (by omega) (by omega) hz⟩, k _ _ (by omega) (by omega) hTI, ⟨xs, hx, k _ _ (by omega) (by omega) hTO⟩, fun j v hv => ?_⟩
  have hk : j < us.length := (List.getElem?_eq_some_iff.mp hv).1
  obtain ⟨o, ho, r⟩ := its j v hv
  exact ⟨o, k _ _ (by omega) (by omega) ho, r⟩
theorem ZAt.congr {c' : Nat → Nat} (Z : ZAt h b us c ok) (e : ∀ j, j < us.length → c' j = c j) : ZAt h b us c' ok :=
  ⟨Z.z, Z.TI, Z.TO, fun j u hu => by rw [e j (List.getElem?_eq_some_iff.mp hu).1]; exact Z.its j u hu⟩
theorem Out.but {n : Nat} {g : Heap} {a : Nat} (x : Out b n g h) (sb : Heap.SameBut a h h') (ha : b ≤ a ∧ a < b + n + 3) : Out b n g h' := fun d o hd e => (sb.2 d (fun z => hd (by rw [z]; exact ha))).trans (x d o hd e)


theorem zip_free (Z : ZAt s.heap b us c) {Q : Bool → Shared → Prop} (hQ : ∀ r h', ZAt h' b us c → Heap.SameBut (b + us.length + 2) s.heap h' → Q r { s with heap := h' }) :
    wpAny (model prog w) A (Builtin.SmallTypes.ownedTupleIsFree (.ref (b + us.length + 2))) Q E s := by
  obtain ⟨f0, f1, hf0, hz⟩ := id Z.z
  unfold Builtin.SmallTypes.ownedTupleIsFree
  refine wpAny_bind (wpAny_field hz rfl (x := f0) rfl ?_)
  rcases hf0 with rfl | ⟨a, ta, rfl⟩
  · exact wpAny_pure (hQ true _ Z (Heap.SameBut.refl _ _))
  · show wpAny _ _ (loadIfAlive a.toNat >>= _) _ _ _
    refine wpAny_bind (wpAny_loadIfAlive ?_)
    cases e : s.heap.get? a.toNat with
    | none => exact wpAny_pure (hQ true _ Z (Heap.SameBut.refl _ _))
    | some o =>
      show wpAny _ _ (field (.ref (b + us.length + 2)) 1 >>= _) _ _ _
      refine wpAny_bind (wpAny_field hz rfl (x := f1) rfl ?_)
      split
      · refine wpAny_bind (wpAny_setField_rec hz (by simp) fun h' hz' sb => ?_)
        exact wpAny_pure (hQ false _ (Z.mark sb hz' (.inr ⟨a, ta, rfl⟩)) sb)
      · exact wpAny_pure (hQ false _ Z (Heap.SameBut.refl _ _))
theorem refs_at {k : Nat} {x : Value} (h : (refs b us.length)[k]? = some x) : ∃ u, us[k]? = some u ∧ x = .ref (b + k) := by
  have hk : k < us.length := by
    have := (List.getElem?_eq_some_iff.mp h).1
    rw [refs_len] at this
    exact this
  rw [refs_get hk] at h
  exact ⟨us[k], List.getElem?_eq_getElem hk, (Option.some.inj h).symm⟩
/-- so far: the first k of the signs at i -/
def SignsTo (us : List (Str × Tok)) (i k : Nat) (xs : List Value) : Prop := ∀ (j : Nat) (u : Str × Tok), j < k → us[j]? = some u → ∃ c t, u.1.cps[i]? = some c ∧ xs[j]? = some (.str ⟨#[c]⟩ t)
theorem zipN_item {i : Nat} {Q : Value → Shared → Prop} (Z : ZAt s.heap b us (fun _ => i)) (hne : us ≠ []) (hl : us.length ≤ 1000) (hi : ∀ u ∈ us, i < u.1.cps.size)
    (hQ : ∀ T h' tk xs, s.heap.objs.size ≤ T → h'.get? T = some { cls := .type "tuple", data := .seq (List.toArray xs) } → SignsAt us i xs → ZAt h' b us (fun _ => i + 1) → Out b us.length s.heap h' → Q (.ref T) { s with heap := h', toks := tk }) :
    wpAny (model prog w) A (Builtin.«zip.__next__» ⟨[.ref (b + us.length + 2)], []⟩) (fun fin s' => ∃ v, fin = .done (.ret v) ∧ Q v s') E s := by
  obtain ⟨f0, f1, hf0, hz⟩ := id Z.z
  have hne' : us.length ≠ 0 := fun e => hne (List.length_eq_zero_iff.mp e)
  show wpAny _ _ (field (.ref (b + us.length + 2)) 2 >>= _) _ _ _
  refine wpAny_bind (wpAny_field hz rfl (x := .bool false) rfl ?_)
  show wpAny _ _ (field (.ref (b + us.length + 2)) 3 >>= _) _ _ _
  refine wpAny_bind (wpAny_field hz rfl (x := .ref (b + us.length)) rfl ?_)
  refine wpAny_bind (wpAny_seqItems Z.TI rfl ?_)
  have hemp : (refs b us.length).toArray.isEmpty = false := by
    rw [Array.isEmpty_eq_false_iff]
    intro e
    have := congrArg Array.size e
    simp [refs] at this
    exact hne (by simpa using this)
  show wpAny _ _ (if (refs b us.length).toArray.isEmpty = true then _ else _) _ _ _
  rw [if_neg (by rw [hemp]; exact Bool.false_ne_true)]
  refine wpAny_bind (zip_free Z fun r h1 Z1 sb1 => ?_)
  have O1 : Out b us.length s.heap h1 := fun d o hd e => (sb1.2 d (fun z => hd (by rw [z]; omega))).trans e
  cases r with
  | true =>
    rw [if_pos rfl]
    refine wpAny_bind (wpAny_rule ?_)
    obtain ⟨g0, g1, hg0, hz1⟩ := id Z1.z
    refine wpAny_bind (wpAny_field hz1 rfl (x := .ref (b + us.length + 1)) rfl ?_)
    refine wpAny_bind (wpAny_setField_rec hz1 (by simp) fun h2 hz2 sb2 => ?_)
    have Z2 : ZAt h2 b us (fun _ => i) (fun _ => True) := Z1.mark sb2 hz2 trivial
    have O2 : Out b us.length s.heap h2 := O1.but sb2 (by omega)
    refine wpAny_bind ?_
    refine forIn_turns (fun k r s' => r = (none, ()) ∧ ∃ h' tk xs, s' = { s with heap := h', toks := tk } ∧ ZAt h' b us (fun j => if j < k then i + 1 else i) (fun _ => True) ∧ Out b us.length s.heap h' ∧ h'.objs.size = s.heap.objs.size ∧
      xs.length = us.length ∧ h'.get? (b + us.length + 1) = some { cls := .type "tuple", data := .seq (List.toArray xs) } ∧ SignsTo us i k xs) _ 0 _ _ ⟨rfl, h2, s.toks, ?_⟩ (fun k a r s' hk hj => ?_) fun r s' hj => ?_
    · obtain ⟨xs, hx, hTO⟩ := Z2.TO
      refine ⟨xs.toList, rfl, Z2.congr fun j _ => by simp, O2, sb2.1.trans sb1.1, by simpa using hx, by simpa using hTO, fun j u h => absurd h (Nat.not_lt_zero _)⟩
    · rw [Nat.zero_add] at hj ⊢
      obtain ⟨rfl, h3, tk, xs, rfl, Z3, O3, sz3, lx, hTO3, sg⟩ := hj
      rw [List.toList_toArray, List.getElem?_zipIdx] at hk
      obtain ⟨y, hy, ea⟩ := Option.map_eq_some_iff.mp hk
      obtain ⟨u, hu, rfl⟩ := refs_at hy
      subst ea
      rw [Nat.zero_add]
      have hkl : k < us.length := (List.getElem?_eq_some_iff.mp hu).1
      have hit := Z3.its k u hu
      rw [if_neg (Nat.lt_irrefl k)] at hit
      obtain ⟨c, hc⟩ : ∃ c, u.1.cps[i]? = some c := ⟨_, Array.getElem?_eq_getElem (hi u (List.mem_of_getElem? hu))⟩
      refine wpAny_bind (wpAny_onRaise ?_)
      show wpAny _ _ (Builtin.SmallTypes.nextOf (.ref (b + k)) >>= _) _ _ _
      refine wpAny_bind (wpAny_nextOf_ascii_item (s := { s with heap := h3, toks := tk }) hit hc fun h4 hit4 sb4 => wpAny_pure ?_)
      have hTO4 := (sb4.2 _ (ne_adr (.inr (by omega)))).trans hTO3
      have Z4 : ZAt h4 b us (fun j => if j < k + 1 then i + 1 else i) (fun _ => True) := Z3.draw hu sb4 hit4 (if_pos (Nat.lt_succ_self k)) fun j hj => by
        by_cases e : j < k
        · rw [if_pos e, if_pos (by omega)]
        · rw [if_neg e, if_neg (by omega)]
      refine wpAny_bind (wpAny_seqItems hTO4 rfl ?_)
      refine wpAny_bind (wpAny_updateSeq hTO4 rfl ?_ (by rw [List.size_toArray, lx]; exact Nat.le_trans hl (by decide)) (by rw [Array.size_setIfInBounds, List.size_toArray, lx]; exact Nat.le_trans hl (by decide)))
      have hTO5 := Heap.get?_update_self (Obj.mapSeq fun x_1 => x_1.setIfInBounds k (Value.str ⟨#[c]⟩ tk)) hTO4 rfl
      have sb5 := Heap.SameBut.update h4 (b + us.length + 1) (Obj.mapSeq fun x_1 => x_1.setIfInBounds k (Value.str ⟨#[c]⟩ tk))
      have hTO6 : (h4.update (b + us.length + 1) (Obj.mapSeq fun x_1 => x_1.setIfInBounds k (Value.str ⟨#[c]⟩ tk))).get? (b + us.length + 1) = some { cls := .type "tuple", data := .seq (List.toArray (xs.set k (Value.str ⟨#[c]⟩ tk))) } := by
        rw [hTO5]
        simp [Obj.mapSeq]
      refine wpAny_bind (wpAny_letGo (wpAny_pure ⟨_, rfl, rfl, _, _, xs.set k (.str ⟨#[c]⟩ tk), rfl, Z4.own sb5 (by simp [lx]) hTO6, (O3.but sb4 (by omega)).but sb5 (by omega), ?_, by rw [List.length_set, lx], hTO6, fun j v hj hv => ?_⟩))
      · rw [sb5.1, sb4.1]; exact sz3
      · by_cases e : j = k
        · subst e
          rw [hu] at hv; cases hv
          exact ⟨c, tk, hc, by rw [List.getElem?_set_self (by omega)]⟩
        · obtain ⟨c', t', h1', h2'⟩ := sg j v (by omega) hv
          exact ⟨c', t', h1', by rw [List.getElem?_set_ne (Ne.symm e)]; exact h2'⟩
    · obtain ⟨rfl, h3, tk, xs, rfl, Z3, O3, sz3, lx, hTO3, sg⟩ := hj
      have el : 0 + ((refs b us.length).toArray.toList.zipIdx).length = us.length := by simp [refs]
      rw [el] at Z3 sg
      refine wpAny_bind (wpAny_seqItems hTO3 rfl ?_)
      refine wpAny_bind (wpAny_newTuple ?_ (by show xs.length ≤ _; rw [lx]; exact Nat.le_trans hl (by decide)))
      obtain ⟨g3, g4, _, hz3⟩ := id Z3.z
      generalize e4 : h3.push { cls := .type "tuple", data := .seq xs.toArray } = h4
      have sz4 : h4.objs.size = s.heap.objs.size + 1 := by rw [← e4, Heap.size_push, sz3]
      have up4 : ∀ d o, h3.get? d = some o → h4.get? d = some o := fun d o e => by rw [← e4]; exact Heap.get?_push_of_some _ e
      have hT4 : h4.get? s.heap.objs.size = some { cls := .type "tuple", data := .seq xs.toArray } := by rw [← e4, ← sz3]; exact Heap.get?_push_size _ rfl
      have Z4 : ZAt h4 b us (fun _ => i + 1) (fun _ => True) := (Z3.kept fun d o _ _ e => up4 d o e).congr fun j hj => by rw [if_pos hj]
      have hzb := Z.lt
      obtain ⟨g3, g4, _, hz4⟩ := id Z4.z
      show wpAny _ _ (Builtin.SmallTypes.ownedTupleHandOut (.ref (b + us.length + 2)) (.ref h3.objs.size) >>= _) _ _ _
      refine wpAny_bind ?_
      unfold Builtin.SmallTypes.ownedTupleHandOut
      refine wpAny_bind (wpAny_setField_rec (s := { s with heap := _, toks := tk }) hz4 (by simp) fun h5 hz5 sb5 => ?_)
      refine wpAny_setField_rec hz5 (by simp) fun h6 hz6 sb6 => ?_
      refine wpAny_pure ⟨_, rfl, ?_⟩
      rw [sz3]
      rw [sz3] at hz5 hz6
      have Z6 := Z4.mark (ok' := fun f0 => f0 = .none ∨ ∃ a t, f0 = .int a t) (h' := h6) ⟨sb6.1.trans sb5.1, fun d hd => (sb6.2 d hd).trans (sb5.2 d hd)⟩ hz6 (.inr ⟨_, _, rfl⟩)
      refine hQ _ h6 tk xs (Nat.le_refl _) ?_ ⟨lx, fun j u hu => sg j u (List.getElem?_eq_some_iff.mp hu).1 hu⟩ Z6 fun d o hd e => ?_
      · have hn : s.heap.objs.size ≠ b + us.length + 2 := Nat.ne_of_gt hzb
        rw [sb6.2 _ hn, sb5.2 _ hn]
        exact hT4
      · have hn : d ≠ b + us.length + 2 := fun z => hd (by rw [z]; omega)
        rw [sb6.2 _ hn, sb5.2 _ hn]
        exact up4 d o (O3 d o hd e)
  | false =>
    rw [if_neg Bool.false_ne_true]
    show wpAny _ _ (forIn (refs b us.length).toArray _ _ >>= _) _ _ _
    rw [List.forIn_toArray]
    refine wpAny_bind ?_
    refine forIn_turns (fun k r s' => ∃ xs : List Value, r = (none, xs.toArray) ∧ ∃ h' tk, s' = { s with heap := h', toks := tk } ∧ ZAt h' b us (fun j => if j < k then i + 1 else i) ∧ Out b us.length s.heap h' ∧ h'.objs.size = s.heap.objs.size ∧
      xs.length = k ∧ SignsTo us i k xs) _ 0 _ _ ⟨[], rfl, h1, s.toks, rfl, Z1.congr fun j _ => by simp, O1, sb1.1, rfl, fun j u h => absurd h (Nat.not_lt_zero _)⟩ (fun k a r s' hk hj => ?_) fun r s' hj => ?_
    · rw [Nat.zero_add] at hj ⊢
      obtain ⟨xs, rfl, h3, tk, rfl, Z3, O3, sz3, lx, sg⟩ := hj
      obtain ⟨u, hu, rfl⟩ := refs_at hk
      have hkl : k < us.length := (List.getElem?_eq_some_iff.mp hu).1
      have hit := Z3.its k u hu
      rw [if_neg (Nat.lt_irrefl k)] at hit
      obtain ⟨c, hc⟩ : ∃ c, u.1.cps[i]? = some c := ⟨_, Array.getElem?_eq_getElem (hi u (List.mem_of_getElem? hu))⟩
      refine wpAny_bind (wpAny_holding ?_)
      show wpAny _ _ (Builtin.SmallTypes.nextOf (.ref (b + k)) >>= _) _ _ _
      refine wpAny_bind (wpAny_nextOf_ascii_item (s := { s with heap := h3, toks := tk }) hit hc fun h4 hit4 sb4 => wpAny_pure ?_)
      have Z4 : ZAt h4 b us (fun j => if j < k + 1 then i + 1 else i) := Z3.draw hu sb4 hit4 (if_pos (Nat.lt_succ_self k)) fun j hj => by
        by_cases e : j < k
        · rw [if_pos e, if_pos (by omega)]
        · rw [if_neg e, if_neg (by omega)]
      refine wpAny_pure ⟨_, rfl, xs ++ [.str ⟨#[c]⟩ tk], by simp, _, _, rfl, Z4, O3.but sb4 (by omega), sb4.1.trans sz3, by simp [lx], fun j v hj hv => ?_⟩
      by_cases e : j = k
      · subst e
        rw [hu] at hv; cases hv
        exact ⟨c, tk, hc, by rw [List.getElem?_append_right (by omega), lx, Nat.sub_self] <;> rfl⟩
      · obtain ⟨c', t', h1', h2'⟩ := sg j v (by omega) hv
        exact ⟨c', t', h1', by rw [List.getElem?_append_left (by omega)]; exact h2'⟩
    · obtain ⟨xs, rfl, h3, tk, rfl, Z3, O3, sz3, lx, sg⟩ := hj
      have el : 0 + (refs b us.length).length = us.length := by simp [refs]
      rw [el] at Z3 sg lx
      refine wpAny_bind (wpAny_newTuple ?_ (by show xs.length ≤ _; rw [lx]; exact Nat.le_trans hl (by decide)))
      refine wpAny_pure ⟨_, rfl, ?_⟩
      show Q (.ref h3.objs.size) _
      rw [sz3]
      refine hQ _ _ tk xs (Nat.le_refl _) (by rw [← sz3]; exact Heap.get?_push_size _ rfl) ⟨lx, fun j u hu => sg j u (List.getElem?_eq_some_iff.mp hu).1 hu⟩ ((Z3.kept fun d o _ _ e => Heap.get?_push_of_some _ e).congr fun j hj => by rw [if_pos hj]) fun d o hd e => Heap.get?_push_of_some _ (O3 d o hd e)
/-- StopIteration is raised -/
theorem stop_new {α : Type} {Q : α → Shared → Prop} (hh : A.handled = none) (hE : ∀ h' e, (∀ d o, s.heap.get? d = some o → h'.get? d = some o) → (∃ o, h'.get? e = some o ∧ o.cls = .type "StopIteration") → E (.ref e) { s with heap := h' }) :
    wpAny (model prog w) A (Builtin.SmallTypes.stopIteration : Sem α) Q E s := by
  unfold Builtin.SmallTypes.stopIteration
  refine wpAny_bind ?_
  simp only [newExc, newTuple]
  refine wpAny_bind (wpAny_newObj_type ?_ (by size_fits))
  refine wpAny_bind (m := firstArgMember _ _) (wpAny_of_eq (a := Value.none) (by first | rfl | (simp only [firstArgMember]; rfl)) ?_)
  refine wpAny_newObj_type ?_ (by size_fits)
  simp only [raiseNew]
  refine wpAny_bind (wpAny_handled ?_)
  rw [hh]
  refine wpAny_bind (wpAny_pure (wpAny_throw ?_))
  exact hE _ _ (fun d o e => Heap.get?_push_of_some _ (Heap.get?_push_of_some _ e)) ⟨_, Heap.get?_push_size _ rfl, rfl⟩
/-- the first text is at its end (or there is none) -/
theorem zipN_end {i : Nat} {Q : PySem.Fin → Shared → Prop} (hh : A.handled = none) (Z : ZAt s.heap b us (fun _ => i)) (hi : ∀ u, us[0]? = some u → u.1.cps[i]? = none)
    (hE : ∀ h' e, Out b us.length s.heap h' → (∃ o, h'.get? e = some o ∧ o.cls = .type "StopIteration") → E (.ref e) { s with heap := h' }) :
    wpAny (model prog w) A (Builtin.«zip.__next__» ⟨[.ref (b + us.length + 2)], []⟩) Q E s := by
  obtain ⟨f0, f1, hf0, hz⟩ := id Z.z
  show wpAny _ _ (field (.ref (b + us.length + 2)) 2 >>= _) _ _ _
  refine wpAny_bind (wpAny_field hz rfl (x := .bool false) rfl ?_)
  show wpAny _ _ (field (.ref (b + us.length + 2)) 3 >>= _) _ _ _
  refine wpAny_bind (wpAny_field hz rfl (x := .ref (b + us.length)) rfl ?_)
  refine wpAny_bind (wpAny_seqItems Z.TI rfl ?_)
  cases us with
  | nil =>
    show wpAny _ _ (if (refs b 0).toArray.isEmpty = true then _ else _) _ _ _
    rw [if_pos (by rfl)]
    refine wpAny_bind (wpAny_rule (wpAny_bind ?_))
    exact stop_new hh fun h' e kp he => hE h' e (fun d o _ q => kp d o q) he
  | cons u0 us =>
    have er : refs b (u0 :: us).length = .ref b :: (List.range us.length).map (fun j => Value.ref (b + (j + 1))) := by
      unfold refs
      rw [List.length_cons, List.range_succ_eq_map, List.map_cons, List.map_map]
      rfl
    have hx := hi u0 rfl
    show wpAny _ _ (if (refs b (u0 :: us).length).toArray.isEmpty = true then _ else _) _ _ _
    rw [if_neg (by rw [er]; simp)]
    refine wpAny_bind (zip_free Z fun r h1 Z1 sb1 => ?_)
    have O1 : Out b (u0 :: us).length s.heap h1 := fun d o hd e => (sb1.2 d (fun z => hd (by rw [z]; omega))).trans e
    have hit := Z1.its 0 u0 rfl
    cases r with
    | true =>
      rw [if_pos rfl]
      refine wpAny_bind (wpAny_rule ?_)
      obtain ⟨g0, g1, hg0, hz1⟩ := id Z1.z
      refine wpAny_bind (wpAny_field hz1 rfl (x := .ref (b + (u0 :: us).length + 1)) rfl ?_)
      refine wpAny_bind (wpAny_setField_rec hz1 (by simp) fun h2 hz2 sb2 => ?_)
      have O2 : Out b (u0 :: us).length s.heap h2 := O1.but sb2 (by omega)
      have hit2 : h2.IsStrIter (b + 0) "str_ascii_iterator" u0.1 u0.2 i := let ⟨o, ho, r⟩ := hit; ⟨o, (sb2.2 _ (ne_adr (.inl (by omega)))).trans ho, r⟩
      refine wpAny_bind ?_
      rw [er, List.toList_toArray, List.zipIdx_cons, List.forIn_cons]
      refine wpAny_bind (wpAny_bind (wpAny_onRaise ?_))
      show wpAny _ _ (Builtin.SmallTypes.nextOf (.ref (b + 0)) >>= _) _ _ _
      refine wpAny_bind (wpAny_nextOf_ascii_end hh hit2 hx fun h3 e eb he => ?_)
      obtain ⟨oe, hoe, hce⟩ := he
      have hz3 := eb _ _ (ne_adr (.inr (by simp only [List.length_cons]; omega))) hz2
      have hez : e ≠ b + (u0 :: us).length + 2 := fun z => by
        rw [z, hz3] at hoe
        cases hoe
        simp at hce
      refine wpAny_setField_rec hz3 (by simp) fun h4 _ sb4 => hE h4 e (fun d o hd q => ?_) ⟨oe, (sb4.2 e hez).trans hoe, hce⟩
      rw [sb4.2 d (fun z => hd (by rw [z]; omega))]
      exact eb d o (fun z => hd (by rw [z]; omega)) (O2 d o hd q)
    | false =>
      rw [if_neg Bool.false_ne_true]
      show wpAny _ _ (forIn (refs b (u0 :: us).length).toArray _ _ >>= _) _ _ _
      rw [List.forIn_toArray, er, List.forIn_cons]
      refine wpAny_bind (wpAny_bind (wpAny_bind (wpAny_holding ?_)))
      show wpAny _ _ (Builtin.SmallTypes.nextOf (.ref (b + 0)) >>= _) _ _ _
      refine wpAny_bind (wpAny_nextOf_ascii_end (s := { s with heap := h1 }) hh hit hx fun h3 e eb he => ?_)
      exact hE h3 e (fun d o hd q => eb d o (fun z => hd (by rw [z]; omega)) (O1 d o hd q)) he
end
/-! ### the rule: for column in zip(*rows) -/
section
variable {P : Program} {w : World} {K : PySem.W.Frag}
/-- the signs at place i of every row -/
def colAt (ws : List Str) (i : Nat) : List Str := ws.map fun a => ⟨#[a.cps.getD i 0]⟩
/-- columns of the rows ws -/
def ItzN (ws : List Str) : It := ⟨fun i _ => ws ≠ [] ∧ ∀ a ∈ ws, i < a.cps.size, fun i H x H' => ∃ T, x = .ref T ∧ H T = none ∧ H' = upd H T (.tup ((colAt ws i).map V.str)), fun i _ => ∀ a, ws[0]? = some a → a.cps.size ≤ i⟩
theorem vals_get : ∀ {xs : List V} {us : List Value}, xs.length = us.length → (∀ (j : Nat) x, xs[j]? = some x → ∃ u, us[j]? = some u ∧ RelV x u) → Vals xs us
  | [], [], _, _ => .nil
  | [], _ :: _, h, _ => by cases h
  | _ :: _, [], h, _ => by cases h
  | x :: xs, u :: us, h, g => by
    obtain ⟨u', e, r⟩ := g 0 x rfl
    cases e
    exact .cons r (vals_get (Nat.succ.inj h) fun j y hy => g (j + 1) y hy)
theorem col_vals {us : List (Str × Tok)} {ws : List Str} {i : Nat} {xs : List Value} (e : us.map (·.1) = ws) (h : SignsAt us i xs) : Vals ((colAt ws i).map V.str) xs := by
  subst e
  refine vals_get (by simp [colAt, h.1]) fun j x hx => ?_
  unfold colAt at hx
  rw [List.map_map, List.map_map, List.getElem?_map] at hx
  cases hu : us[j]? with
  | none => rw [hu] at hx; cases hx
  | some u =>
    rw [hu] at hx
    cases hx
    obtain ⟨c, t, hc, ht⟩ := h.2 j u hu
    refine ⟨_, ht, t, ?_⟩
    have e : u.1.cps.getD i 0 = c := by simp [Array.getD_eq_getD_getElem?, hc]
    show Value.str ⟨#[c]⟩ t = Value.str ⟨#[u.1.cps.getD i 0]⟩ t
    rw [e]
def zfp (b n : Nat) : List Addr := (List.range (n + 3)).map fun j => b + j
theorem mem_zfp {b n a : Nat} : a ∈ zfp b n ↔ b ≤ a ∧ a < b + n + 3 := by
  unfold zfp
  simp only [List.mem_map, List.mem_range]
  constructor
  · rintro ⟨j, hj, rfl⟩
    omega
  · rintro ⟨h1, h2⟩
    exact ⟨a - b, by omega, by omega⟩
theorem turn_zipN {x : Str} {px : Pos} (b : Nat) (ws : List Str) (hl : ws.length ≤ 1000) :
    Turn P w K (.Name x px) (ItzN ws) (zfp b ws.length) (b + ws.length + 2) (fun i h => ∃ us : List (Str × Tok), us.map (·.1) = ws ∧ ZAt h b us (fun _ => i)) where
  mem := mem_zfp.mpr ⟨by omega, by omega⟩
  obj := fun i h ⟨us, e, Z⟩ a ha => by
    have el : us.length = ws.length := by rw [← e, List.length_map]
    have h12 := mem_zfp.mp ha
    rw [← el] at h12
    obtain ⟨⟨f0, f1, _, hz⟩, hTI, ⟨xs, _, hTO⟩, its⟩ := Z
    obtain ⟨j, rfl⟩ : ∃ j : Nat, a = b + j := ⟨a - b, (Nat.add_sub_of_le h12.1).symm⟩
    have h13 : j < us.length + 3 := by
      have q : b + j < b + us.length + 3 := h12.2
      omega
    by_cases hj : j < us.length
    · obtain ⟨o, ho, _, hd⟩ := its j _ (List.getElem?_eq_getElem hj)
      exact ⟨o, ho, fun v q => by rw [hd] at q; cases q⟩
    rcases (by omega : j = us.length ∨ j = us.length + 1 ∨ j = us.length + 2) with e1 | e1 | e1
    · rw [e1]; exact ⟨_, hTI, fun v q => nomatch q⟩
    · rw [e1]; exact ⟨_, hTO, fun v q => nomatch q⟩
    · rw [e1]; exact ⟨_, hz, fun v q => nomatch q⟩
  keep := fun i h h' ⟨us, e, Z⟩ k => by
    have el : us.length = ws.length := by rw [← e, List.length_map]
    exact ⟨us, e, Z.kept fun c o h1 h2 q => k c (mem_zfp.mpr ⟨h1, by rw [← el]; exact h2⟩) o q⟩
  item := by
    intro X hP hw hK hc i pins s σ H E I hf st hg
    subst hP hw hK
    obtain ⟨us, e, Z⟩ := st
    obtain ⟨hne, hi⟩ := hg
    have el : us.length = ws.length := by rw [← e, List.length_map]
    have hT : s.TypeIs (.ref (b + us.length + 2)) "zip" := let ⟨_, _, _, q⟩ := Z.z; ⟨_, q, rfl⟩
    have key : wpAny (model X.prog X.w) X.A (pyNext (.ref (b + us.length + 2))) (fun r s1 => ∃ u, r = some u ∧ ∃ x H', Inv X pins σ H' s1 ∧ RelV x u ∧ (ItzN ws).yld i H x H' ∧ (∃ us' : List (Str × Tok), us'.map (·.1) = ws ∧ ZAt s1.heap b us' (fun _ => i + 1)) ∧ ∀ c ∈ zfp b ws.length, H' c = none) E s := by
      unfold pyNext
      refine wpAny_bind (wpAny_attempt (wpAny_callSpecial?_slot (name := Str.ofString "__next__") hT PySem.F.slot_zip_next (wpAny_call_entry PySem.F.slot_zip_next hT PySem.F.entry_zip_next
        (zipN_item Z (fun z => hne (by rw [← e, z] <;> rfl)) (by rw [el]; exact hl) (fun u hu => hi u.1 (by rw [← e]; exact List.mem_map_of_mem hu)) fun T h' tk xs hT hTo sg Z' O => wpAny_pure ?_) (PySem.F.args_zip_next_1 _))))
      have new : ObjOk X.prog X.w (upd H T (.tup ((colAt ws i).map V.str))) h' T (.tup ((colAt ws i).map V.str)) :=
        ⟨by rw [List.length_map]; unfold colAt; rw [List.length_map]; exact Nat.le_trans hl (by decide), xs, col_vals e sg, ⟨_, hTo, rfl, _, rfl⟩⟩
      have I1 : Inv X pins σ (upd H T (.tup ((colAt ws i).map V.str))) { s with heap := h', toks := tk } :=
        I.turnedNew (t' := tk) (ch := zfp b ws.length) (fun c o hb q => O c o (fun z => hb (mem_zfp.mpr (by rw [← el]; exact z))) q) hf hT new
      refine ⟨_, rfl, .ref T, _, I1, rfl, ⟨T, rfl, I.hok.fresh hT, rfl⟩, ⟨us, e, Z'⟩, fun c hcm => ?_⟩
      have h12 := mem_zfp.mp hcm
      have hlt := Z.lt
      rw [upd_ne (ne_adr (.inl (by rw [el] at hlt; omega)))]
      exact (hf c hcm).1
    rw [el] at key
    refine thn key fun r s1 ⟨u, hr, x, H', q⟩ => ⟨u, hr, ?_⟩
    exact wpAny_of_eq (rfl : letOwnedTupleGo _ _ u = pure ()) ⟨x, H', q⟩
  done := by
    intro X hP hw hK hc i pins s σ H E I hf st hg
    subst hP hw hK
    obtain ⟨us, e, Z⟩ := st
    have el : us.length = ws.length := by rw [← e, List.length_map]
    have hT : s.TypeIs (.ref (b + us.length + 2)) "zip" := let ⟨_, _, _, q⟩ := Z.z; ⟨_, q, rfl⟩
    rw [← el]
    unfold pyNext
    refine wpAny_bind (wpAny_attempt (wpAny_callSpecial?_slot (name := Str.ofString "__next__") hT PySem.F.slot_zip_next (wpAny_call_entry PySem.F.slot_zip_next hT PySem.F.entry_zip_next
      (zipN_end (I.ok.hd hc) Z (fun u hu => ?_) fun h' x O he => ?_) (PySem.F.args_zip_next_1 _))))
    · refine Array.getElem?_eq_none (hg u.1 ?_)
      rw [← e, List.getElem?_map, hu] <;> rfl
    · obtain ⟨o, ho, hcl⟩ := he
      refine wpAny_bind (wpAny_isInstance (T := "StopIteration") (b := true) ⟨o, ho, hcl⟩ isSubtype_stop ?_)
      exact wpAny_pure ⟨rfl, I.turnedL (t' := s.toks) (ch := zfp b ws.length) (fun c o hb q => O c o (fun z => hb (mem_zfp.mpr (by rw [← el]; exact z))) q) hf⟩
  self := fun A i s Q E ⟨us, e, Z⟩ h => by
    have el : us.length = ws.length := by rw [← e, List.length_map]
    obtain ⟨f0, f1, _, hz⟩ := Z.z
    rw [el] at hz
    have hT : s.TypeIs (.ref (b + ws.length + 2)) "zip" := ⟨_, hz, rfl⟩
    refine wpAny_pyIter_slot hT PySem.F.slot_zip_iter (wpAny_call_entry PySem.F.slot_zip_iter hT PySem.F.entry_zip_iter ?_ (PySem.F.args_zip_iter_1 _))
    show wpAny _ _ (ret _) _ _ s
    exact wpAny_pure ⟨_, rfl, "zip", _, hT, PySem.F.slot_zip_next.lookup, h⟩
/-- zip(*rows): a list of texts of small signs -/
def iZipN (K : PySem.W.Frag) (te : TE) : TI := fun σ H R => te σ H fun v H1 => ∃ a ws, v = .ref a ∧ SqL K H1 a (ws.map V.str) ∧ ws.length ≤ 1000 ∧ (∀ a ∈ ws, a.cps.all (· < 128) = true) ∧ R (ItzN ws) H1
theorem pi_zipN {X : Cx} {e : Expr} {te : TE} {x : Str} {px p p2 pos : Pos} (hg : Gl X "zip") (hm : X.mg "zip" = none) (he : PE X e te) (hs : starEach [.Starred e p2] X.env = [(true, eval e X.env)] := by rfl) :
    PI X (.Name x px) (.Call (.Name "zip" p) [.Starred e p2] [] pos) (iZipN X.K te) := by
  refine ⟨fun pins s σ H R I h => ?_⟩
  refine Call_ (ld_blt I hg hm PyProof.Rows.boot_zip ?_)
  rw [hs]
  refine PySem.W.ks_call (P := fun _ => True) rfl (fun _ _ => ⟨.machine, .inr (.inl rfl), PySem.W.Looks.of_pure rfl⟩) (PySem.W.ks_lone (thn (he.run pins s σ H _ I h) fun v s1 ⟨y, H1, I1, r1, q1⟩ => ?_))
  obtain ⟨a, ws, rfl, hq, hl, ha, q⟩ := q1
  obtain rfl : v = Value.ref a := r1
  refine StX.star_lst I1 hq fun us s2 I2 rv => ⟨trivial, ?_⟩
  obtain ⟨ps, ep, eu⟩ : ∃ ps : List (Str × Tok), ps.map (·.1) = ws ∧ us = txts ps := by
    clear hq ha hl q
    induction ws generalizing us with
    | nil => cases rv; exact ⟨[], rfl, rfl⟩
    | cons a ws ih =>
      cases rv with
      | cons r rr =>
        obtain ⟨t, rfl⟩ := (show ∃ t, _ = Value.str a t from r)
        obtain ⟨ps, e1, e2⟩ := ih _ rr
        exact ⟨(a, t) :: ps, by rw [List.map_cons, e1], by rw [e2] <;> rfl⟩
  subst eu
  have el : ps.length = ws.length := by rw [← ep, List.length_map]
  refine call_zipN (fun u hu => ha u.1 (by rw [← ep]; exact List.mem_map_of_mem hu)) (by rw [el]; exact hl) fun h' Z sz kp => ?_
  have I3 : Inv X pins σ H1 { s2 with heap := h' } := I2.kept (t' := s2.toks) kp
  rw [el]
  have T := turn_zipN (P := X.prog) (w := X.w) (K := X.K) (x := x) (px := px) s2.heap.objs.size ws hl
  refine T.self X.A 0 _ _ _ ⟨ps, ep, Z⟩ ⟨_, zfp s2.heap.objs.size ws.length, _, _, H1, rfl, I3, T, ⟨ps, ep, Z⟩, fun c hc => ?_, q⟩
  have hle := (mem_zfp.mp hc).1
  exact I2.fpOk hle (I2.hok.fresh hle)
end
end AK
set_option Elab.async false
set_option linter.all false
set_option maxRecDepth 100000
set_option maxHeartbeats 2000000
namespace AK
open PySem PySem.Spec PyProof.Rows L2
open PySem.F

theorem mro_comb : mroOf (.type "itertools.combinations") = pure [.type "itertools.combinations", .type "object"] := by rw [mroOf_type]; kernel_rfl
theorem lookup_comb_new : typeLookup (.type "itertools.combinations") "__new__" = pure (some (.builtin "itertools.combinations.__new__")) := by rw [typeLookup_type, builtinLookup_eq_fast]; kernel_rfl
theorem owner_comb : Manifest.owners.lookup (String.ofList ['s', 'n', 'o', 'i', 't', 'a', 'n', 'i', 'b', 'm', 'o', 'c', '.', 's', 'l', 'o', 'o', 't', 'r', 'e', 't', 'i'].reverse) = some Manifest.sig_itertools_combinations := by kernel_rfl
theorem cb_newCall (a : Value) (k : Int) (t : Tok) : checkBuiltinCall "itertools.combinations.__new__" ⟨[.type "itertools.combinations", a, .int k t], []⟩ = pure () := by kernel_rfl
theorem cb_typeCall (a : Value) (k : Int) (t : Tok) : checkTypeCall "itertools.combinations" ⟨[a, .int k t], []⟩ = pure () := by kernel_rfl
theorem entry_comb_new : entryFor table "itertools.combinations.__new__" = some Builtin.«itertools.combinations.__new__» := entryFor_of_tree (by kernel_rfl)
theorem entry_comb_next : entryFor table "itertools.combinations.__next__" = some Builtin.«itertools.combinations.__next__» := entryFor_of_tree (by kernel_rfl)
theorem entry_comb_iter : entryFor table "itertools.combinations.__iter__" = some Builtin.«dict_keyiterator.__iter__» :=
  entryFor_alias (id' := "dict_keyiterator.__iter__") (by kernel_rfl) (by first | rfl | decide +kernel | (unfold String.splitOn; simp +decide [String.splitOnAux])) (by decide +kernel) (by kernel_rfl)
theorem slot_comb_next : Slot "itertools.combinations" "__next__" "itertools.combinations.__next__" :=
  .of (owner := "itertools.combinations") (n := "__next__") (by rw [typeLookup_type, builtinLookup_eq_fast]; kernel_rfl) (by decide +kernel) (by decide +kernel) (by decide +kernel)
    (by first | exact .inl (by decide +kernel) | exact .inr (by decide +kernel)) (by rw [isSubtype_type]; kernel_rfl)
theorem slot_comb_iter : Slot "itertools.combinations" "__iter__" "itertools.combinations.__iter__" :=
  .of (owner := "itertools.combinations") (n := "__iter__") (by rw [typeLookup_type, builtinLookup_eq_fast]; kernel_rfl) (by decide +kernel) (by decide +kernel) (by decide +kernel)
    (by first | exact .inl (by decide +kernel) | exact .inr (by decide +kernel)) (by rw [isSubtype_type]; kernel_rfl)
theorem slot_comb_init : Slot "itertools.combinations" "__init__" "object.__init__" :=
  .of (owner := "object") (n := "__init__") (by rw [typeLookup_type, builtinLookup_eq_fast]; kernel_rfl) (by decide +kernel) (by decide +kernel) (by decide +kernel)
    (by first | exact .inl (by decide +kernel) | exact .inr (by decide +kernel)) (by rw [isSubtype_type]; kernel_rfl)
theorem args_comb_next_1 (a : Value) : argsOk "itertools.combinations.__next__" ⟨[a], []⟩ := by
  unfold argsOk; rw [signature?_of (id := "itertools.combinations.__next__") (n := ['_', '_', 't', 'x', 'e', 'n', '_', '_']) (o := ['s', 'n', 'o', 'i', 't', 'a', 'n', 'i', 'b', 'm', 'o', 'c', '.', 's', 'l', 'o', 'o', 't', 'r', 'e', 't', 'i']) (by kernel_rfl) owner_comb]; kernel_rfl
theorem args_comb_iter_1 (a : Value) : argsOk "itertools.combinations.__iter__" ⟨[a], []⟩ := by
  unfold argsOk; rw [signature?_of (id := "itertools.combinations.__iter__") (n := ['_', '_', 'r', 'e', 't', 'i', '_', '_']) (o := ['s', 'n', 'o', 'i', 't', 'a', 'n', 'i', 'b', 'm', 'o', 'c', '.', 's', 'l', 'o', 'o', 't', 'r', 'e', 't', 'i']) (by kernel_rfl) owner_comb]; kernel_rfl
theorem called_comb : TypeCalled "itertools.combinations" "itertools.combinations.__new__" "object.__init__" :=
  ⟨by decide +kernel, by decide +kernel, ⟨_, _, mro_comb⟩, madeBy_type mro_comb lookup_comb_new (by decide +kernel), by decide +kernel, by rw [isSubtype_type]; kernel_rfl, slot_comb_init⟩
theorem sub_comb : isSubtype (.type "itertools.combinations") (.type "itertools.combinations") = pure true := by rw [isSubtype_type]; kernel_rfl
end AK
set_option Elab.async false
set_option linter.all false
set_option maxRecDepth 100000
set_option maxHeartbeats 2000000
namespace AK
open PySem PySem.Spec PyProof.Rows L2
open PySem.Builtin.Itertools

/-- the places that come after the places l, of n -/
def cbNext (n : Nat) (l : List Nat) : Option (List Nat) :=
  ((List.range l.length).reverse.find? fun i => l.getD i 0 != i + n - l.length).map fun i => l.take i ++ (List.range (l.length - i)).map fun j => l.getD i 0 + 1 + j
/-- the i-th choice of r places of n -/
def cbSeq (n r : Nat) : Nat → Option (List Nat)
  | 0 => if n < r then none else some (List.range r)
  | i + 1 => (cbSeq n r i).bind (cbNext n)
theorem cbNext_len {n : Nat} {l m : List Nat} (h : cbNext n l = some m) : m.length = l.length := by
  unfold cbNext at h
  obtain ⟨i, hi, rfl⟩ := Option.map_eq_some_iff.mp h
  have := List.mem_of_find?_eq_some hi
  simp at this
  simp
  omega
theorem cbSeq_len {n r : Nat} : ∀ {i : Nat} {l : List Nat}, cbSeq n r i = some l → l.length = r
  | 0, l, h => by
    unfold cbSeq at h
    split at h
    · cases h
    · cases h; simp
  | i + 1, l, h => by
    unfold cbSeq at h
    obtain ⟨m, hm, e⟩ := Option.bind_eq_some_iff.mp h
    rw [cbNext_len e, cbSeq_len hm]
def rints (l : List Nat) : List Value := l.map fun i : Nat => rawInt i
abbrev CbObj (h : Heap) (z : Addr) (f0 f1 f2 : Value) (idx : List Nat) : Prop :=
  h.get? z = some { cls := .type "itertools.combinations", dict := none, data := .fields (f0 :: f1 :: f2 :: rints idx).toArray, slots := #[] }
structure CbAt (h : Heap) (z p : Addr) (us : List Value) (r i : Nat) : Prop where
  pool : h.get? p = some { cls := .type "tuple", data := .seq us.toArray }
  obj : ∃ (st : Int) (prev : Value) (idx : List Nat), CbObj h z (.ref p) (rawInt st) prev idx ∧
    ((i = 0 ∧ st = 0 ∧ cbSeq us.length r 0 = some idx) ∨ (∃ k, i = k + 1 ∧ st = 1 ∧ cbSeq us.length r k = some idx) ∨ (i = 0 ∧ st = 2 ∧ us.length < r))
section
variable {prog : Program} {w : World} {A : Around} {E : Value → Shared → Prop} {s : Shared}
theorem cb_numbers {z : Addr} {f0 f1 f2 : Value} {idx : List Nat} {Q : List Nat → Shared → Prop} (ho : CbObj s.heap z f0 f1 f2 idx) (hq : Q idx s) :
    wpAny (model prog w) A (itNumbersFrom (.ref z) 3) Q E s := by
  unfold itNumbersFrom
  refine wpAny_bind (wpAny_load ho ?_)
  refine wpAny_pure ?_
  have e : ∀ f : Value → Nat, (∀ i : Nat, f (rawInt i) = i) → List.map f (List.drop 3 (f0 :: f1 :: f2 :: rints idx).toArray.toList) = idx := fun f hf => by
    simp [rints, hf, Function.comp_def]
  exact (congrArg (Q · s) (e _ fun i => rfl)).mpr hq
theorem cb_set1 {z : Addr} {f0 f1 f2 x : Value} {idx : List Nat} {Q : Unit → Shared → Prop} (ho : CbObj s.heap z f0 f1 f2 idx)
    (h : ∀ h', CbObj h' z f0 x f2 idx → Heap.SameBut z s.heap h' → Q () { s with heap := h' }) : wpAny (model prog w) A (setField (.ref z) 1 x) Q E s := by
  refine wpAny_setField_rec ho (by simp) fun h' e sb => h h' ?_ sb
  simpa using e
theorem cb_set2 {z : Addr} {f0 f1 f2 x : Value} {idx : List Nat} {Q : Unit → Shared → Prop} (ho : CbObj s.heap z f0 f1 f2 idx)
    (h : ∀ h', CbObj h' z f0 f1 x idx → Heap.SameBut z s.heap h' → Q () { s with heap := h' }) : wpAny (model prog w) A (setField (.ref z) 2 x) Q E s := by
  refine wpAny_setField_rec ho (by simp) fun h' e sb => h h' ?_ sb
  simpa using e
theorem cb_setN {z : Addr} {f0 f1 f2 : Value} {idx jdx : List Nat} {Q : Unit → Shared → Prop} (ho : CbObj s.heap z f0 f1 f2 idx) (hl : jdx.length ≤ 1000)
    (h : ∀ h', CbObj h' z f0 f1 f2 jdx → Heap.SameBut z s.heap h' → Q () { s with heap := h' }) : wpAny (model prog w) A (itSetNumbersFrom (.ref z) 3 jdx) Q E s := by
  unfold itSetNumbersFrom
  refine wpAny_updateFields ho rfl (h _ ?_ (Heap.SameBut.update ..)) ?_
  · have q := Heap.get?_update_self (Obj.mapFields fun fs => fs.extract 0 3 ++ (jdx.map fun n : Nat => rawInt n).toArray) ho rfl
    refine q.trans ?_
    simp [Obj.mapFields, rints]
  · simp
    have : (1000 : Nat) + 3 ≤ sizeLine + 3 := by decide
    omega
end
end AK
set_option Elab.async false
set_option linter.all false
set_option maxRecDepth 100000
set_option maxHeartbeats 2000000
namespace AK
open PySem PySem.Spec PyProof.Rows L2
open PySem.Builtin.Itertools
/-- what the pool holds at the places l -/
def cbPick (us : List Value) (l : List Nat) : List Value := l.map fun i => us.getD i .none
section
variable {prog : Program} {w : World} {A : Around} {E : Value → Shared → Prop} {s : Shared}
theorem CbAt.kept {h h' : Heap} {z p : Addr} {us : List Value} {r i : Nat} (Z : CbAt h z p us r i) (k : ∀ c o, c = z ∨ c = p → h.get? c = some o → h'.get? c = some o) : CbAt h' z p us r i :=
  ⟨k _ _ (.inr rfl) Z.pool, let ⟨st, pv, idx, ho, q⟩ := Z.obj; ⟨st, pv, idx, k _ _ (.inl rfl) ho, q⟩⟩
theorem cb_field {z : Addr} {f0 f1 f2 x : Value} {idx : List Nat} {k : Nat} {Q : Value → Shared → Prop} (ho : CbObj s.heap z f0 f1 f2 idx) (hk : (f0 :: f1 :: f2 :: rints idx)[k]? = some x) (hq : Q x s) :
    wpAny (model prog w) A (field (.ref z) k) Q E s := wpAny_field ho rfl (by rw [List.getElem?_toArray]; exact hk) hq
theorem cb_item {z p : Addr} {us : List Value} {r i : Nat} {idx : List Nat} {Q : Value → Shared → Prop} (Z : CbAt s.heap z p us r i) (hzp : z ≠ p) (hr : r ≤ 1000) (hi : cbSeq us.length r i = some idx)
    (hQ : ∀ T h', s.heap.objs.size ≤ T → h'.get? T = some { cls := .type "tuple", data := .seq (cbPick us idx).toArray } → CbAt h' z p us r (i + 1) → (∀ c o, c ≠ z → s.heap.get? c = some o → h'.get? c = some o) → Q (.ref T) { s with heap := h' }) :
    wpAny (model prog w) A (Builtin.«itertools.combinations.__next__» ⟨[.ref z], []⟩) (fun fin s' => ∃ v, fin = .done (.ret v) ∧ Q v s') E s := by
  obtain ⟨st, pv, jdx, ho, hst⟩ := id Z.obj
  have hil := cbSeq_len hi
  show wpAny _ _ (field (.ref z) 0 >>= _) _ _ _
  refine wpAny_bind (cb_field ho (x := .ref p) rfl ?_)
  show wpAny _ _ (itNumbersFrom (.ref z) 3 >>= _) _ _ _
  refine wpAny_bind (cb_numbers ho ?_)
  show wpAny _ _ ((field (.ref z) 1 >>= _) >>= _) _ _ _
  refine wpAny_bind (wpAny_bind (cb_field ho (x := rawInt st) rfl ?_))
  refine wpAny_pure ?_
  -- handing out
  have out : ∀ (h1 : Heap) (pv : Value), CbObj h1 z (.ref p) (rawInt 1) pv idx → h1.get? p = some { cls := .type "tuple", data := .seq us.toArray } → h1.objs.size = s.heap.objs.size → (∀ c o, c ≠ z → s.heap.get? c = some o → h1.get? c = some o) →
      wpAny (model prog w) A ((itPoolItems (.ref p) >>= fun items => newTuple (idx.map fun i => items.getD i .none)) >>= fun result => field (.ref z) 2 >>= fun before => setField (.ref z) 2 result >>= fun _ => letGo [before] [result] >>= fun _ => ret result) (fun fin s' => ∃ v, fin = .done (.ret v) ∧ Q v s') E { s with heap := h1 } := by
    intro h1 pv ho1 hp1 sz1 kp1
    unfold itPoolItems
    refine wpAny_bind (wpAny_bind (wpAny_bind (wpAny_seqItems hp1 rfl (wpAny_pure ?_))))
    refine (wpAny_newTuple ?_ (by rw [List.length_map, hil]; exact Nat.le_trans hr (by decide)))
    have e1 : (idx.map fun i => us.toArray.getD i Value.none) = cbPick us idx := by simp [cbPick]
    rw [e1]
    have up : ∀ o3 c o, h1.get? c = some o → (h1.push o3).get? c = some o := fun o3 c o e => Heap.get?_push_of_some _ e
    have ho2 := up { cls := .type "tuple", data := .seq (cbPick us idx).toArray } _ _ ho1
    refine wpAny_bind (cb_field (s := { s with heap := _ }) ho2 (x := pv) rfl ?_)
    refine wpAny_bind (cb_set2 (s := { s with heap := _ }) ho2 fun h3 ho3 sb3 => ?_)
    refine wpAny_bind (wpAny_letGo (wpAny_pure ⟨_, rfl, ?_⟩))
    have hT : (h1.push { cls := .type "tuple", data := .seq (cbPick us idx).toArray }).get? h1.objs.size = some { cls := .type "tuple", data := .seq (cbPick us idx).toArray } := Heap.get?_push_size _ rfl
    have hz : z < h1.objs.size := Heap.lt_size ho1
    refine hQ _ h3 (by show _ ≤ h1.objs.size; rw [sz1]; exact Nat.le_refl _) ((sb3.2 _ (Nat.ne_of_gt hz)).trans hT) ⟨(sb3.2 _ (Ne.symm hzp)).trans (up _ _ _ hp1), 1, _, idx, ho3, .inr (.inl ⟨i, rfl, rfl, hi⟩)⟩ fun c o hc e => (sb3.2 _ hc).trans (up _ _ _ (kp1 c o hc e))
  rcases hst with ⟨rfl, rfl, hs⟩ | ⟨k, rfl, rfl, hs⟩ | ⟨rfl, rfl, hs⟩
  · rw [hi] at hs
    cases hs
    show wpAny _ _ (setField (.ref z) 1 (rawInt 1) >>= _) _ _ _
    refine wpAny_bind (cb_set1 ho fun h1 ho1 sb1 => ?_)
    have g := out h1 pv ho1 ((sb1.2 _ (Ne.symm hzp)).trans Z.pool) sb1.1 fun c o hc e => (sb1.2 c hc).trans e
    exact g
  · show wpAny _ _ (itPoolItems (.ref p) >>= _) _ _ _
    unfold itPoolItems
    refine wpAny_bind (wpAny_bind (wpAny_seqItems Z.pool rfl (wpAny_pure ?_)))
    have hn : cbNext us.length jdx = some idx := by
      rw [cbSeq, hs] at hi
      exact hi
    split
    · rename_i nx e
      have e2 : cbNext us.toArray.size jdx = some nx := by
        unfold cbNext
        refine Eq.trans ?_ e
        show _ = (match (List.range jdx.length).reverse.find? fun i => jdx.getD i 0 != i + us.toArray.size - jdx.length with | none => none | some i => some _)
        cases (List.range jdx.length).reverse.find? fun i => jdx.getD i 0 != i + us.toArray.size - jdx.length <;> rfl
      rw [List.size_toArray, hn] at e2
      cases e2
      refine wpAny_bind (cb_setN ho (by rw [hil]; exact hr) fun h1 ho1 sb1 => ?_)
      exact out h1 pv ho1 ((sb1.2 _ (Ne.symm hzp)).trans Z.pool) sb1.1 fun c o hc e => (sb1.2 c hc).trans e
    · rename_i e
      have e2 : cbNext us.toArray.size jdx = none := by
        unfold cbNext
        refine Eq.trans ?_ e
        show _ = (match (List.range jdx.length).reverse.find? fun i => jdx.getD i 0 != i + us.toArray.size - jdx.length with | none => none | some i => some _)
        cases (List.range jdx.length).reverse.find? fun i => jdx.getD i 0 != i + us.toArray.size - jdx.length <;> rfl
      rw [List.size_toArray, hn] at e2
      cases e2
  · unfold cbSeq at hi
    rw [if_pos hs] at hi
    cases hi
end
end AK
set_option Elab.async false
set_option linter.all false
set_option maxRecDepth 100000
set_option maxHeartbeats 2000000
namespace AK
open PySem PySem.Spec PyProof.Rows L2
open PySem.Builtin.Itertools
section
variable {prog : Program} {w : World} {A : Around} {E : Value → Shared → Prop} {s : Shared}
theorem it_stop {α : Type} {Q : α → Shared → Prop} (hh : A.handled = none) (hE : ∀ h' e, (∀ d o, s.heap.get? d = some o → h'.get? d = some o) → (∃ o, h'.get? e = some o ∧ o.cls = .type "StopIteration") → E (.ref e) { s with heap := h' }) :
    wpAny (model prog w) A (itStop : Sem α) Q E s := by
  unfold itStop
  refine wpAny_bind ?_
  simp only [newExc, newTuple]
  refine wpAny_bind (wpAny_newObj_type ?_ (by size_fits))
  refine wpAny_bind (m := firstArgMember _ _) (wpAny_of_eq (a := Value.none) (by first | rfl | (simp only [firstArgMember]; rfl)) ?_)
  refine wpAny_newObj_type ?_ (by size_fits)
  simp only [raiseNew]
  refine wpAny_bind (wpAny_handled ?_)
  rw [hh]
  refine wpAny_bind (wpAny_pure (wpAny_throw ?_))
  exact hE _ _ (fun d o e => Heap.get?_push_of_some _ (Heap.get?_push_of_some _ e)) ⟨_, Heap.get?_push_size _ rfl, rfl⟩
theorem cb_end {z p : Addr} {us : List Value} {r i : Nat} {Q : PySem.Fin → Shared → Prop} (hh : A.handled = none) (Z : CbAt s.heap z p us r i) (hzp : z ≠ p) (hi : cbSeq us.length r i = none)
    (hE : ∀ h' e, (∀ c o, c ≠ z → s.heap.get? c = some o → h'.get? c = some o) → (∃ o, h'.get? e = some o ∧ o.cls = .type "StopIteration") → E (.ref e) { s with heap := h' }) :
    wpAny (model prog w) A (Builtin.«itertools.combinations.__next__» ⟨[.ref z], []⟩) Q E s := by
  obtain ⟨st, pv, jdx, ho, hst⟩ := id Z.obj
  show wpAny _ _ (field (.ref z) 0 >>= _) _ _ _
  refine wpAny_bind (cb_field ho (x := .ref p) rfl ?_)
  show wpAny _ _ (itNumbersFrom (.ref z) 3 >>= _) _ _ _
  refine wpAny_bind (cb_numbers ho ?_)
  show wpAny _ _ ((field (.ref z) 1 >>= _) >>= _) _ _ _
  refine wpAny_bind (wpAny_bind (cb_field ho (x := rawInt st) rfl ?_))
  refine wpAny_pure ?_
  rcases hst with ⟨rfl, rfl, hs⟩ | ⟨k, rfl, rfl, hs⟩ | ⟨rfl, rfl, hs⟩
  · rw [hi] at hs
    cases hs
  · show wpAny _ _ (itPoolItems (.ref p) >>= _) _ _ _
    unfold itPoolItems
    refine wpAny_bind (wpAny_bind (wpAny_seqItems Z.pool rfl (wpAny_pure ?_)))
    have hn : cbNext us.length jdx = none := by
      rw [cbSeq, hs] at hi
      exact hi
    split
    · rename_i nx e
      have e2 : cbNext us.toArray.size jdx = some nx := by
        unfold cbNext
        refine Eq.trans ?_ e
        show _ = (match (List.range jdx.length).reverse.find? fun i => jdx.getD i 0 != i + us.toArray.size - jdx.length with | none => none | some i => some _)
        cases (List.range jdx.length).reverse.find? fun i => jdx.getD i 0 != i + us.toArray.size - jdx.length <;> rfl
      rw [List.size_toArray, hn] at e2
      cases e2
    · refine wpAny_bind (cb_set1 ho fun h1 ho1 sb1 => ?_)
      exact it_stop hh fun h' e kp he => hE h' e (fun c o hc q => kp c o ((sb1.2 c hc).trans q)) he
  · show wpAny _ _ (PySem.rule _ >>= _) _ _ _
    refine wpAny_bind (wpAny_rule ?_)
    exact it_stop hh fun h' e kp he => hE h' e (fun c o _ q => kp c o q) he
theorem comb_dict : typeHasDict (.type "itertools.combinations") = false := by kernel_rfl
theorem comb_bind (a b : Value) : (itBindNamed "combinations" ["iterable", "r"] 2 2 [a, b] [] : Sem _) = pure [some a, some b] := by
  first | rfl | kernel_rfl
theorem newClass_comb (a b : Value) {Q : Value × List Value → Shared → Prop} (h : Q (.type "itertools.combinations", [a, b]) s) :
    wpAny (model prog w) A (itClassAndRest "combinations" ⟨[.type "itertools.combinations", a, b], []⟩) Q E s := by
  unfold itClassAndRest
  show wpAny _ _ (isType (.type "itertools.combinations") >>= _) _ _ s
  refine wpAny_bind (m := isType (.type "itertools.combinations")) (wpAny_of_eq (a := true) rfl ?_)
  show wpAny _ _ (isSubtype (.type "itertools.combinations") (.type "itertools.combinations") >>= _) _ _ s
  refine wpAny_bind (wpAny_of_eq sub_comb ?_)
  exact wpAny_pure h
theorem ssize_int (k : Int) (t : Tok) (h0 : 0 ≤ k) (h1 : k ≤ 1000) {Q : Int → Shared → Prop} (h : Q k s) : wpAny (model prog w) A (itSsizeArg (.int k t)) Q E s := by
  unfold itSsizeArg
  refine wpAny_bind (wpAny_of_eq (a := k) (by rfl) ?_)
  have e : (decide (k < -(2 ^ 63 : Int)) || decide (k ≥ 2 ^ 63)) = false := by
    simp
    omega
  rw [if_neg (by rw [e]; exact Bool.false_ne_true)]
  exact wpAny_pure h
end
end AK
set_option Elab.async false
set_option linter.all false
set_option maxRecDepth 100000
set_option maxHeartbeats 2000000
namespace AK
open PySem PySem.Spec PyProof.Rows L2
open PySem.Builtin.Itertools
theorem meets_comb (l : Addr) (o : Obj) (items : Array Value) (n : Nat) (r : Nat) (t : Tok) (hr : r ≤ 1000) (hT : o.cls = .type "list" ∨ o.cls = .type "tuple") (hd : o.data = .seq items n) (hsz : items.size ≤ sizeLine) :
    Meets (Builtin.«itertools.combinations.__new__» ⟨[.type "itertools.combinations", .ref l, .int r t], []⟩)
      (fun _ R s => s.heap.get? l = some o ∧ ∀ h1 h' : Heap, (∀ c o, s.heap.get? c = some o → h1.get? c = some o) → CbAt h' (h1.objs.size + 1) h1.objs.size items.toList r 0 → (∀ c o, h1.get? c = some o → h'.get? c = some o) → R (.ok (.ret (.ref (h1.objs.size + 1)))) { s with heap := h' }) :=
  .of_wp fun prog w A R s h => by
    obtain ⟨ho, h⟩ := h
    unfold Builtin.«itertools.combinations.__new__»
    show wpAny _ _ ((itClassAndRest "combinations" _ >>= _) >>= _) _ _ s
    refine wpAny_bind (wpAny_bind (newClass_comb _ _ ?_))
    show wpAny _ _ ((itBindNamed "combinations" ["iterable", "r"] 2 2 [.ref l, .int r t] [] : Sem _) >>= _) _ _ s
    refine wpAny_bind (wpAny_of_eq (comb_bind _ _) ?_)
    show wpAny _ _ (itSsizeArg (.int r t) >>= _) _ _ s
    refine wpAny_bind (ssize_int r t (by omega) (by omega) ?_)
    show wpAny _ _ (collect (.ref l) >>= _) _ _ s
    obtain ⟨T, hT, hc⟩ : ∃ T, (T = "list" ∨ T = "tuple") ∧ o.cls = .type T := hT.elim (fun e => ⟨_, .inl rfl, e⟩) fun e => ⟨_, .inr rfl, e⟩
    refine wpAny_bind (wpAny_collect_seq (hsz := hsz) l hT ho hc hd fun h1 kp1 => ?_)
    rw [if_neg (by simp)]
    have e1 : itTooMany (r : Int) = false := by unfold itTooMany; simp; omega
    rw [e1, if_neg Bool.false_ne_true]
    refine wpAny_bind (wpAny_newTuple ?_ (by rw [Array.length_toList]; exact hsz))
    refine wpAny_pure ?_
    show wpAny _ _ (itNewRecord (.type "itertools.combinations") _ >>= _) _ _ _
    unfold itNewRecord
    rw [comb_dict, if_pos (by rfl)]
    have e2 : ((r : Int).toNat) = r := rfl
    have e3 : rints (List.range r) = (List.range r).map fun (i : Nat) => rawInt i := rfl
    refine wpAny_bind (wpAny_newObj_type ?_ ?_)
    · refine wpAny_pure ⟨_, rfl, ?_⟩
      have s1 : (h1.push { cls := .type "tuple", data := .seq items.toList.toArray }).objs.size = h1.objs.size + 1 := Heap.size_push ..
      have q : ∀ ob : Obj, ob.isFreed = false → ((h1.push { cls := .type "tuple", data := .seq items.toList.toArray }).push ob).get? (h1.objs.size + 1) = some ob := fun ob hb => by
        rw [← s1]; exact Heap.get?_push_size _ hb
      refine (congrArg (fun v => R (.ok (.ret (.ref v))) _) s1).mpr ?_
      refine h h1 _ kp1 ⟨Heap.get?_push_of_some _ (Heap.get?_push_size _ rfl), _, _, List.range r, q _ rfl, ?_⟩ fun c o e => Heap.get?_push_of_some _ (Heap.get?_push_of_some _ e)
      rw [e2]
      by_cases hl : items.toList.length < r
      · rw [if_pos hl]
        exact .inr (.inr ⟨rfl, rfl, hl⟩)
      · rw [if_neg hl]
        refine .inl ⟨rfl, rfl, ?_⟩
        unfold cbSeq
        rw [if_neg hl]
    · show Array.size _ ≤ sizeLine + 2
      have : (1000 : Nat) + 3 ≤ sizeLine + 2 := by decide
      rw [e2]
      simp
      omega
section
variable {prog : Program} {w : World} {A : Around} {E : Value → Shared → Prop} {s : Shared}
theorem call_comb2 {l : Addr} {o : Obj} {items : Array Value} {n r : Nat} {t : Tok} {Q : Value → Shared → Prop} (ho : s.heap.get? l = some o) (hT : o.cls = .type "list" ∨ o.cls = .type "tuple") (hd : o.data = .seq items n) (hsz : items.size ≤ sizeLine) (hr : r ≤ 1000)
    (hQ : ∀ h1 h' : Heap, (∀ c o, s.heap.get? c = some o → h1.get? c = some o) → CbAt h' (h1.objs.size + 1) h1.objs.size items.toList r 0 → (∀ c o, h1.get? c = some o → h'.get? c = some o) → Q (.ref (h1.objs.size + 1)) { s with heap := h' }) :
    wpAny (model prog w) A (call (.type "itertools.combinations") [.ref l, .int r t]) Q E s := by
  refine callType_new called_comb (by decide) (cb_typeCall _ _ _) (cb_newCall _ _ _) (fun obj => F.args_object_init_3 obj _ _) entry_comb_new (meets_comb l o items n r t hr hT hd hsz) ⟨ho, fun h1 h' k1 Z k2 => ?_⟩
  obtain ⟨st, pv, idx, q, _⟩ := id Z.obj
  exact ⟨⟨_, q, rfl⟩, hQ h1 h' k1 Z k2⟩
end
end AK
set_option Elab.async false
set_option linter.all false
set_option maxRecDepth 100000
set_option maxHeartbeats 2000000
namespace AK
open PySem PySem.Spec PyProof.Rows L2
open PySem.Builtin.Itertools
section
variable {P : Program} {w : World} {K : PySem.W.Frag}
def cbPickV (xs : List V) (l : List Nat) : List V := l.map fun i => xs.getD i .non
/-- the choices of r of xs, each in a new tuple -/
def ItCb (xs : List V) (r : Nat) : It := ⟨fun i _ => ∃ l, cbSeq xs.length r i = some l, fun i H x H' => ∃ T l, cbSeq xs.length r i = some l ∧ x = .ref T ∧ H T = none ∧ H' = upd H T (.tup (cbPickV xs l)), fun i _ => cbSeq xs.length r i = none⟩
theorem vals_getD {i : Nat} : ∀ {xs : List V} {us : List Value}, Vals xs us → RelV (xs.getD i .non) (us.getD i .none) := by
  intro xs us h
  cases e : xs[i]? with
  | some x =>
    obtain ⟨u, hu, r⟩ := h.get e
    rw [List.getD_eq_getElem?_getD, List.getD_eq_getElem?_getD, e, hu]
    exact r
  | none =>
    have hl := h.length
    have : us[i]? = none := by
      rw [List.getElem?_eq_none_iff] at e ⊢
      omega
    rw [List.getD_eq_getElem?_getD, List.getD_eq_getElem?_getD, e, this]
    exact rfl
theorem cbPick_vals {xs : List V} {us : List Value} (h : Vals xs us) : ∀ l : List Nat, Vals (cbPickV xs l) (cbPick us l)
  | [] => .nil
  | i :: l => .cons (vals_getD h) (cbPick_vals h l)
theorem comb_go {M : Model} {A : Around} {E : Value → Shared → Prop} {s : Shared} {tg : Expr} {z p : Addr} {us : List Value} {r i : Nat} {u : Value} {Q : Unit → Shared → Prop} (Z : CbAt s.heap z p us r i) (hQ : Q () s) : wpAny M A (letOwnedTupleGo tg (.ref z) u) Q E s := by
  obtain ⟨st, pv, idx, q, _⟩ := id Z.obj
  exact go_of q rfl rfl (by decide) hQ
theorem turn_comb {tg : Expr} (z p : Addr) (hzp : z ≠ p) (xs : List V) (r : Nat) (hr : r ≤ 1000) :
    Turn P w K tg (ItCb xs r) [z, p] z (fun i h => ∃ us : List Value, Vals xs us ∧ CbAt h z p us r i) where
  mem := by simp
  obj := fun i h ⟨us, e, Z⟩ a ha => by
    obtain ⟨st, pv, idx, q, _⟩ := id Z.obj
    have h12 : a = z ∨ a = p := by simpa using ha
    rcases h12 with rfl | rfl
    · exact ⟨_, q, fun v q => nomatch q⟩
    · exact ⟨_, Z.pool, fun v q => nomatch q⟩
  keep := fun i h h' ⟨us, e, Z⟩ k => ⟨us, e, Z.kept fun c o hc q => k c (by simpa using hc) o q⟩
  item := by
    intro X hP hw hK hc i pins s σ H E I hf st hg
    subst hP hw hK
    obtain ⟨us, e, Z⟩ := st
    obtain ⟨l, hl⟩ := hg
    have el := e.length
    have hT : s.TypeIs (.ref z) "itertools.combinations" := let ⟨_, _, _, q, _⟩ := id Z.obj; ⟨_, q, rfl⟩
    have key : wpAny (model X.prog X.w) X.A (pyNext (.ref z)) (fun r' s1 => ∃ u, r' = some u ∧ ∃ x H', Inv X pins σ H' s1 ∧ RelV x u ∧ (ItCb xs r).yld i H x H' ∧ (∃ us' : List Value, Vals xs us' ∧ CbAt s1.heap z p us' r (i + 1)) ∧ ∀ c ∈ [z, p], H' c = none) E s := by
      unfold pyNext
      refine wpAny_bind (wpAny_attempt (wpAny_callSpecial?_slot (name := Str.ofString "__next__") hT slot_comb_next (wpAny_call_entry slot_comb_next hT entry_comb_next
        (cb_item Z hzp hr (by rw [← el]; exact hl) fun T h' hT hTo Z' O => wpAny_pure ?_) (args_comb_next_1 _))))
      have new : ObjOk X.prog X.w (upd H T (.tup (cbPickV xs l))) h' T (.tup (cbPickV xs l)) :=
        ⟨by unfold cbPickV; rw [List.length_map, cbSeq_len hl]; exact Nat.le_trans hr (by decide), _, cbPick_vals e l, ⟨_, hTo, rfl, _, rfl⟩⟩
      have I1 : Inv X pins σ (upd H T (.tup (cbPickV xs l))) { s with heap := h', toks := s.toks } :=
        I.turnedNew (t' := s.toks) (ch := [z, p]) (fun c o hb q => O c o (fun y => hb (by rw [y]; simp)) q) hf hT new
      refine ⟨_, rfl, .ref T, _, I1, rfl, ⟨T, l, hl, rfl, I.hok.fresh hT, rfl⟩, ⟨us, e, Z'⟩, fun c hcm => ?_⟩
      have hlt : c < s.heap.objs.size := by
        obtain ⟨st, pv, idx, q, _⟩ := id Z.obj
        have h12 : c = z ∨ c = p := by simpa using hcm
        rcases h12 with rfl | rfl
        · exact Heap.lt_size q
        · exact Heap.lt_size Z.pool
      rw [upd_ne (Nat.ne_of_lt (Nat.lt_of_lt_of_le hlt hT))]
      exact (hf c hcm).1
    refine thn key fun r' s1 ⟨u, hr, x, H', q⟩ => ⟨u, hr, ?_⟩
    obtain ⟨_, _, _, ⟨us', _, Z'⟩, _⟩ := id q
    exact comb_go Z' ⟨x, H', q⟩
  done := by
    intro X hP hw hK hc i pins s σ H E I hf st hg
    subst hP hw hK
    obtain ⟨us, e, Z⟩ := st
    have el := e.length
    have hT : s.TypeIs (.ref z) "itertools.combinations" := let ⟨_, _, _, q, _⟩ := id Z.obj; ⟨_, q, rfl⟩
    unfold pyNext
    refine wpAny_bind (wpAny_attempt (wpAny_callSpecial?_slot (name := Str.ofString "__next__") hT slot_comb_next (wpAny_call_entry slot_comb_next hT entry_comb_next
      (cb_end (I.ok.hd hc) Z hzp (by rw [← el]; exact hg) fun h' x O he => ?_) (args_comb_next_1 _))))
    obtain ⟨o, ho, hcl⟩ := he
    refine wpAny_bind (wpAny_isInstance (T := "StopIteration") (b := true) ⟨o, ho, hcl⟩ isSubtype_stop ?_)
    exact wpAny_pure ⟨rfl, I.turnedL (t' := s.toks) (ch := [z, p]) (fun c o hb q => O c o (fun y => hb (by rw [y]; simp)) q) hf⟩
  self := fun A i s Q E ⟨us, e, Z⟩ h => by
    obtain ⟨st, pv, idx, q, _⟩ := id Z.obj
    have hT : s.TypeIs (.ref z) "itertools.combinations" := ⟨_, q, rfl⟩
    refine wpAny_pyIter_slot hT slot_comb_iter (wpAny_call_entry slot_comb_iter hT entry_comb_iter ?_ (args_comb_iter_1 _))
    show wpAny _ _ (ret _) _ _ s
    exact wpAny_pure ⟨_, rfl, "itertools.combinations", _, hT, slot_comb_next.lookup, h⟩
/-- combinations(e, r): a list or a tuple -/
def iComb (K : PySem.W.Frag) (ta : TA) : TI := fun σ H R => ta σ H fun vs H1 => ∃ (a : Addr) (xs : List V) (r : Nat), vs = [.ref a, .int r] ∧ r ≤ 1000 ∧ (SqL K H1 a xs ∨ SqT K H1 a xs) ∧ R (ItCb xs r) H1
theorem pi_comb {X : Cx} {tg e e2 : Expr} {ta : TA} {x : Str} {p pos : Pos} (hg : Gl X x) (hm : X.mg x = some (.type "itertools.combinations")) (ha : PA X [e, e2] ta) (hdb : (x == ("__debug__" : Str)) = false := by decide)
    (hs : starEach [e, e2] X.env = (false, eval e X.env) :: starEach [e2] X.env := by rfl) (hpl : (backTo pos (starEach [e2] X.env)).any (·.1) = false := by rfl) :
    PI X tg (.Call (.Name x p) [e, e2] [] pos) (iComb X.K ta) := by
  refine ⟨fun pins s σ H R I h => ?_⟩
  refine Call_ (ld_glob I hg hm (PyProof.Rows.callWith_type1 (thn (ha.run pos pins s σ H _ I h) fun us s1 ⟨vs, H1, I1, r1, q1⟩ => ?_) hs hpl) hdb)
  obtain ⟨a, xs, r, ex, hr, hq, q⟩ := q1
  subst ex
  cases r1 with
  | cons ra rr =>
    cases rr with
    | cons rb rr =>
      cases rr
      cases ra
      obtain ⟨t, rfl⟩ := (show ∃ t, _ = Value.int r t from rb)
      obtain ⟨o, its, n, ho, hcl, hd, rv, hz⟩ : ∃ (o : Obj) (its : List Value) (n : Nat), s1.heap.get? a = some o ∧ (o.cls = .type "list" ∨ o.cls = .type "tuple") ∧ o.data = .seq its.toArray n ∧ Vals xs its ∧ its.length ≤ sizeLine := by
        rcases hq with h | h
        · obtain ⟨its, r, pl, hz⟩ := I1.list h
          obtain ⟨o, ho, hc, n, hd⟩ := pl.isList
          exact ⟨o, its, n, ho, .inl hc, hd, r, by rw [← r.length]; exact hz⟩
        · obtain ⟨its, r, ⟨o, e, hc, n, d⟩, hz⟩ := I1.tuple h
          exact ⟨o, its, n, e, .inr hc, d, r, by rw [← r.length]; exact hz⟩
      refine call_comb2 ho hcl hd (by rw [List.size_toArray]; exact hz) hr fun h1 h' k1 Z k2 => ?_
      have Il : Inv X pins σ H1 { s1 with heap := h1 } := I1.kept (t' := s1.toks) k1
      have I2 : Inv X pins σ H1 { s1 with heap := h' } := I1.kept (t' := s1.toks) fun c o e => k2 c o (k1 c o e)
      have T := turn_comb (P := X.prog) (w := X.w) (K := X.K) (tg := tg) (h1.objs.size + 1) h1.objs.size (Nat.succ_ne_self _) xs r hr
      have st : ∃ us : List Value, Vals xs us ∧ CbAt h' (h1.objs.size + 1) h1.objs.size us r 0 := ⟨_, rv, by simpa using Z⟩
      refine T.self X.A 0 _ _ _ st ⟨_, _, _, _, H1, rfl, I2, T, st, fun c hcm => ?_, q⟩
      have hle : h1.objs.size ≤ c := by
        have h12 : c = h1.objs.size + 1 ∨ c = h1.objs.size := by simpa using hcm
        rcases h12 with z | z
        · rw [z]; exact Nat.le_add_right _ _
        · rw [z]; exact Nat.le_refl _
      exact Il.fpOk hle (Il.hok.fresh hle)
end
end AK
set_option Elab.async false
set_option linter.all false
namespace AK
open PySem PySem.Spec PyProof.Rows L2
theorem cbNext_nil (n : Nat) : cbNext n [] = none := rfl
theorem find_map_succ {p : Nat → Bool} : ∀ l : List Nat, (l.map (· + 1)).find? p = (l.find? fun i => p (i + 1)).map (· + 1)
  | [] => rfl
  | i :: l => by
    rw [List.map_cons, List.find?_cons, List.find?_cons]
    cases p (i + 1)
    · exact find_map_succ l
    · rfl
theorem cbNext_cons (n x : Nat) (l : List Nat) : cbNext n (x :: l) = match cbNext n l with
    | some m => some (x :: m)
    | none => if x != n - (l.length + 1) then some ((List.range (l.length + 1)).map fun j => x + 1 + j) else none := by
  have e : (List.range (l.length + 1)).reverse = ((List.range l.length).reverse.map (· + 1)) ++ [0] := by
    rw [List.range_succ_eq_map, List.reverse_cons, List.map_reverse]
  have e2 : ∀ i, (fun i => (x :: l).getD i 0 != i + n - (l.length + 1)) (i + 1) = (l.getD i 0 != i + n - l.length) := fun i => by
    show ((x :: l).getD (i + 1) 0 != i + 1 + n - (l.length + 1)) = _
    have : i + 1 + n - (l.length + 1) = i + n - l.length := by omega
    rw [this]
    simp
  unfold cbNext
  rw [List.length_cons, e, List.find?_append, find_map_succ]
  simp only [e2]
  cases h : (List.range l.length).reverse.find? fun i => l.getD i 0 != i + n - l.length with
  | some i =>
    have hi := List.mem_of_find?_eq_some h
    simp at hi
    simp
  | none =>
    simp
    by_cases hx : x = n - (l.length + 1)
    · simp [hx]
    · have : ¬ (x == n - (l.length + 1)) = true := by simpa using hx
      simp [hx, this]
/-- all choices of r places from a up to n, in their order -/
def combsFrom (n : Nat) : (d a r : Nat) → List (List Nat)
  | _, _, 0 => [[]]
  | 0, _, _ + 1 => []
  | d + 1, a, r + 1 => (combsFrom n d (a + 1) r).map (a :: ·) ++ combsFrom n d (a + 1) (r + 1)
theorem combs_len {n : Nat} : ∀ {d a r : Nat} {l : List Nat}, l ∈ combsFrom n d a r → l.length = r ∧ a + r ≤ a + d ∧ (∀ x ∈ l, a ≤ x ∧ x < a + d) ∧ l.Pairwise (· < ·)
  | d, a, 0, l, h => by
    have : l = [] := by cases d <;> simpa [combsFrom] using h
    subst this
    simp
  | 0, a, r + 1, l, h => by simp [combsFrom] at h
  | d + 1, a, r + 1, l, h => by
    simp only [combsFrom, List.mem_append, List.mem_map] at h
    rcases h with ⟨m, hm, rfl⟩ | h
    · obtain ⟨h1, h2, h3, h4⟩ := combs_len hm
      refine ⟨by simp [h1], by omega, fun x hx => ?_, List.pairwise_cons.mpr ⟨fun x hx => by have := (h3 x hx).1; omega, h4⟩⟩
      rcases List.mem_cons.mp hx with rfl | hx
      · omega
      · have := h3 x hx; omega
    · obtain ⟨h1, h2, h3, h4⟩ := combs_len h
      exact ⟨h1, by omega, fun x hx => by have := h3 x hx; omega, h4⟩
theorem combs_head {n : Nat} : ∀ d a r : Nat, (combsFrom n d a r)[0]? = if d < r then none else some (List.range' a r)
  | d, a, 0 => by cases d <;> simp [combsFrom]
  | 0, a, r + 1 => by simp [combsFrom]
  | d + 1, a, r + 1 => by
    have h1 := combs_head (n := n) d (a + 1) r
    have h2 := combs_head (n := n) d (a + 1) (r + 1)
    simp only [combsFrom]
    by_cases h : d < r
    · rw [if_pos h] at h1
      rw [if_pos (by omega)] at h2
      rw [if_pos (by omega)]
      have e : combsFrom n d (a + 1) r = [] := by
        cases q : combsFrom n d (a + 1) r with
        | nil => rfl
        | cons x y => rw [q] at h1; cases h1
      rw [e]
      simpa using h2
    · rw [if_neg h] at h1
      rw [if_neg (by omega)]
      rw [List.getElem?_append_left (by rw [List.length_map]; exact (List.getElem?_eq_some_iff.mp h1).1), List.getElem?_map, h1]
      simp [List.range'_succ]
theorem combs_next {n : Nat} : ∀ (d a r i : Nat) (l : List Nat), a + d = n → (combsFrom n d a r)[i]? = some l → cbNext n l = (combsFrom n d a r)[i + 1]?
  | d, a, 0, i, l, hn, h => by
    have e : combsFrom n d a 0 = [[]] := by cases d <;> rfl
    rw [e] at h ⊢
    match i, h with
    | 0, h => cases h; rfl
  | 0, a, r + 1, i, l, hn, h => by simp [combsFrom] at h
  | d + 1, a, r + 1, i, l, hn, h => by
    simp only [combsFrom] at h ⊢
    by_cases hi : i < (combsFrom n d (a + 1) r).length
    · rw [List.getElem?_append_left (by simpa using hi), List.getElem?_map] at h
      obtain ⟨m, hm, rfl⟩ := Option.map_eq_some_iff.mp h
      have ih := combs_next d (a + 1) r i m (by omega) hm
      have hml := (combs_len (List.mem_of_getElem? hm)).1
      rw [cbNext_cons, ih]
      by_cases hi' : i + 1 < (combsFrom n d (a + 1) r).length
      · rw [List.getElem?_append_left (by simpa using hi'), List.getElem?_map, List.getElem?_eq_getElem hi']
        rfl
      · rw [List.getElem?_append_right (by simpa using hi'), List.length_map]
        have e0 : i + 1 - (combsFrom n d (a + 1) r).length = 0 := by omega
        rw [e0, combs_head, List.getElem?_eq_none (by omega)]
        have hd := (combs_len (List.mem_of_getElem? hm)).2.1
        rw [hml]
        by_cases q : d < r + 1
        · rw [if_pos q]
          have : a = n - (r + 1) := by omega
          simp [this]
        · rw [if_neg q]
          have : a ≠ n - (r + 1) := by omega
          simp [this]
          rw [List.range'_eq_map_range]
    · rw [List.getElem?_append_right (by simpa using hi), List.length_map] at h
      rw [List.getElem?_append_right (by rw [List.length_map]; omega), List.length_map]
      have ih := combs_next d (a + 1) (r + 1) _ l (by omega) h
      rw [ih]
      congr 1
      omega
/-- all choices of r of n places -/
def combs (n r : Nat) : List (List Nat) := combsFrom n n 0 r
theorem cbSeq_combs (n r : Nat) : ∀ i, cbSeq n r i = (combs n r)[i]?
  | 0 => by
    unfold combs
    rw [combs_head, cbSeq, List.range_eq_range']
  | i + 1 => by
    rw [cbSeq, cbSeq_combs n r i]
    cases h : (combs n r)[i]? with
    | none =>
      rw [List.getElem?_eq_none_iff] at h
      rw [List.getElem?_eq_none (by omega)]
      rfl
    | some l => exact combs_next n 0 r i l (by omega) h
theorem mem_combsFrom {n : Nat} : ∀ (d a r : Nat) (l : List Nat), l.length = r → (∀ x ∈ l, a ≤ x ∧ x < a + d) → l.Pairwise (· < ·) → l ∈ combsFrom n d a r
  | d, a, 0, l, h, _, _ => by
    have : l = [] := List.length_eq_zero_iff.mp h
    subst this
    cases d <;> simp [combsFrom]
  | 0, a, r + 1, l, h, hx, _ => by
    cases l with
    | nil => cases h
    | cons x l => have := hx x List.mem_cons_self; omega
  | d + 1, a, r + 1, l, h, hx, hp => by
    cases l with
    | nil => cases h
    | cons x l =>
      have hp' := List.pairwise_cons.mp hp
      simp only [combsFrom, List.mem_append, List.mem_map]
      by_cases e : x = a
      · subst e
        refine .inl ⟨l, mem_combsFrom d (x + 1) r l (by simpa using h) (fun y hy => ?_) hp'.2, rfl⟩
        have h1 := hp'.1 y hy
        have h2 := hx y (List.mem_cons_of_mem _ hy)
        omega
      · refine .inr (mem_combsFrom d (a + 1) (r + 1) _ h (fun y hy => ?_) hp)
        have h0 := hx x List.mem_cons_self
        have h2 := hx y hy
        rcases List.mem_cons.mp hy with rfl | hy
        · omega
        · have h1 := hp'.1 y hy
          omega
/-- what combinations hands out: just the rising choices -/
theorem mem_combs {n r : Nat} {l : List Nat} : l ∈ combs n r ↔ l.length = r ∧ (∀ x ∈ l, x < n) ∧ l.Pairwise (· < ·) :=
  ⟨fun h => let q := combs_len h; ⟨q.1, fun x hx => by have := (q.2.2.1 x hx).2; omega, q.2.2.2⟩, fun ⟨h1, h2, h3⟩ => mem_combsFrom n 0 r l h1 (fun x hx => by have := h2 x hx; omega) h3⟩
end AK
set_option Elab.async false
set_option linter.all false
set_option maxRecDepth 100000
set_option maxHeartbeats 2000000
namespace AK
open PySem PySem.Spec PyProof.Rows L2

/-! ### counting one sign in a text -/
theorem occ_len (x : Str) (c limit : Nat) : ∀ (m i : Nat) (st : Array Nat × Nat), st.2 ≤ i → st.1.size + m ≤ limit →
    (forIn (List.range' i m) st (StrLaws.occBody x ⟨#[c]⟩ x.length limit)).run.fst.size = st.1.size + ((List.range' i m).filter fun j => x.cps.toList[j]? == some c).length
  | 0, i, st, _, _ => by simp
  | m + 1, i, st, h, hl => by
    rw [List.range'_succ, List.forIn_cons]
    unfold StrLaws.occBody
    have hb := StrLaws.subAt_one x c i
    by_cases hc : x.cps.toList[i]? = some c
    · have q := hb.mpr hc
      rw [if_pos ⟨⟨⟨by omega, h⟩, q.1⟩, q.2⟩]
      have ih := occ_len x c limit m (i + 1) (st.1.push i, i + (⟨#[c]⟩ : Str).length) (Nat.le_refl _) (by simp only [Array.size_push]; omega)
      rw [List.filter_cons_of_pos (by simp [hc])]
      refine ih.trans ?_
      simp only [Array.size_push, List.length_cons]
      omega
    · rw [if_neg (fun z => hc (hb.mp ⟨z.1.2, z.2⟩))]
      have ih := occ_len x c limit m (i + 1) (st.1, st.2) (by show st.2 ≤ i + 1; omega) (by show st.1.size + m ≤ limit; omega)
      rw [List.filter_cons_of_neg (by rw [beq_iff_eq]; exact hc)]
      exact ih
theorem filter_get : ∀ (l : List Nat) (c k : Nat), ((List.range' k (l.length + 1)).filter fun j => l[j - k]? == some c).length = l.count c
  | [], c, k => by simp [List.range']
  | a :: l, c, k => by
    have ih := filter_get l c (k + 1)
    rw [List.length_cons, List.range'_succ]
    have e : (List.range' (k + 1) (l.length + 1)).filter (fun j => (a :: l)[j - k]? == some c) = (List.range' (k + 1) (l.length + 1)).filter (fun j => l[j - (k + 1)]? == some c) := by
      refine List.filter_congr fun j hj => ?_
      have h1 : k + 1 ≤ j := (List.mem_range'_1.mp hj).1
      have e : j - k = (j - (k + 1)) + 1 := by omega
      rw [e, List.getElem?_cons_succ]
    by_cases h : a = c
    · subst h
      rw [List.filter_cons_of_pos (by simp), List.length_cons, e, ih]
      simp
    · rw [List.filter_cons_of_neg (by simp [h]), e, ih]
      simp [h]
theorem count_one (x : Str) (c : Nat) : Txt.count x ⟨#[c]⟩ = (x.cps.toList.count c : Int) := by
  unfold Txt.count
  rw [StrLaws.occ_eq]
  have h := occ_len x c (x.length + 1) (x.length + 1) 0 (#[], 0) (Nat.le_refl _) (by simp)
  have e : x.length = x.cps.toList.length := by simp [Str.length]
  have h2 := filter_get x.cps.toList c 0
  simp only [Nat.sub_zero] at h2
  rw [← e] at h2
  rw [h2] at h
  rw [Nat.sub_zero, Array.length_toList]
  simp only [List.size_toArray, List.length_nil, Nat.zero_add] at h
  rw [h]

/-! ### joining signs by nothing -/
theorem joinL_signs : ∀ cs : List Nat, TL.joinL [] (cs.map fun c => [c]) = cs
  | [] => rfl
  | [_] => rfl
  | a :: b :: r => by
    have ih := joinL_signs (b :: r)
    show [a] ++ ([] ++ TL.joinL [] ((b :: r).map fun c => [c])) = a :: b :: r
    rw [ih] <;> rfl
theorem join_signs (cs : List Nat) : Txt.join (Str.ofString "") (cs.map fun c => (⟨#[c]⟩ : Str)) = ⟨cs.toArray⟩ := by
  refine TL.ext_tl ?_
  rw [TL.join_eq, TL.tl_join, List.map_map]
  show TL.joinL [] _ = _
  exact joinL_signs cs

/-! ### webs as texts -/
def sg (b : Bool) : Nat := if b = true then 120 else 45
def row (n : Nat) (e : Nat → Bool) : Str := ⟨((List.range n).map fun j => sg (e j)).toArray⟩
def web (n : Nat) (e : Nat → Nat → Bool) : List Str := (List.range n).map fun i => row n (e i)
def deg (n : Nat) (e : Nat → Bool) : Nat := ((List.range n).filter e).length
structure IsWeb (n : Nat) (e : Nat → Nat → Bool) : Prop where
  sym : ∀ i j, i < n → j < n → e i j = e j i
  irr : ∀ i, i < n → e i i = false
theorem row_size (n : Nat) (e : Nat → Bool) : (row n e).cps.size = n := by simp [row]
theorem row_len (n : Nat) (e : Nat → Bool) : (row n e).length = n := by simp [row, Str.length]
theorem web_len (n : Nat) (e : Nat → Nat → Bool) : (web n e).length = n := by simp [web]
theorem row_at {n j : Nat} {e : Nat → Bool} (h : j < n) : (row n e).cps[j]? = some (sg (e j)) := by simp [row, h]
theorem row_atL {n j : Nat} {e : Nat → Bool} (h : j < n) : (row n e).cps.toList[j]? = some (sg (e j)) := by simp [row, h]
theorem web_at {n i : Nat} {e : Nat → Nat → Bool} (h : i < n) : (web n e)[i]? = some (row n (e i)) := by simp [web, h]
theorem sg_x (b : Bool) : (sg b = 120) ↔ b = true := by cases b <;> simp [sg]
theorem sg_lt (b : Bool) : sg b < 128 := by cases b <;> decide
theorem row_ascii (n : Nat) (e : Nat → Bool) : (row n e).cps.all (· < 128) = true := by
  rw [Array.all_eq_true']
  intro c hc
  simp only [row, List.mem_toArray, List.mem_map] at hc
  obtain ⟨j, _, rfl⟩ := hc
  exact decide_eq_true (sg_lt _)
theorem deg_le (n : Nat) (e : Nat → Bool) : deg n e ≤ n := by
  have h := List.length_filter_le e (List.range n)
  rw [List.length_range] at h
  exact h
theorem count_map_x : ∀ (l : List Nat) (e : Nat → Bool), (l.map fun j => sg (e j)).count 120 = (l.filter e).length
  | [], e => rfl
  | a :: l, e => by
    rw [List.map_cons, List.count_cons, count_map_x l e]
    cases h : e a with
    | true => rw [List.filter_cons_of_pos h]; simp [sg]
    | false => rw [List.filter_cons_of_neg (by simp [h])]; simp [sg]
theorem count_map_d : ∀ (l : List Nat) (e : Nat → Bool), (l.map fun j => sg (e j)).count 120 + (l.map fun j => sg (e j)).count 45 = l.length
  | [], e => rfl
  | a :: l, e => by
    have ih := count_map_d l e
    rw [List.map_cons, List.count_cons, List.count_cons, List.length_cons]
    cases h : e a with
    | true => simp [sg] at ih ⊢; omega
    | false => simp [sg] at ih ⊢; omega
theorem row_knows (n : Nat) (e : Nat → Bool) : Txt.count (row n e) (Str.ofString "x") = (deg n e : Int) := by
  show Txt.count (row n e) ⟨#[120]⟩ = _
  rw [count_one]
  show (((List.range n).map fun j => sg (e j)).count 120 : Int) = _
  rw [count_map_x] <;> rfl
theorem row_both (n : Nat) (e : Nat → Bool) : Txt.count (row n e) (Str.ofString "x") + Txt.count (row n e) (Str.ofString "-") = (n : Int) := by
  show Txt.count (row n e) ⟨#[120]⟩ + Txt.count (row n e) ⟨#[45]⟩ = _
  rw [count_one, count_one]
  have h := count_map_d (List.range n) e
  rw [List.length_range] at h
  show (((List.range n).map fun j => sg (e j)).count 120 : Int) + (((List.range n).map fun j => sg (e j)).count 45 : Int) = _
  omega
/-- a column of a web, joined, is the row -/
theorem col_join {n i : Nat} {e : Nat → Nat → Bool} (W : IsWeb n e) (hi : i < n) : Txt.join (Str.ofString "") ((web n e).map fun a => (⟨#[a.cps.getD i 0]⟩ : Str)) = row n (e i) := by
  have h : ((web n e).map fun a => (⟨#[a.cps.getD i 0]⟩ : Str)) = ((List.range n).map fun j => sg (e i j)).map fun c => (⟨#[c]⟩ : Str) := by
    unfold web
    rw [List.map_map, List.map_map]
    refine List.map_congr_left fun j hj => ?_
    have hj' : j < n := List.mem_range.mp hj
    have q := row_at (e := e j) hi
    show (⟨#[(row n (e j)).cps.getD i 0]⟩ : Str) = ⟨#[sg (e i j)]⟩
    rw [Array.getD_eq_getD_getElem?, q, W.sym j i hj' hi] <;> rfl
  rw [h, join_signs] <;> rfl

/-! ### lists as data -/
theorem canS : ∀ ws : List Str, (∀ a ∈ ws, PyData.strOk a = true) → PyData.canLayAll0 (ws.map PyData.str) = true
  | [], _ => rfl
  | a :: ws, h => by
    rw [List.map_cons]
    simp only [PyData.canLayAll0, PyData.canLay0, Bool.and_eq_true]
    exact ⟨h a (List.mem_cons_self ..), canS ws fun b hb => h b (List.mem_cons_of_mem _ hb)⟩
theorem depthS : ∀ ws : List Str, PyData.depthAll (ws.map PyData.str) = 0
  | [] => rfl
  | a :: ws => by
    rw [List.map_cons]
    simp only [PyData.depthAll, PyData.depth, depthS ws]
    rfl
theorem shapedS {ws : List Str} (h : ∀ a ∈ ws, PyData.strOk a = true) : SeqAt.shaped (.list (ws.map PyData.str)) = true := by
  unfold SeqAt.shaped
  simp only [PyData.canLay0, PyData.depth, canS ws h, depthS ws]
  rfl
theorem eqvS : ∀ ws vs : List Str, PyData.eqvAll (ws.map PyData.str) (vs.map PyData.str) = decide (ws = vs)
  | [], [] => rfl
  | [], _ :: _ => rfl
  | _ :: _, [] => rfl
  | a :: ws, b :: vs => by
    rw [List.map_cons, List.map_cons]
    simp only [PyData.eqvAll, PyData.eqv, eqvS ws vs]
    by_cases h1 : a = b <;> by_cases h2 : ws = vs <;> simp [h1, h2]
theorem canI : ∀ ns : List Int, PyData.canLayAll0 (ns.map PyData.int) = true
  | [] => rfl
  | a :: ns => by
    rw [List.map_cons]
    simp only [PyData.canLayAll0, PyData.canLay0, canI ns]
    rfl
theorem depthI : ∀ ns : List Int, PyData.depthAll (ns.map PyData.int) = 0
  | [] => rfl
  | a :: ws => by
    rw [List.map_cons]
    simp only [PyData.depthAll, PyData.depth, depthI ws]
    rfl
theorem shapedI (ns : List Int) : SeqAt.shaped (.list (ns.map PyData.int)) = true := by
  unfold SeqAt.shaped
  simp only [PyData.canLay0, PyData.depth, canI ns, depthI ns]
  rfl
theorem eqvI : ∀ ws vs : List Int, PyData.eqvAll (ws.map PyData.int) (vs.map PyData.int) = decide (ws = vs)
  | [], [] => rfl
  | [], _ :: _ => rfl
  | _ :: _, [] => rfl
  | a :: ws, b :: vs => by
    rw [List.map_cons, List.map_cons]
    simp only [PyData.eqvAll, PyData.eqv, eqvI ws vs]
    by_cases h1 : a = b <;> by_cases h2 : ws = vs <;> simp [h1, h2]
section
variable {K : PySem.W.Frag} {H : Hp}
theorem dpS : ∀ ws : List Str, DpAll K H (ws.map V.str) (ws.map PyData.str)
  | [] => .nil
  | a :: ws => .cons (.str a) (dpS ws)
theorem dpI : ∀ ws : List Int, DpAll K H (ws.map V.int) (ws.map PyData.int)
  | [] => .nil
  | a :: ws => .cons (.int a) (dpI ws)
theorem tyList {a : Addr} {xs : List V} (h : SqL K H a xs) : TyX K H (.ref a) (.type "list") := by
  rcases h with (h | ⟨o, h⟩) | ⟨o, _, _, h, c, _⟩
  · exact .base (.lst h)
  · exact .base (.frz h)
  · exact .kList h c
end
end AK
set_option Elab.async false
set_option linter.all false
set_option maxRecDepth 100000
set_option maxHeartbeats 2000000
/-! generator expressions over any source, their names captured, elements that may call -/
namespace AK
open PySem PySem.Spec PyProof.Rows L2
section
variable {X : Cx} {pins : List (Addr × Obj)} {σ : L2.St} {H : Hp} {s : Shared}
/-- where an element runs: s0 is the state ahead of the source's iterator -/
structure EltAt (X : Cx) (P : Addr) (s0 : Shared) (scope : Scope) (cenv : Env) (A' : Around) (s2 : Shared) : Prop where
  sc : cenv.scope = scope
  cells : cenv.cells = cloFrom X.env.cells scope.names []
  glob : cenv.globals = X.env.globals
  hd : A'.handled = none
  dp : A'.depth ≤ X.A.depth + 1
  un : A'.units ≤ X.A.units + 8
  old : ∀ b o, b ≠ P → s0.heap.get? b = some o → s2.heap.get? b = some o
/-- a source: an iterator that hands out n things -/
def SrcAt (X : Cx) (P : Addr) (s0 s2 : Shared) (it : Value) (n : Nat) (Pf : Nat → Value → Prop) : Prop :=
  ∃ (Ia : Addr) (fp wr : List Addr) (St0 : Nat → Heap → Prop), it = .ref Ia ∧ (∀ A' : Around, A'.handled = none → Walks X.prog X.w A' Ia fp wr n Pf St0) ∧ St0 0 s2.heap ∧ (∀ b ∈ fp, b < s2.heap.objs.size ∧ b ≠ P) ∧ (∀ b ∈ wr, s0.heap.objs.size ≤ b) ∧
    (∃ h tk, s2 = { s0 with heap := h, toks := tk }) ∧ (∀ b o, s0.heap.get? b = some o → s2.heap.get? b = some o) ∧ s0.heap.objs.size ≤ s2.heap.objs.size
/-- the generator g, ready to hand out n things -/
def ReadyG (X : Cx) (pins : List (Addr × Obj)) (σ : L2.St) (H1 : Hp) (P : Addr) (n : Nat) (F : Nat → Value → Prop) (g : Addr) (s5 : Shared) : Prop :=
  ∃ (fp wr : List Addr) (G : Array GenState → Array GenState → Prop) (St : Nat → Shared → Prop), WalksS X.prog X.w X.A.in4 g fp wr G n F St ∧ St 0 s5 ∧ (∀ b ∈ fp, b < s5.heap.objs.size) ∧ g ∈ fp ∧ (∀ i s9, St i s9 → s9.TypeIs (.ref g) "generator") ∧
    ∀ s', Moved wr G s5 s' → ∃ H2, GxR.Tabbed P H1 H2 ∧ Inv X pins σ H2 s'
theorem gen_mk {c P : Addr} {elt iter : Expr} {x : Str} {px gpos : Pos} {scope : Scope} {k : Nat} {Q' : Value → Shared → Prop}
    (hr : Room k X.A) (TB : GxR.TabB X.base X.mg c P) (hcode : X.env.code = .ref c) (S : GxR.GenS X.env scope x) (hs : ∀ v, genFold iter X.env v = pure v) (hc : X.calm = true) (hok : X.Ok)
    (h : wpAny (model X.prog X.w) X.A (eval iter X.env) (fun xv s1 => wpAny (model X.prog X.w) X.A (pyIter xv) (fun it s2 => ∃ (s0 : Shared) (H1 : Hp) (n : Nat) (Pf F : Nat → Value → Prop), Inv X pins σ H1 s0 ∧ GxR.TabG H1 P ∧ SrcAt X P s0 s2 it n Pf ∧
      (∀ (cenv : Env) (A' : Around) (E' : Value → Shared → Prop) (i : Nat) (v : Value) (s3 : Shared) (m : Str → Option Value), EltAt X P s0 scope cenv A' s3 → Pf i v → s3.heap.Ns cenv.locals m → m x = some v →
        wpAny (model X.prog X.w) A' (eval elt cenv) (fun y s4 => F i y ∧ Keeps s3 s4) E' s3) ∧
      ∀ g s5, ReadyG X pins σ H1 P n F g s5 → Q' (.ref g) s5) X.xe s1) X.xe s) :
    wpAny (model X.prog X.w) X.A (eval (.GeneratorExp elt [⟨.Name x px, iter, [], 0⟩] scope gpos) X.env) Q' X.xe s := by
  refine wpAny_GeneratorExp_walksQD (hok.hd hc) S.co (closure_ok S.free) S.cell S.dot S.loc S.kind (by have := hr.dp; omega) ?_ hs
  refine thn h fun xv s1 h1 => thn h1 fun it s2 h2 => ?_
  obtain ⟨s0, H1, n, Pf, F, I1, ⟨ps, hP, ht⟩, ⟨Ia, fp, wr, St0, rfl, W, hst, hfp, hwr, ⟨hh2, tk2, es2⟩, kp2, szs⟩, hel, hq⟩ := h2
  have hPs : s0.heap.get? P = some { cls := .none, data := .fields ps } := I1.hok P _ hP
  have hP2 := kp2 _ _ hPs
  have cd : PySem.W.CodeHd s2.heap c P := TB.code.keeps fun b u e => kp2 b u (I1.bk b u e)
  have lim2 : s2.heap.NoLimit := I1.nolimit.keeps kp2
  have nP : ∀ b, s2.heap.objs.size ≤ b → b ≠ P := fun b hb z => by
    have := Heap.lt_size hP2
    rw [← z] at this
    exact absurd (Nat.lt_of_lt_of_le this hb) (Nat.lt_irrefl _)
  have hg2 : AllBare s2.gens := by rw [es2]; exact I1.bare
  have eg2 : s2.gens = s0.gens := by rw [es2]
  have eo2 : s2.os = s0.os := by rw [es2]
  have cont : ∀ (code : Value) (h3 : Heap) (tk : Nat) (ps' : Array Value), Heap.ExtBut P s2.heap h3 → s2.heap.objs.size ≤ h3.objs.size → h3.get? P = some { cls := .none, data := .fields ps' } → (∃ more, ps' = ps ++ more) → TriplesOk ps'.toList →
      wpAny (model X.prog X.w) X.A (builtinsFor X.env.globals X.env.builtins) (fun bi s₄ =>
        ∃ Ib fp' wr' n₀ Pf' St₀ pz F', Value.ref Ia = .ref Ib ∧ (∀ A' : Around, A'.handled = none → Walks X.prog X.w A' Ib fp' wr' n₀ Pf' St₀) ∧ St₀ 0 s₄.heap ∧ (∀ b ∈ fp', b < s₄.heap.objs.size) ∧ s₄.heap.NoLimit ∧ cStatics ∉ wr' ∧
          (∀ href : Heap, (∀ b o, s₄.heap.get? b = some o → href.get? b = some o) →
            QuietGenD X.prog X.w (genEnv scope (cloFrom X.env.cells scope.names []) s₄.heap.objs.size code bi X.env) x [] elt (List.range s₄.heap.objs.size) wr' Pf' pz F' href (X.A.depth + 1) (X.A.units + 8)) ∧
          (∀ a h₅ tk gs, gs.bare = true → s₄.heap.objs.size < a → h₅.objs.size = a + 1 → (∀ b o, s₄.heap.get? b = some o → h₅.get? b = some o) →
            WalksS X.prog X.w X.A.in4 a (a :: s₄.heap.objs.size :: List.range s₄.heap.objs.size) (s₄.heap.objs.size :: wr') (GenOnlyQ s₄.gens.size) (passing pz n₀ 0).length
              (fun j y => ∃ i, (passing pz n₀ 0)[j]? = some i ∧ F' i y) (GenAt X.prog X.w X.A.in4 a s₄.gens.size s₄.heap.objs.size (List.range s₄.heap.objs.size) wr' pz n₀ F') →
            GenAt X.prog X.w X.A.in4 a s₄.gens.size s₄.heap.objs.size (List.range s₄.heap.objs.size) wr' pz n₀ F' 0 { s₄ with gens := s₄.gens.push gs, toks := tk, heap := h₅ } →
            Q' (.ref a) { s₄ with gens := s₄.gens.push gs, toks := tk, heap := h₅ })) X.xe { s2 with heap := h3, toks := tk } := by
    intro code h3 tk ps' hx hsz hP3 hmore ht3
    obtain ⟨bm, ob, e1, e2, e3, e4, e5, e6, e7, e8⟩ := TB.bm
    have keep3 : ∀ b u, b ≠ P → s0.heap.get? b = some u → h3.get? b = some u := fun b u hb e => hx b u hb (kp2 b u e)
    have hcP : cStatics ≠ P := fun e => by
      obtain ⟨_, hns, _⟩ := lim2
      obtain ⟨o', es, ep, ho, hd, _⟩ := hns
      rw [e, hP2] at ho
      cases ho
      cases hd
    have hcl : cStatics < s0.heap.objs.size := let ⟨_, hns, _⟩ := I1.nolimit; hns.lt
    refine wpAny_builtinsFor (m := X.mg) (by rw [hok.glob]; exact (hok.mod.glob.keeps fun b u e => kp2 b u (I1.bk b u e)).extBut hx TB.gP) e1 e2 (keep3 _ _ e4 (I1.bk _ _ e5)) e6 e7 e8 ?_
    refine ⟨Ia, fp, wr, n, Pf, St0, (fun _ => true), F, rfl, W, ?_, fun b hb => Nat.lt_of_lt_of_le (hfp b hb).1 hsz, lim2.extBut hx hcP, fun z => absurd (Nat.lt_of_lt_of_le hcl (hwr _ z)) (Nat.lt_irrefl _), ?_, ?_⟩
    · exact (W X.A (hok.hd hc)).frame 0 _ _ hst fun b hb o e => hx b o (hfp b hb).2 e
    · intro href hhref
      have old : ∀ (s4 : Shared), (∀ b ∈ List.range h3.objs.size, b ∉ wr → ∀ o, href.get? b = some o → s4.heap.get? b = some o) → ∀ b o, b ≠ P → s0.heap.get? b = some o → s4.heap.get? b = some o := fun s4 hk b o hb e => by
        have hl := Heap.lt_size e
        refine hk b (List.mem_range.mpr (Nat.lt_of_lt_of_le hl (Nat.le_trans szs hsz))) (fun z => absurd (Nat.lt_of_lt_of_le hl (hwr b z)) (Nat.lt_irrefl _)) o (hhref b o (keep3 b o hb e))
      refine ⟨fun A' E' i v s4 m4 hA hD hU hPv hn hm hk => ?_, fun A' E' i v s4 m4 hA hD hU hPv hp hn hm hk => ?_⟩
      · simp only [List.forIn_nil]
        exact wpAny_pure ⟨rfl, GxR.keeps_refl _⟩
      · exact hel _ A' E' i v s4 m4 ⟨rfl, rfl, rfl, hA, hD, hU, old s4 hk⟩ hPv hn hm
    · intro g h5 tk5 gs hgb hag hsz5 hk5 W5 hgat
      simp only [GxR.passing_true, List.length_range] at W5
      have imp : ∀ j y, (∃ i, (List.range n)[j]? = some i ∧ F i y) → F j y := fun j y ⟨i, hij, hF⟩ => by
        obtain ⟨hj, ej⟩ := List.getElem?_eq_some_iff.mp hij
        rw [List.getElem_range] at ej
        subst ej
        exact hF
      refine hq g _ ⟨_, _, _, _, W5.imp imp, hgat, ?_, List.mem_cons_self, fun i s9 h9 => ?_, fun s' hm => ?_⟩
      · intro b hb
        show b < h5.objs.size
        have e5 : h5.objs.size = g + 1 := hsz5
        have h8 : h3.objs.size < g := hag
        rw [e5]
        rcases List.mem_cons.mp hb with z | z
        · rw [z]
          exact Nat.lt_succ_self g
        rcases List.mem_cons.mp z with z | z
        · rw [z]
          exact Nat.lt_succ_of_lt h8
        · exact Nat.lt_succ_of_lt (Nat.lt_trans (List.mem_range.mp z) h8)
      · obtain ⟨hg9, _⟩ := h9
        exact hg9.typeIs
      · obtain ⟨more, em⟩ := hmore
        have nwr : ∀ b u, s0.heap.get? b = some u → b ∉ h3.objs.size :: wr := fun b u e hb => by
          have hl := Heap.lt_size e
          rcases List.mem_cons.mp hb with z | z
          · rw [z] at hl
            exact absurd (Nat.lt_of_lt_of_le hl (Nat.le_trans szs hsz)) (Nat.lt_irrefl _)
          · exact absurd (Nat.lt_of_lt_of_le hl (hwr b z)) (Nat.lt_irrefl _)
        have hbare : AllBare s'.gens := AllBare.movedS (hg2.push hgb) hm
        have J := GxR.inv_tab (more := more) (h' := s'.heap) (g' := s'.gens) (d' := s'.drawn) (t' := s'.toks) I1 hP (fun b u hb e => hm.heap b u (nwr b u e) (hk5 b u (keep3 b u hb e)))
          (by rw [← em]; exact hm.heap P _ (nwr P _ hPs) (hk5 P _ hP3)) hbare
        have eos : s'.os = s0.os := hm.os.trans eo2
        rw [GxR.sh_eta s0 s' eos] at J
        refine ⟨upd H1 P (.tbl (ps ++ more)), ⟨⟨ps ++ more, upd_same, by rw [← em]; exact ht3⟩, fun b hb => upd_ne hb⟩, J⟩
  refine ⟨lim2, ?_⟩
  cases hf : codeAmong gpos ps.toList with
  | none =>
    refine wpAny_genexprCodeX hcode (cd.code hP2 ht) (cd.tab hP2) hf fun c' h' tk hx hge hlt hco' _ htab' _ => ?_
    obtain ⟨o1, vs, f1, tf, fl, tg, inF, tx, tt, op, _, _, _, _, _, _, _, _, _, htr, _⟩ := hco'
    exact cont _ h' tk _ hx (Nat.le_trans hge (Nat.le_of_lt hlt)) htab'.2 ⟨_, rfl⟩ htr
  | some cv =>
    refine wpAny_genexprCode_hit hcode (cd.code hP2 ht) hf ?_
    exact cont cv s2.heap s2.toks ps (Heap.ExtBut.refl _ _) (Nat.le_refl _) hP2 ⟨#[], by simp⟩ ht
end
end AK
set_option Elab.async false
set_option linter.all false
set_option maxRecDepth 100000
set_option maxHeartbeats 2000000
namespace AK
open PySem PySem.Spec PyProof.Rows L2
section
variable {X : Cx} {pins : List (Addr × Obj)} {σ : L2.St} {H : Hp} {s : Shared}
/-- the element: of a value of C the value f, all objects stand -/
def ElV (X : Cx) (P : Addr) (scope : Scope) (x : Str) (elt : Expr) (σ : L2.St) (C : V → Prop) (f : V → V) : Prop :=
  ∀ (pins : List (Addr × Obj)) (s0 : Shared) (H1 : Hp), Inv X pins σ H1 s0 → H1 P ≠ none → ∀ (cenv : Env) (A' : Around) (E' : Value → Shared → Prop) (v : V) (u : Value) (s3 : Shared) (m : Str → Option Value), EltAt X P s0 scope cenv A' s3 → C v → RelV v u → s3.heap.Ns cenv.locals m → m x = some u →
    wpAny (model X.prog X.w) A' (eval elt cenv) (fun y s4 => RelV (f v) y ∧ Keeps s3 s4) E' s3
theorem preSum_take (L : List Int) : ∀ k, k ≤ L.length → preSum (fun i => L.getD i 0) k = (L.take k).sum
  | 0, _ => rfl
  | k + 1, h => by
    have hk : k < L.length := h
    have e : L[k]? = some (L.getD k 0) := by rw [List.getD_eq_getElem?_getD, List.getElem?_eq_getElem hk] <;> rfl
    show preSum (fun i => L.getD i 0) k + L.getD k 0 = _
    rw [preSum_take L k (Nat.le_of_lt hk), L2.sum_take e]
/-- a list as a source -/
theorem src_lst {P yl : Addr} {its : List Value} (I : Inv X pins σ H s) (hP : H P ≠ none) (hcs : ∃ ps, H P = some (.tbl ps)) (hl : s.heap.IsList yl its.toArray) :
    SrcAt X P s { s with heap := s.heap.push { cls := .type "list_iterator", data := .fields #[.ref yl, .int 0 0] } } (.ref s.heap.objs.size) its.length (fun i v => its[i]? = some v) := by
  obtain ⟨ps, hP⟩ := hcs
  have hPs : s.heap.get? P = some { cls := .none, data := .fields ps } := I.hok P _ hP
  have hPlt := Heap.lt_size hPs
  have hylt : yl < s.heap.objs.size := by
    obtain ⟨_, e, _⟩ := id hl
    exact Heap.lt_size e
  have hylP : yl ≠ P := fun z => by
    obtain ⟨_, e, _, _, hd⟩ := id hl
    rw [z, hPs] at e
    cases e
    cases hd
  refine ⟨s.heap.objs.size, [s.heap.objs.size, yl], [s.heap.objs.size], fun i h => h.IsListIter s.heap.objs.size yl i ∧ h.IsList yl its.toArray, rfl, fun A' hA => ?_, ⟨⟨_, Heap.get?_push_size _ rfl, rfl, rfl⟩, hl.push _⟩, fun b hb => ?_, fun b hb => ?_, ⟨_, s.toks, rfl⟩, fun b o e => Heap.get?_push_of_some _ e, ?_⟩
  · have W := Walks.list (prog := X.prog) (w := X.w) hA s.heap.objs.size yl (Nat.ne_of_lt hylt) its.toArray
    rw [List.size_toArray] at W
    have e : (fun (i : Nat) (v : Value) => its.toArray[i]? = some v) = fun i v => its[i]? = some v := by
      funext i v
      rw [List.getElem?_toArray]
    rw [e] at W
    exact W
  · rw [Heap.size_push]
    rcases List.mem_cons.mp hb with z | z
    · rw [z]; exact ⟨Nat.lt_succ_self _, Nat.ne_of_gt hPlt⟩
    · rw [List.mem_singleton.mp z]; exact ⟨Nat.lt_succ_of_lt hylt, hylP⟩
  · rw [List.mem_singleton.mp hb]; exact Nat.le_refl _
  · rw [Heap.size_push]; exact Nat.le_succ _
/-- sum(elt for x in a list of ints) -/
def tSumG (X : Cx) (P : Addr) (scope : Scope) (x : Str) (elt : Expr) (te : TE) : TE := fun σ H Q => te σ H fun u H2 => ∃ (yl : Addr) (ws : List Int) (f : Int → Int), u = .ref yl ∧ SqL X.K H2 yl (ws.map V.int) ∧ GxR.TabG H2 P ∧
  ElV X P scope x elt σ (fun v => ∃ i, i ∈ ws ∧ v = .int i) (fun v => match v with | .int i => .int (f i) | _ => .non) ∧ ∀ H3, GxR.Tabbed P H2 H3 → Q (.int (ws.map f).sum) H3
theorem pe_sumG {c P : Addr} {elt iter : Expr} {x : Str} {px gpos p pos : Pos} {scope : Scope} {k : Nat} {te : TE} (hr : Room k X.A) (TB : GxR.TabB X.base X.mg c P) (hcode : X.env.code = .ref c) (S : GxR.GenS X.env scope x) (hi : PE X iter te)
    (hs : ∀ v, genFold iter X.env v = pure v) (hc : X.calm = true) (hg : Gl X "sum") (hm : X.mg "sum" = none) (hb : bootBuiltins "sum" = some (.builtin "sum") := by decide +kernel)
    (he : starEach [.GeneratorExp elt [⟨.Name x px, iter, [], 0⟩] scope gpos] X.env = (false, eval (.GeneratorExp elt [⟨.Name x px, iter, [], 0⟩] scope gpos) X.env) :: starEach [] X.env := by rfl) :
    PE X (.Call (.Name "sum" p) [.GeneratorExp elt [⟨.Name x px, iter, [], 0⟩] scope gpos] [] pos) (tSumG X P scope x elt te) := by
  refine ⟨fun pins s σ H Q I h => ?_⟩
  refine wpAny_Call_Name_kw (ld_blt I hg hm hb ?_)
  refine PyProof.Rows.callWith_builtin1 ?_ he rfl
  rw [he]
  show wpAny _ _ (spliced ((false, eval (.GeneratorExp elt [⟨.Name x px, iter, [], 0⟩] scope gpos) X.env) :: backTo pos (starEach [] X.env))) _ _ s
  refine Calls.spliced_cons (gen_mk (σ := σ) (pins := pins) hr TB hcode S hs hc I.ok (thn (hi.run pins s σ H _ I h) fun xv s1 ⟨v, H1, I1, r1, q1⟩ => ?_))
  obtain ⟨yl, ws, f, rfl, hyl, hT, hel, hq⟩ := q1
  obtain rfl : xv = Value.ref yl := r1
  obtain ⟨its, rv, hl, hz⟩ := I1.list hyl
  obtain ⟨ps, hP, ht⟩ := id hT
  have hlen : its.length = ws.length := by rw [← rv.length, List.length_map]
  refine wpAny_pyIter_list hl.isList ⟨s1, H1, its.length, _, fun i y => ∃ t, y = .int ((ws.map f).getD i 0) t, I1, hT, src_lst I1 (by rw [hP]; exact fun z => nomatch z) ⟨ps, hP⟩ hl.isList, fun cenv A' E' i v s3 m ea hv hn hm => ?_, fun g s5 hG => ?_⟩
  · have hi2 : i < ws.length := by rw [← hlen]; exact (List.getElem?_eq_some_iff.mp hv).1
    have hb2 : (ws.map V.int)[i]? = some (V.int ws[i]) := by rw [List.getElem?_map, List.getElem?_eq_getElem hi2] <;> rfl
    obtain ⟨u, hu, ru⟩ := rv.get hb2
    rw [hv] at hu
    cases hu
    refine wpAny_mono (hel pins s1 H1 I1 (by rw [hP]; exact fun z => nomatch z) cenv A' E' (.int ws[i]) v s3 m ea ⟨_, List.getElem_mem hi2, rfl⟩ ru hn hm) (fun y s4 r => ⟨?_, r.2⟩) fun _ _ e => e
    obtain ⟨t, e⟩ := (show ∃ t, y = Value.int (f ws[i]) t from r.1)
    refine ⟨t, ?_⟩
    have e2 : (ws.map f).getD i 0 = f ws[i] := by simp [List.getD_eq_getElem?_getD, hi2]
    rw [e2]; exact e
  · refine Calls.spliced_nil ?_
    obtain ⟨fp, wr, G, St, W, hst, hfp, hgf, hTy, hinv⟩ := hG
    refine call_sum_walkAnyS (W.in4_1.self 0 s5 _ _ hst ⟨g, fp, wr, G, its.length, _, St, fun i => (ws.map f).getD i 0, rfl, W.in4_1, hst, hfp, fun i v hv => hv, fun s' t' hm => ?_⟩)
    obtain ⟨H2, hTb, I2⟩ := hinv s' hm
    have e : preSum (fun i => (ws.map f).getD i 0) its.length = (ws.map f).sum := by
      rw [preSum_take _ _ (by rw [hlen, List.length_map]; exact Nat.le_refl _), List.take_of_length_le (by rw [hlen, List.length_map]; exact Nat.le_refl _)]
    exact ⟨.int (ws.map f).sum, H2, I2, ⟨t', by rw [e]⟩, hq H2 hTb⟩
end
end AK
set_option Elab.async false
set_option linter.all false
set_option maxRecDepth 100000
set_option maxHeartbeats 2000000
/-! expressions that leave every object as it stands -/
namespace AK
open PySem PySem.Spec PyProof.Rows L2
theorem kp_trans {a b c : Shared} (h : Keeps a b) (k : Keeps b c) : Keeps a c := by
  obtain ⟨h1, t1, rfl, q1⟩ := h
  obtain ⟨h2, t2, rfl, q2⟩ := k
  exact ⟨h2, t2, rfl, fun b o e => q2 b o (q1 b o e)⟩
theorem kp_tok (s : Shared) (k : Nat) : Keeps s { s with toks := k } := ⟨s.heap, k, rfl, fun _ _ e => e⟩
/-- where Pre holds, e gives v and every object stays -/
structure Pk (prog : Program) (w : World) (A : Around) (env : Env) (Pre : Shared → Prop) (e : Expr) (v : V) : Prop where
  run : ∀ (E : Value → Shared → Prop) (s : Shared), Pre s → wpAny (model prog w) A (eval e env) (fun u s' => RelV v u ∧ Keeps s s') E s
def Stays (Pre : Shared → Prop) : Prop := ∀ s s', Pre s → Keeps s s' → Pre s'
section
variable {prog : Program} {w : World} {A : Around} {env : Env} {Pre : Shared → Prop} {a b : Expr} {pos p2 : Pos} {i j : Int}
theorem pk_int {k : Nat} : Pk prog w A env Pre (.Constant (.int i) k pos) (.int i) := ⟨fun _ s _ => wpAny_Constant_int ⟨⟨_, rfl⟩, kp_tok s _⟩⟩
/-- a name: the frame's own, captured, or the module's -/
def Nm (env : Env) (s : Shared) (x : Str) (u : Value) : Prop :=
  (env.kindOf x = some .local ∧ ∃ m, s.heap.Ns env.locals m ∧ m x = some u) ∨ (env.kindOf x = some .free ∧ ∃ c, env.cells.lookup x = some c ∧ s.heap.IsCell c (some u)) ∨
  (env.kindOf x = some .globalImplicit ∧ ∃ m, s.heap.Ns env.globals m ∧ m x = some u)
theorem pk_nm {x : Str} {v : V} (hk : env.scope.kind = .function) (h : ∀ s, Pre s → ∃ u, RelV v u ∧ Nm env s x u) (hd : (x == ("__debug__" : Str)) = false := by decide) (hcd : (x == ("__classdict__" : Str)) = false := by decide) : Pk prog w A env Pre (.Name x pos) v := ⟨fun E s hp => by
  obtain ⟨u, r, hn⟩ := h s hp
  rcases hn with ⟨k, m, n, e⟩ | ⟨k, c, n, e⟩ | ⟨k, m, n, e⟩
  · exact wpAny_Name (wpAny_loadName_local hk k n e ⟨r, kp_tok s s.toks⟩) hd
  · exact wpAny_Name (wpAny_loadName_free hk k n e ⟨r, kp_tok s s.toks⟩ hcd) hd
  · exact Calls.Name_function_global hk k (Calls.loadGlobal_global n e ⟨r, kp_tok s s.toks⟩) hd⟩
/-- two operands in a row -/
theorem pk_two {x y : V} (hst : Stays Pre) (ha : Pk prog w A env Pre a x) (hb : Pk prog w A env Pre b y) {E : Value → Shared → Prop} {s : Shared} (hp : Pre s) {Q : Value → Value → Shared → Prop} (h : ∀ u v s', RelV x u → RelV y v → Keeps s s' → Q u v s') :
    wpAny (model prog w) A (eval a env) (fun u s1 => wpAny (model prog w) A (eval b env) (fun v s2 => Q u v s2) E s1) E s := by
  refine thn (ha.run E s hp) fun u s1 ⟨r1, k1⟩ => ?_
  exact thn (hb.run E s1 (hst s s1 hp k1)) fun v s2 ⟨r2, k2⟩ => h u v s2 r1 r2 (kp_trans k1 k2)
theorem pk_sub (hst : Stays Pre) (ha : Pk prog w A env Pre a (.int i)) (hb : Pk prog w A env Pre b (.int j)) : Pk prog w A env Pre (.BinOp a .Sub b pos) (.int (i - j)) := ⟨fun E s hp => by
  refine wpAny_BinOp (pk_two hst ha hb hp fun u v s' ⟨t, e1⟩ ⟨t', e2⟩ k => ?_)
  subst e1 e2
  exact sub_int ⟨⟨_, rfl⟩, kp_trans k (kp_tok _ _)⟩⟩
theorem pk_mul (hst : Stays Pre) (ha : Pk prog w A env Pre a (.int i)) (hb : Pk prog w A env Pre b (.int j)) (hi : -(2 ^ 64) < i ∧ i < 2 ^ 64) : Pk prog w A env Pre (.BinOp a .Mult b pos) (.int (i * j)) := ⟨fun E s hp => by
  refine wpAny_BinOp (pk_two hst ha hb hp fun u v s' ⟨t, e1⟩ ⟨t', e2⟩ k => ?_)
  subst e1 e2
  exact mul_int ⟨⟨_, rfl⟩, kp_trans k (kp_tok _ _)⟩ (.of_left (intBits_le_64 hi.1 hi.2))⟩
end
/-- a captured name's value, in the generator's frame -/
theorem cap_at {X : Cx} {pins : List (Addr × Obj)} {σ : L2.St} {H : Hp} {s0 s3 : Shared} {P : Addr} {scope : Scope} {cenv : Env} {A' : Around} {y : Str} {j : Nat} {v : V} (I : Inv X pins σ H s0) (hP : H P ≠ none) (ea : EltAt X P s0 scope cenv A' s3) (hN : X.N[j]? = some y) (hσ : σ[j]? = some (some v))
    (hk : X.env.scope.names.lookup y = some .cell) (hclo : ∀ (cells : List (Str × Addr)) (c : Addr), cells.lookup y = some c → (cloFrom cells scope.names []).lookup y = some c) : ∃ u c, RelV v u ∧ cenv.cells.lookup y = some c ∧ c ≠ P ∧ s0.heap.IsCell c (some u) ∧ s3.heap.IsCell c (some u) := by
  obtain ⟨m, hn, hl⟩ := I.loc
  obtain ⟨u, r, l⟩ := hl j y v hN hσ (.inr (.inl hk))
  have hkk : X.env.kindOf y = some .cell := hk
  rcases l with ⟨q, _⟩ | ⟨_, c, hc, hcell⟩
  · rw [hkk] at q; cases q
  · have ncP : c ≠ P := fun z => hP (by rw [← z]; exact I.freeC y c hc)
    refine ⟨u, c, r, by rw [ea.cells]; exact hclo _ c hc, ncP, hcell, ?_⟩
    obtain ⟨o, ho, hd⟩ := hcell
    exact ⟨o, ea.old c o ncP ho, hd⟩
end AK
set_option Elab.async false
set_option linter.all false
set_option maxRecDepth 100000
set_option maxHeartbeats 4000000
namespace AK
open PySem PySem.Spec PyProof.Rows L2
theorem same_upd {H : Hp} {p : Addr} {o : HO} (h : H p = none) : Same H (upd H p o) := fun b x e => by
  rw [upd_ne (ne_of_none e h)]
  exact e
/-- for i, x in enumerate(a list that the body leaves) -/
theorem for_en {K : PySem.W.Frag} {a : Addr} {xs : List V} {g : TG} {tb : TS} {D : Ends} {σ : L2.St} {H : Hp} (Pv : Nat → L2.St → Hp → Prop) (h0 : Pv 0 σ H) (hl : ∀ i σ H, i ≤ xs.length → Pv i σ H → SqL K H a xs)
    (hs : ∀ i x σ H T, xs[i]? = some x → Pv i σ H → H T = none → g (.ref T) σ (upd H T (.tup [.int (i : Nat), x])) fun σ2 H2 => tb { D with nx := Pv (i + 1), ct := Pv (i + 1), bk := D.nx } σ2 H2) (hd : ∀ σ H, Pv xs.length σ H → D.nx σ H) :
    ∃ W : Nat → Nat → L2.St → Hp → Prop, (∃ m, W 0 m σ H) ∧ ∀ i m σ H, W i m σ H →
      ((Ite K a).stop i H ∧ D.nx σ H) ∨ ((Ite K a).go i H ∧ ∃ N : L2.St → Hp → Prop, (∀ σ' H', N σ' H' → ∃ m', m' < m ∧ W (i + 1) m' σ' H') ∧ ∀ x H', (Ite K a).yld i H x H' → g x σ H' fun σ2 H2 => tb { D with nx := N, ct := N, bk := D.nx } σ2 H2) := by
  refine ⟨fun i m σ H => m = xs.length - i ∧ i ≤ xs.length ∧ Pv i σ H, ⟨xs.length, by simp, Nat.zero_le _, h0⟩, ?_⟩
  rintro i m σ H ⟨rfl, hi, p⟩
  have q := hl i σ H hi p
  rcases Nat.lt_or_ge i xs.length with hlt | hge
  · refine .inr ⟨⟨xs, xs[i], q, List.getElem?_eq_getElem hlt⟩, Pv (i + 1), fun σ' H' p' => ⟨xs.length - (i + 1), by omega, rfl, hlt, p'⟩, fun v H' y => ?_⟩
    obtain ⟨T, x, rfl, nT, rfl, y⟩ := y
    exact hs i x σ H T (y xs q) p nT
  · have e : i = xs.length := by omega
    subst e
    exact .inl ⟨⟨xs, q, Nat.le_refl _⟩, hd σ H p⟩
/-- [.. for column in zip(*rows)], rows as long as n -/
theorem lc_zipN {ws : List Str} {n : Nat} {g : TG} {tt : TT} {te : TE} {vs : List Nat} {σ : L2.St} {H1 : Hp} {D : Addr} {Qd : Hp → Prop} (hn : ws = [] → n = 0) (hw : ∀ a ∈ ws, a.cps.size = n) (Pv : Nat → Hp → Prop) (h0 : Pv 0 (upd H1 D (.lst [])))
    (hs : ∀ i H T, i < n → Pv i H → H T = none → g (.ref T) (wipe σ vs) (upd H T (.tup ((colAt ws i).map V.str))) fun σ2 H2 => wipe σ2 vs = wipe σ vs ∧ tt σ2 H2 fun b H3 =>
      if b = true then te σ2 H3 fun y H4 => ∃ acc, H4 D = some (.lst acc) ∧ acc.length < sizeLine ∧ Pv (i + 1) (upd H4 D (.lst (acc ++ [y]))) else Pv (i + 1) H3) (hd : ∀ H, Pv n H → Qd H) :
    ∃ W : Nat → Nat → Hp → Prop, (∃ m, W 0 m (upd H1 D (.lst []))) ∧ ∀ i m H, W i m H →
      ((ItzN ws).stop i H ∧ Qd H) ∨ ((ItzN ws).go i H ∧ ∃ Nx : Hp → Prop, (∀ H', Nx H' → ∃ m', m' < m ∧ W (i + 1) m' H') ∧ ∀ x H', (ItzN ws).yld i H x H' → g x (wipe σ vs) H' fun σ2 H2 => wipe σ2 vs = wipe σ vs ∧ tt σ2 H2 fun b H3 =>
        if b = true then te σ2 H3 fun y H4 => ∃ acc, H4 D = some (.lst acc) ∧ acc.length < sizeLine ∧ Nx (upd H4 D (.lst (acc ++ [y]))) else Nx H3) := by
  refine ⟨fun i m H => m = n - i ∧ i ≤ n ∧ Pv i H, ⟨n, by simp, Nat.zero_le _, h0⟩, ?_⟩
  rintro i m H ⟨rfl, hi, p⟩
  rcases Nat.lt_or_ge i n with hlt | hge
  · refine .inr ⟨⟨fun z => by have := hn z; omega, fun a ha => by rw [hw a ha]; exact hlt⟩, Pv (i + 1), fun H' p' => ⟨n - (i + 1), by omega, rfl, hlt, p'⟩, fun x H' y => ?_⟩
    obtain ⟨T, rfl, nT, rfl⟩ := y
    exact hs i H T hlt p nT
  · have e : i = n := by omega
    subst e
    exact .inl ⟨fun a ha => by rw [hw a (List.mem_of_getElem? ha)]; exact Nat.le_refl _, hd H p⟩
theorem row_ok (n : Nat) (e : Nat → Bool) : PyData.strOk (row n e) = true := by
  unfold PyData.strOk
  rw [Array.all_eq_true']
  intro c hc
  simp only [row, List.mem_toArray, List.mem_map] at hc
  obtain ⟨j, _, rfl⟩ := hc
  exact decide_eq_true (Nat.lt_trans (sg_lt _) (by decide))
theorem web_mem {n : Nat} {e : Nat → Nat → Bool} {a : Str} (h : a ∈ web n e) : ∃ i, i < n ∧ a = row n (e i) := by
  unfold web at h
  obtain ⟨i, hi, rfl⟩ := List.mem_map.mp h
  exact ⟨i, List.mem_range.mp hi, rfl⟩
theorem webV_at {n i : Nat} {e : Nat → Nat → Bool} {x : V} (h : ((web n e).map V.str)[i]? = some x) : i < n ∧ x = .str (row n (e i)) := by
  have hi : i < n := by
    have := (List.getElem?_eq_some_iff.mp h).1
    rw [List.length_map, web_len] at this
    exact this
  rw [List.getElem?_map, web_at hi] at h
  exact ⟨hi, (Option.some.inj h).symm⟩
/-- sep.join(a list or a tuple of texts), the written part by name -/
def rJoin (K : PySem.W.Frag) : V → List V → Hp → VK → Prop := fun x xs H Q => ∃ a p, ∃ ys : List Str, x = .str a ∧ xs = [.ref p] ∧ (SqL K H p (ys.map V.str) ∨ SqT K H p (ys.map V.str)) ∧ (ys.map (·.length)).sum + ys.length * a.length ≤ 16777216 ∧ Q (.str (Txt.join a ys)) H
theorem pe_joinK {X : Cx} {o e : Expr} {to te : TE} {apos pos : Pos} (K : PySem.W.Frag) (hK : X.K = K) (ho : PE X o to) (he : PE X e te) (hs : starEach [e] X.env = [(false, eval e X.env)] := by rfl)
    (hbase : attributeBase o "join" X.env (eval o X.env) = eval o X.env := by rfl) (hline : (apos.endLine == pos.line) = true := by rfl) : PE X (.Call (.Attribute o "join" apos) [e] [] pos) (tM1 (rJoin K) to te) := by
  subst hK
  exact pe_join ho he hs hbase hline
end AK
set_option Elab.async false
set_option linter.all false
set_option maxRecDepth 100000
set_option maxHeartbeats 2000000
namespace AK
open PySem PySem.Spec PyProof.Rows L2
/-! ### defs whose code object bears a table -/
structure FunR (K : PySem.W.Frag) (x qual : Str) (st : Stmt) (c : Addr) (f : Addr) (fd : FuncData) : Prop where
  ex : ∃ (oc : Value) (od : Option Addr) (kV doc pm : Value) (an : Option Addr) (ct : Value) (osl : Array (Option Value)),
    fd = PySem.W.fnOf x qual (defArgs st) (defBody st) (defScope st) .none kV doc pm an (.ref c) ct ∧ K.lookup f = some ⟨oc, od, .func fd, osl⟩ ∧ PySem.W.codeIn K (.ref c) qual = true
  kp : PySem.W.keepIn K (.ref f) = true
section
variable {P : Program} {w : World} {K : PySem.W.Frag} {mg : Str → Option Value} {base : Heap}
theorem FunR.ok {x qual : Str} {st : Stmt} {c f : Addr} {fd : FuncData} {N ps : List Str} {k : Nat} {sp : Sp} (F : FunR K x qual st c f fd) (S : FnScope N ps (defScope st)) (len : ∀ vs H Q E, sp vs H Q E → vs.length = ps.length)
    (hbody : ∀ (A : Around) (outer : List Env) (s : Shared) (H : Hp) (vs : List V) (Q : VK) (E : XK), Room k (A.deeper (envOfC qual (defScope st) s.heap.objs.size f (.ref c))) → sp vs H Q E →
      ∃ t, PSs (cxOf CX0 P w K mg base N qual (defScope st) f (.ref c) A outer s H E).nox (defBody st) t ∧ t { nx := fun _ H' => Q .non H', rt := Q } (start N vs) H) : FnOk P w K mg base CX0 (k + 1) f fd ps sp := by
  obtain ⟨oc, od, kV, doc, pm, an, ct, osl, rfl, lk, hcd⟩ := F.ex
  refine fn_of lk hcd S len fun A outer s H vs Q E hr hsp => ?_
  obtain ⟨t, h, q⟩ := hbody A outer s H vs Q E hr hsp
  exact ⟨t, h.nox, q⟩
theorem FunR.binds {x qual : Str} {st : Stmt} {c f : Addr} {fd : FuncData} {ps : List Str} (F : FunR K x qual st c f fd)
    (h : ∀ (kV doc pm : Value) (an : Option Addr) (cdv ct : Value) (us : List Value), us.length = ps.length → bindArgs (PySem.W.fnOf x qual (defArgs st) (defBody st) (defScope st) .none kV doc pm an cdv ct) ⟨us, []⟩ = pure (ps.zip us)) : Binds K fd ps [] := by
  obtain ⟨oc, od, kV, doc, pm, an, ct, osl, rfl, lk, hcd⟩ := F.ex
  exact .all (h kV doc pm an _ ct)
theorem funR_mk {x qual : Str} {st : Stmt} {c f : Addr} {oc : Value} {od an : Option Addr} {osl : Array (Option Value)} {kV doc pm cdv ct : Value} (hc : cdv = .ref c) (l : K.lookup f = some ⟨oc, od, .func (PySem.W.fnOf x qual (defArgs st) (defBody st) (defScope st) .none kV doc pm an cdv ct), osl⟩)
    (hcd : PySem.W.codeIn K cdv qual = true) (k : PySem.W.keepIn K (.ref f) = true) : FunR K x qual st c f (PySem.W.fnOf x qual (defArgs st) (defBody st) (defScope st) .none kV doc pm an cdv ct) := by
  subst hc
  exact ⟨⟨oc, od, kV, doc, pm, an, ct, osl, rfl, l, hcd⟩, k⟩
end
/-- a generator expression's scope in a def's frame -/
theorem genS_of {qual : Str} {dsc scope : Scope} {n f : Nat} {cd : Value} {x : Str} (hk : scope.kind = .function) (hco : scope.isCoroutine = false) (hcell : (scope.names.all fun y => decide (y.2 ≠ .cell)) = true) (hdot : scope.names.lookup (".0" : Str) = some NameKind.local)
    (hloc : scope.names.lookup x = some .local) (hfree : (scope.names.all fun y => decide (y.2 ≠ .free) || decide (dsc.names.lookup y.1 = some .cell)) = true) : GxR.GenS (envOfC qual dsc n f cd) scope x where
  kind := hk
  co := hco
  cell := fun y hy => of_decide_eq_true (List.all_eq_true.mp hcell y hy)
  dot := hdot
  loc := hloc
  free := fun y hy e => by
    have q := List.all_eq_true.mp hfree y hy
    rw [e] at q
    simp only [ne_eq, not_true_eq_false, decide_false, Bool.false_or, decide_eq_true_eq] at q
    exact cell_has q
/-! ### the tables grow, all else stands -/
def Tb (Ts : List Addr) (H : Hp) : Prop := ∀ p ∈ Ts, GxR.TabG H p
def SmT (Ts : List Addr) (H H' : Hp) : Prop := (∀ b o, b ∉ Ts → H b = some o → H' b = some o) ∧ (Tb Ts H → Tb Ts H')
section
variable {Ts : List Addr} {H H1 H2 : Hp} {K : PySem.W.Frag} {a p : Addr} {xs : List V} {o : HO}
theorem SmT.refl : SmT Ts H H := ⟨fun _ _ _ e => e, fun h => h⟩
theorem SmT.trans (x : SmT Ts H H1) (y : SmT Ts H1 H2) : SmT Ts H H2 := ⟨fun b o hb e => y.1 b o hb (x.1 b o hb e), fun h => y.2 (x.2 h)⟩
theorem SmT.of (s : Same H H1) : SmT Ts H H1 := ⟨fun b o _ e => s b o e, fun h p hp => let ⟨ps, e, t⟩ := h p hp; ⟨ps, s _ _ e, t⟩⟩
theorem SmT.tab (hp : p ∈ Ts) (t : GxR.Tabbed p H H1) : SmT Ts H H1 := ⟨fun b o hb e => by rw [t.2 b (fun z => hb (by rw [z]; exact hp))]; exact e, fun h q hq => by
  by_cases e : q = p
  · rw [e]; exact t.1
  · obtain ⟨ps, e1, e2⟩ := h q hq
    exact ⟨ps, by rw [t.2 q e]; exact e1, e2⟩⟩
theorem Tb.no (h : Tb Ts H) (e : H a = some o) (ho : ∀ ps, o ≠ .tbl ps) : a ∉ Ts := fun z => by
  obtain ⟨ps, e1, _⟩ := h a z
  rw [e] at e1
  exact ho ps (Option.some.inj e1)
theorem SmT.at (s : SmT Ts H H1) (h : Tb Ts H) (e : H a = some o) (ho : ∀ ps, o ≠ .tbl ps) : H1 a = some o := s.1 a o (h.no e ho) e
theorem SmT.lst (s : SmT Ts H H1) (h : Tb Ts H) (e : H a = some (.lst xs)) : H1 a = some (.lst xs) := s.at h e fun _ z => nomatch z
theorem SmT.seq (s : SmT Ts H H1) (h : Tb Ts H) (e : SqL K H a xs) : SqL K H1 a xs := by
  rcases e with (e | ⟨o, e⟩) | e
  · exact .inl (.inl (s.lst h e))
  · exact .inl (.inr ⟨o, s.at h e fun _ z => nomatch z⟩)
  · exact .inr e
theorem SmT.sqt (s : SmT Ts H H1) (h : Tb Ts H) (e : SqT K H a xs) : SqT K H1 a xs := by
  rcases e with (e | ⟨o, e⟩) | e
  · exact .inl (.inl (s.at h e fun _ z => nomatch z))
  · exact .inl (.inr ⟨o, s.at h e fun _ z => nomatch z⟩)
  · exact .inr e
theorem SmT.free (s : SmT Ts H H1) (h : Tb Ts H) {l : Addr} (e : H1 l = none) : H l = none := by
  cases q : H l with
  | none => rfl
  | some o =>
    by_cases hl : l ∈ Ts
    · obtain ⟨ps, e1, _⟩ := s.2 h l hl
      rw [e] at e1; cases e1
    · rw [s.1 l o hl q] at e; cases e
theorem Tb.upd (h : Tb Ts H) {d : Addr} (hd : H d = none) : Tb Ts (upd H d o) := fun p hp => by
  obtain ⟨ps, e, t⟩ := h p hp
  exact ⟨ps, by rw [upd_ne (ne_of_none e hd)]; exact e, t⟩
theorem Tb.put (h : Tb Ts H) {d : Addr} {u : HO} (hd : H d = some u) (hu : ∀ ps, u ≠ .tbl ps) : Tb Ts (L2.upd H d o) := fun p hp => by
  obtain ⟨ps, e, t⟩ := h p hp
  have n : p ≠ d := fun z => by rw [z, hd] at e; exact hu ps (Option.some.inj e)
  exact ⟨ps, by rw [upd_ne n]; exact e, t⟩
end
end AK
set_option Elab.async false
set_option linter.all false
set_option maxRecDepth 100000
set_option maxHeartbeats 4000000
/-! enumerate(a text): walked by for, in a list comprehension, in a generator expression -/
namespace AK
open PySem PySem.Spec PyProof.Rows L2
def ItEs (x : Str) : It :=
  ⟨fun i _ => i < x.cps.size, fun i H v H' => ∃ T c, v = .ref T ∧ H T = none ∧ H' = upd H T (.tup [.int (i : Nat), .str ⟨#[c]⟩]) ∧ x.cps[i]? = some c, fun i _ => x.cps.size ≤ i⟩
abbrev EsAt (x : Str) (t : Tok) (e it : Addr) (i : Nat) (h : Heap) : Prop := ((∃ old, IsEnum h e it (0 + (i : Int)) old) ∧ h.IsStrIter it (strIterType x) x t i) ∧ i ≤ x.cps.size
theorem two_of {b e it : Addr} (h : b ∈ [e, it]) : b = e ∨ b = it := by simpa using h
theorem turn_es {P : Program} {w : World} {K : PySem.W.Frag} {elts : List Expr} {kk : Nat} {tpos : Pos} (x : Str) (t : Tok) (e it : Addr) (hne : e ≠ it) : Turn P w K (.Tuple elts kk tpos) (ItEs x) [e, it] e (EsAt x t e it) where
  mem := List.mem_cons_self ..
  obj := fun i h st b hb => by
    obtain ⟨⟨⟨old, q1⟩, o, q2, _, q4⟩, _⟩ := st
    rcases two_of hb with z | z <;> rw [z]
    · exact ⟨_, q1, fun v q => nomatch q⟩
    · exact ⟨o, q2, fun v q => by rw [q4] at q; cases q⟩
  keep := fun i h h' st k => by
    obtain ⟨⟨⟨old, q1⟩, o, q2, q3⟩, q4⟩ := st
    exact ⟨⟨⟨old, k e (by simp) _ q1⟩, o, k it (by simp) _ q2, q3⟩, q4⟩
  item := by
    intro X hP hw hK hc i pins s σ H E I hf st hg
    subst hP hw hK
    have W := WalksT.enumFrom (A := X.A) 0 (Draws.text (prog := X.prog) (w := X.w) (A := X.A.in1) (I.ok.hd hc) it x t) e hne (by simpa using hne) (by simp)
    have lts : ∀ b ∈ [e, it], b < s.heap.objs.size := fun b hb => by
      obtain ⟨⟨⟨old, q1⟩, o, q2, _⟩, _⟩ := id st
      rcases two_of hb with z | z <;> rw [z]
      · exact Heap.lt_size q1
      · exact Heap.lt_size q2
    refine W.item i s _ _ hg st.1 fun T vals h1 tk hv hTn hT hm kp1 => ?_
    obtain ⟨tt, y, ⟨c, u, hcx, rfl⟩, rfl⟩ := hv
    refine ⟨_, rfl, W.go _ _ _ i T _ _ _ hm fun h2 st2 kp2 => ?_⟩
    have hT2 : h2.IsTuple T #[.int (0 + (i : Int)) tt, .str ⟨#[c]⟩ u] := by
      obtain ⟨o, q1, q2⟩ := hT
      exact ⟨o, kp2 T o (W.apart i T _ hm) q1, q2⟩
    have new : ObjOk X.prog X.w (upd H T (.tup [.int (i : Nat), .str ⟨#[c]⟩])) h2 T (.tup [.int (i : Nat), .str ⟨#[c]⟩]) :=
      ⟨(by decide : (2 : Nat) ≤ sizeLine), [.int (0 + (i : Int)) tt, .str ⟨#[c]⟩ u], .cons ⟨tt, by rw [Int.zero_add]⟩ (.cons ⟨u, rfl⟩ .nil), hT2⟩
    refine ⟨.ref T, _, I.turnedNew (t' := tk) (ch := [e, it]) (fun b o hb q => kp2 b o hb (kp1 b o hb q)) hf hTn new, rfl, ⟨T, c, rfl, I.hok.fresh hTn, rfl, hcx⟩, ⟨st2, hg⟩, fun b hb => ?_⟩
    rw [upd_ne (Nat.ne_of_lt (Nat.lt_of_lt_of_le (lts b hb) hTn))]
    exact (hf b hb).1
  done := by
    intro X hP hw hK hc i pins s σ H E I hf st hg
    subst hP hw hK
    have D := Draws.text (prog := X.prog) (w := X.w) (A := X.A.in1) (I.ok.hd hc) it x t
    obtain ⟨⟨⟨old, q1⟩, q2⟩, q3⟩ := st
    have ei : i = x.cps.size := Nat.le_antisymm q3 hg
    subst ei
    obtain ⟨g0, g1, g2, g3, g4, g5⟩ := hf it (by simp)
    exact wpAny_pyNext_enum_endD D q1 q2 fun h1 kp => ⟨rfl, I.turned (t' := s.toks) (fun b o hb q => kp b o hb q) g0 g1 g3 g4 g5⟩
  self := fun A i s Q E st h => let ⟨⟨⟨_, q⟩, _⟩, _⟩ := st; wpAny_pyIter_enum q h
def iEnS (ta : TA) : TI := fun σ H R => ta σ H fun vs H1 => ∃ x, vs = [.str x] ∧ R (ItEs x) H1
theorem pi_enS {X : Cx} {e : Expr} {ta : TA} {p pos tpos : Pos} {elts : List Expr} {kk : Nat} (hg : Gl X "enumerate") (hm : X.mg "enumerate" = none) (ha : PA X [e] ta) (hs : starEach [e] X.env = [(false, eval e X.env)] := by rfl) :
    PI X (.Tuple elts kk tpos) (.Call (.Name "enumerate" p) [e] [] pos) (iEnS ta) := ⟨fun pins s σ H R I h => by
  refine Call_ (ld_blt I hg hm boot_enumerate (PyProof.Rows.callWith_type1 (thn (ha.run pos pins s σ H _ I h) fun us s1 ⟨vs, H1, I1, r1, x, ex, q⟩ => ?_) hs rfl))
  subst ex
  obtain ⟨u, rfl, t, rfl⟩ := r1.one
  refine call_enumerate_str fun h1 q1 q2 sz kp => wpAny_pyIter_enum q1 ?_
  have I2 : Inv X pins σ H1 { s1 with heap := h1 } := I1.kept (t' := s1.toks) kp
  refine ⟨s1.heap.objs.size + 1, [s1.heap.objs.size + 1, s1.heap.objs.size], _, _, H1, rfl, I2, turn_es x t (s1.heap.objs.size + 1) s1.heap.objs.size (Nat.succ_ne_self _), ⟨⟨⟨.none, q1⟩, q2⟩, Nat.zero_le _⟩, fun b hb => ?_, q⟩
  have old : s1.heap.objs.size ≤ b := by rcases two_of hb with z | z <;> rw [z] <;> omega
  exact I1.fpOk old (I1.hok.fresh old)⟩
/-- [.. for i, c in enumerate(text)] -/
theorem lc_enS {x : Str} {g : TG} {tt : TT} {te : TE} {vs : List Nat} {σ : L2.St} {H1 : Hp} {D : Addr} {Qd : Hp → Prop} (Pv : Nat → Hp → Prop) (h0 : Pv 0 (upd H1 D (.lst [])))
    (hs : ∀ i c H T, x.cps[i]? = some c → Pv i H → H T = none → g (.ref T) (wipe σ vs) (upd H T (.tup [.int (i : Nat), .str ⟨#[c]⟩])) fun σ2 H2 => wipe σ2 vs = wipe σ vs ∧ tt σ2 H2 fun b H3 =>
      if b = true then te σ2 H3 fun y H4 => ∃ acc, H4 D = some (.lst acc) ∧ acc.length < sizeLine ∧ Pv (i + 1) (upd H4 D (.lst (acc ++ [y]))) else Pv (i + 1) H3) (hd : ∀ H, Pv x.cps.size H → Qd H) :
    ∃ W : Nat → Nat → Hp → Prop, (∃ m, W 0 m (upd H1 D (.lst []))) ∧ ∀ i m H, W i m H →
      ((ItEs x).stop i H ∧ Qd H) ∨ ((ItEs x).go i H ∧ ∃ Nx : Hp → Prop, (∀ H', Nx H' → ∃ m', m' < m ∧ W (i + 1) m' H') ∧ ∀ v H', (ItEs x).yld i H v H' → g v (wipe σ vs) H' fun σ2 H2 => wipe σ2 vs = wipe σ vs ∧ tt σ2 H2 fun b H3 =>
        if b = true then te σ2 H3 fun y H4 => ∃ acc, H4 D = some (.lst acc) ∧ acc.length < sizeLine ∧ Nx (upd H4 D (.lst (acc ++ [y]))) else Nx H3) := by
  refine ⟨fun i m H => m = x.cps.size - i ∧ i ≤ x.cps.size ∧ Pv i H, ⟨x.cps.size, by simp, Nat.zero_le _, h0⟩, ?_⟩
  rintro i m H ⟨rfl, hi, p⟩
  rcases Nat.lt_or_ge i x.cps.size with hlt | hge
  · refine .inr ⟨hlt, Pv (i + 1), fun H' p' => ⟨x.cps.size - (i + 1), by omega, rfl, hlt, p'⟩, fun v H' y => ?_⟩
    obtain ⟨T, c, rfl, nT, rfl, hc⟩ := y
    exact hs i c H T hc p nT
  · have e : i = x.cps.size := by omega
    subst e
    exact .inl ⟨Nat.le_refl _, hd H p⟩
/-- [.. for i, x in enumerate(a list that stays)] -/
theorem lc_en {K : PySem.W.Frag} {a : Addr} {xs : List V} {g : TG} {tt : TT} {te : TE} {vs : List Nat} {σ : L2.St} {H1 : Hp} {D : Addr} {Qd : Hp → Prop} (Pv : Nat → Hp → Prop) (h0 : Pv 0 (upd H1 D (.lst []))) (hl : ∀ i H, i ≤ xs.length → Pv i H → SqL K H a xs)
    (hs : ∀ i x H T, xs[i]? = some x → Pv i H → H T = none → g (.ref T) (wipe σ vs) (upd H T (.tup [.int (i : Nat), x])) fun σ2 H2 => wipe σ2 vs = wipe σ vs ∧ tt σ2 H2 fun b H3 =>
      if b = true then te σ2 H3 fun y H4 => ∃ acc, H4 D = some (.lst acc) ∧ acc.length < sizeLine ∧ Pv (i + 1) (upd H4 D (.lst (acc ++ [y]))) else Pv (i + 1) H3) (hd : ∀ H, Pv xs.length H → Qd H) :
    ∃ W : Nat → Nat → Hp → Prop, (∃ m, W 0 m (upd H1 D (.lst []))) ∧ ∀ i m H, W i m H →
      ((Ite K a).stop i H ∧ Qd H) ∨ ((Ite K a).go i H ∧ ∃ Nx : Hp → Prop, (∀ H', Nx H' → ∃ m', m' < m ∧ W (i + 1) m' H') ∧ ∀ v H', (Ite K a).yld i H v H' → g v (wipe σ vs) H' fun σ2 H2 => wipe σ2 vs = wipe σ vs ∧ tt σ2 H2 fun b H3 =>
        if b = true then te σ2 H3 fun y H4 => ∃ acc, H4 D = some (.lst acc) ∧ acc.length < sizeLine ∧ Nx (upd H4 D (.lst (acc ++ [y]))) else Nx H3) := by
  refine ⟨fun i m H => m = xs.length - i ∧ i ≤ xs.length ∧ Pv i H, ⟨xs.length, by simp, Nat.zero_le _, h0⟩, ?_⟩
  rintro i m H ⟨rfl, hi, p⟩
  have q := hl i H hi p
  rcases Nat.lt_or_ge i xs.length with hlt | hge
  · refine .inr ⟨⟨xs, xs[i], q, List.getElem?_eq_getElem hlt⟩, Pv (i + 1), fun H' p' => ⟨xs.length - (i + 1), by omega, rfl, hlt, p'⟩, fun v H' y => ?_⟩
    obtain ⟨T, x, rfl, nT, rfl, y⟩ := y
    exact hs i x H T (y xs q) p nT
  · have e : i = xs.length := by omega
    subst e
    exact .inl ⟨⟨xs, q, Nat.le_refl _⟩, hd H p⟩
theorem pg_tupN {X : Cx} {es : List Expr} {k : Nat} {t : TGs} {n : Nat} {pos : Pos} (K : PySem.W.Frag) (hK : X.K = K) (hc : X.calm = true) (h : PGs X es t) (hn : (assignEach es X.env).length = n := by rfl) (hst : (assignEach es X.env).findIdx? (·.1) = none := by rfl) : PG X (.Tuple es k pos) (gTup K n t) := by
  subst hK
  exact pg_tup hc h hn hst
end AK
set_option Elab.async false
set_option linter.all false
set_option maxRecDepth 100000
set_option maxHeartbeats 2000000
/-! generator expressions over pairs -/
namespace AK
open PySem PySem.Spec PyProof.Rows L2
section
variable {X : Cx} {pins : List (Addr × Obj)} {σ : L2.St} {H : Hp} {s : Shared}
/-- a source of pairs -/
def SrcU (X : Cx) (P : Addr) (s0 s2 : Shared) (it : Value) (n : Nat) (Pf : Nat → Array Value → Prop) : Prop :=
  ∃ (Ia : Addr) (fp wr : List Addr) (St0 : Nat → Heap → Prop) (Mid : Nat → Addr → Heap → Prop), it = .ref Ia ∧ (∀ A' : Around, A'.handled = none → WalksU X.prog X.w A' Ia fp wr n Pf St0 Mid) ∧ (∀ i vals, Pf i vals → ∃ va vb, vals = #[va, vb]) ∧ St0 0 s2.heap ∧ (∀ b ∈ fp, b < s2.heap.objs.size ∧ b ≠ P) ∧ (∀ b ∈ wr, s0.heap.objs.size ≤ b) ∧
    (∃ h tk, s2 = { s0 with heap := h, toks := tk }) ∧ (∀ b o, s0.heap.get? b = some o → s2.heap.get? b = some o) ∧ s0.heap.objs.size ≤ s2.heap.objs.size
theorem gen_mk2 {c P : Addr} {elt iter : Expr} {x y : Str} {px py pt gpos : Pos} {kt : Nat} {scope : Scope} {k : Nat} {Q' : Value → Shared → Prop}
    (hr : Room k X.A) (TB : GxR.TabB X.base X.mg c P) (hcode : X.env.code = .ref c) (S : GxR.GenS X.env scope x) (hy : scope.names.lookup y = some .local) (hxy : x ≠ y) (hs : ∀ v, genFold iter X.env v = pure v) (hc : X.calm = true) (hok : X.Ok)
    (h : wpAny (model X.prog X.w) X.A (eval iter X.env) (fun xv s1 => wpAny (model X.prog X.w) X.A (pyIter xv) (fun it s2 => ∃ (s0 : Shared) (H1 : Hp) (n : Nat) (Pf : Nat → Array Value → Prop) (F : Nat → Value → Prop), Inv X pins σ H1 s0 ∧ GxR.TabG H1 P ∧ SrcU X P s0 s2 it n Pf ∧
      (∀ (cenv : Env) (A' : Around) (E' : Value → Shared → Prop) (i : Nat) (u v : Value) (s3 : Shared) (m : Str → Option Value), EltAt X P s0 scope cenv A' s3 → Pf i #[u, v] → s3.heap.Ns cenv.locals m → m x = some u → m y = some v →
        wpAny (model X.prog X.w) A' (eval elt cenv) (fun z s4 => F i z ∧ Keeps s3 s4) E' s3) ∧
      ∀ g s5, ReadyG X pins σ H1 P n F g s5 → Q' (.ref g) s5) X.xe s1) X.xe s) :
    wpAny (model X.prog X.w) X.A (eval (.GeneratorExp elt [⟨.Tuple [.Name x px, .Name y py] kt pt, iter, [], 0⟩] scope gpos) X.env) Q' X.xe s := by
  refine wpAny_GeneratorExp_walksQTD (hok.hd hc) S.co (closure_ok S.free) S.cell S.dot S.loc hy hxy S.kind (by have := hr.dp; omega) ?_ hs
  refine thn h fun xv s1 h1 => thn h1 fun it s2 h2 => ?_
  obtain ⟨s0, H1, n, Pf, F, I1, ⟨ps, hP, ht⟩, ⟨Ia, fp, wr, St0, Mid, rfl, W, hpr, hst, hfp, hwr, ⟨hh2, tk2, es2⟩, kp2, szs⟩, hel, hq⟩ := h2
  have hPs : s0.heap.get? P = some { cls := .none, data := .fields ps } := I1.hok P _ hP
  have hP2 := kp2 _ _ hPs
  have cd : PySem.W.CodeHd s2.heap c P := TB.code.keeps fun b u e => kp2 b u (I1.bk b u e)
  have lim2 : s2.heap.NoLimit := I1.nolimit.keeps kp2
  have nP : ∀ b, s2.heap.objs.size ≤ b → b ≠ P := fun b hb z => by
    have := Heap.lt_size hP2
    rw [← z] at this
    exact absurd (Nat.lt_of_lt_of_le this hb) (Nat.lt_irrefl _)
  have hg2 : AllBare s2.gens := by rw [es2]; exact I1.bare
  have eg2 : s2.gens = s0.gens := by rw [es2]
  have eo2 : s2.os = s0.os := by rw [es2]
  have cont : ∀ (code : Value) (h3 : Heap) (tk : Nat) (ps' : Array Value), Heap.ExtBut P s2.heap h3 → s2.heap.objs.size ≤ h3.objs.size → h3.get? P = some { cls := .none, data := .fields ps' } → (∃ more, ps' = ps ++ more) → TriplesOk ps'.toList →
      wpAny (model X.prog X.w) X.A (builtinsFor X.env.globals X.env.builtins) (fun bi s₄ =>
        ∃ Ib fp' wr' n₀ Pf' St₀ Mid' pz F', Value.ref Ia = .ref Ib ∧ (∀ A' : Around, A'.handled = none → WalksU X.prog X.w A' Ib fp' wr' n₀ Pf' St₀ Mid') ∧ (∀ i vals, Pf' i vals → ∃ va vb, vals = #[va, vb]) ∧ St₀ 0 s₄.heap ∧ (∀ b ∈ fp', b < s₄.heap.objs.size) ∧ s₄.heap.NoLimit ∧ cStatics ∉ wr' ∧
          (∀ href : Heap, (∀ b o, s₄.heap.get? b = some o → href.get? b = some o) →
            QuietGenTD X.prog X.w (genEnv scope (cloFrom X.env.cells scope.names []) s₄.heap.objs.size code bi X.env) x y [] elt (List.range s₄.heap.objs.size) wr' Pf' pz F' href (X.A.depth + 1) (X.A.units + 8)) ∧
          (∀ a h₅ tk gs, gs.bare = true → s₄.heap.objs.size < a → h₅.objs.size = a + 1 → (∀ b o, s₄.heap.get? b = some o → h₅.get? b = some o) →
            WalksS X.prog X.w X.A.in4 a (a :: s₄.heap.objs.size :: List.range s₄.heap.objs.size) (s₄.heap.objs.size :: wr') (GenOnlyQ s₄.gens.size) (passing pz n₀ 0).length
              (fun j y => ∃ i, (passing pz n₀ 0)[j]? = some i ∧ F' i y) (GenAt X.prog X.w X.A.in4 a s₄.gens.size s₄.heap.objs.size (List.range s₄.heap.objs.size) wr' pz n₀ F') →
            GenAt X.prog X.w X.A.in4 a s₄.gens.size s₄.heap.objs.size (List.range s₄.heap.objs.size) wr' pz n₀ F' 0 { s₄ with gens := s₄.gens.push gs, toks := tk, heap := h₅ } →
            Q' (.ref a) { s₄ with gens := s₄.gens.push gs, toks := tk, heap := h₅ })) X.xe { s2 with heap := h3, toks := tk } := by
    intro code h3 tk ps' hx hsz hP3 hmore ht3
    obtain ⟨bm, ob, e1, e2, e3, e4, e5, e6, e7, e8⟩ := TB.bm
    have keep3 : ∀ b u, b ≠ P → s0.heap.get? b = some u → h3.get? b = some u := fun b u hb e => hx b u hb (kp2 b u e)
    have hcP : cStatics ≠ P := fun e => by
      obtain ⟨_, hns, _⟩ := lim2
      obtain ⟨o', es, ep, ho, hd, _⟩ := hns
      rw [e, hP2] at ho
      cases ho
      cases hd
    have hcl : cStatics < s0.heap.objs.size := let ⟨_, hns, _⟩ := I1.nolimit; hns.lt
    refine wpAny_builtinsFor (m := X.mg) (by rw [hok.glob]; exact (hok.mod.glob.keeps fun b u e => kp2 b u (I1.bk b u e)).extBut hx TB.gP) e1 e2 (keep3 _ _ e4 (I1.bk _ _ e5)) e6 e7 e8 ?_
    refine ⟨Ia, fp, wr, n, Pf, St0, Mid, (fun _ => true), F, rfl, W, hpr, ?_, fun b hb => Nat.lt_of_lt_of_le (hfp b hb).1 hsz, lim2.extBut hx hcP, fun z => absurd (Nat.lt_of_lt_of_le hcl (hwr _ z)) (Nat.lt_irrefl _), ?_, ?_⟩
    · exact (W X.A (hok.hd hc)).frame 0 _ _ hst fun b hb o e => hx b o (hfp b hb).2 e
    · intro href hhref
      have old : ∀ (s4 : Shared), (∀ b ∈ List.range h3.objs.size, b ∉ wr → ∀ o, href.get? b = some o → s4.heap.get? b = some o) → ∀ b o, b ≠ P → s0.heap.get? b = some o → s4.heap.get? b = some o := fun s4 hk b o hb e => by
        have hl := Heap.lt_size e
        refine hk b (List.mem_range.mpr (Nat.lt_of_lt_of_le hl (Nat.le_trans szs hsz))) (fun z => absurd (Nat.lt_of_lt_of_le hl (hwr b z)) (Nat.lt_irrefl _)) o (hhref b o (keep3 b o hb e))
      refine ⟨fun A' E' i u v s4 m4 hA hD hU hPv hn hm hm2 hk => ?_, fun A' E' i u v s4 m4 hA hD hU hPv hp hn hm hm2 hk => ?_⟩
      · simp only [List.forIn_nil]
        exact wpAny_pure ⟨rfl, GxR.keeps_refl _⟩
      · exact hel _ A' E' i u v s4 m4 ⟨rfl, rfl, rfl, hA, hD, hU, old s4 hk⟩ hPv hn hm hm2
    · intro g h5 tk5 gs hgb hag hsz5 hk5 W5 hgat
      simp only [GxR.passing_true, List.length_range] at W5
      have imp : ∀ j z, (∃ i, (List.range n)[j]? = some i ∧ F i z) → F j z := fun j z ⟨i, hij, hF⟩ => by
        obtain ⟨hj, ej⟩ := List.getElem?_eq_some_iff.mp hij
        rw [List.getElem_range] at ej
        subst ej
        exact hF
      refine hq g _ ⟨_, _, _, _, W5.imp imp, hgat, ?_, List.mem_cons_self, fun i s9 h9 => ?_, fun s' hm => ?_⟩
      · intro b hb
        show b < h5.objs.size
        have e5 : h5.objs.size = g + 1 := hsz5
        have h8 : h3.objs.size < g := hag
        rw [e5]
        rcases List.mem_cons.mp hb with z | z
        · rw [z]
          exact Nat.lt_succ_self g
        rcases List.mem_cons.mp z with z | z
        · rw [z]
          exact Nat.lt_succ_of_lt h8
        · exact Nat.lt_succ_of_lt (Nat.lt_trans (List.mem_range.mp z) h8)
      · obtain ⟨hg9, _⟩ := h9
        exact hg9.typeIs
      · obtain ⟨more, em⟩ := hmore
        have nwr : ∀ b u, s0.heap.get? b = some u → b ∉ h3.objs.size :: wr := fun b u e hb => by
          have hl := Heap.lt_size e
          rcases List.mem_cons.mp hb with z | z
          · rw [z] at hl
            exact absurd (Nat.lt_of_lt_of_le hl (Nat.le_trans szs hsz)) (Nat.lt_irrefl _)
          · exact absurd (Nat.lt_of_lt_of_le hl (hwr b z)) (Nat.lt_irrefl _)
        have hbare : AllBare s'.gens := AllBare.movedS (hg2.push hgb) hm
        have J := GxR.inv_tab (more := more) (h' := s'.heap) (g' := s'.gens) (d' := s'.drawn) (t' := s'.toks) I1 hP (fun b u hb e => hm.heap b u (nwr b u e) (hk5 b u (keep3 b u hb e)))
          (by rw [← em]; exact hm.heap P _ (nwr P _ hPs) (hk5 P _ hP3)) hbare
        have eos : s'.os = s0.os := hm.os.trans eo2
        rw [GxR.sh_eta s0 s' eos] at J
        refine ⟨upd H1 P (.tbl (ps ++ more)), ⟨⟨ps ++ more, upd_same, by rw [← em]; exact ht3⟩, fun b hb => upd_ne hb⟩, J⟩
  refine ⟨lim2, ?_⟩
  cases hf : codeAmong gpos ps.toList with
  | none =>
    refine wpAny_genexprCodeX hcode (cd.code hP2 ht) (cd.tab hP2) hf fun c' h' tk hx hge hlt hco' _ htab' _ => ?_
    obtain ⟨o1, vs, f1, tf, fl, tg, inF, tx, tt, op, _, _, _, _, _, _, _, _, _, htr, _⟩ := hco'
    exact cont _ h' tk _ hx (Nat.le_trans hge (Nat.le_of_lt hlt)) htab'.2 ⟨_, rfl⟩ htr
  | some cv =>
    refine wpAny_genexprCode_hit hcode (cd.code hP2 ht) hf ?_
    exact cont cv s2.heap s2.toks ps (Heap.ExtBut.refl _ _) (Nat.le_refl _) hP2 ⟨#[], by simp⟩ ht
end
end AK

namespace AK
open PySem PySem.Spec PyProof.Rows L2
section
variable {X : Cx} {pins : List (Addr × Obj)} {σ : L2.St} {H : Hp} {s : Shared}
/-- enumerate(text) as a source -/
theorem src_enS {P : Addr} {x : Str} {t : Tok} {h1 : Heap} (I : Inv X pins σ H s) (hcs : ∃ ps, H P = some (.tbl ps)) (q1 : IsEnum h1 (s.heap.objs.size + 1) s.heap.objs.size 0 .none) (q2 : h1.IsStrIter s.heap.objs.size (strIterType x) x t 0) (sz : h1.objs.size = s.heap.objs.size + 2) (kp : ∀ b o, s.heap.get? b = some o → h1.get? b = some o) :
    SrcU X P s { s with heap := h1 } (.ref (s.heap.objs.size + 1)) x.cps.size (fun i vals => ∃ t y, (∃ c u, x.cps[i]? = some c ∧ y = .str ⟨#[c]⟩ u) ∧ vals = #[.int (0 + (i : Int)) t, y]) := by
  obtain ⟨ps, hP⟩ := hcs
  have hPlt := Heap.lt_size (I.hok P _ hP : s.heap.get? P = some { cls := .none, data := .fields ps })
  refine ⟨s.heap.objs.size + 1, _, _, _, _, rfl, fun A' hA => (WalksT.enumFrom (A := A') 0 (Draws.text (prog := X.prog) (w := X.w) (A := A'.in1) hA s.heap.objs.size x t) (s.heap.objs.size + 1) (Nat.succ_ne_self _) (by simp) (by simp)).toU, fun i vals ⟨t, y, _, e⟩ => ⟨_, _, e⟩, ⟨⟨.none, q1⟩, q2⟩, fun b hb => ?_, fun b hb => ?_, ⟨h1, s.toks, rfl⟩, kp, by show s.heap.objs.size ≤ h1.objs.size; omega⟩
  · show b < h1.objs.size ∧ _
    have hPl : P < s.heap.objs.size := hPlt
    rcases two_of hb with z | z <;> rw [z, sz]
    · exact ⟨Nat.lt_succ_self _, fun q => by rw [← q] at hPl; exact absurd (Nat.lt_trans (Nat.lt_succ_self _) hPl) (Nat.lt_irrefl _)⟩
    · exact ⟨Nat.lt_succ_of_lt (Nat.lt_succ_self _), fun q => by rw [← q] at hPl; exact absurd hPl (Nat.lt_irrefl _)⟩
  · rcases two_of hb with z | z <;> rw [z]
    · exact Nat.le_succ _
    · exact Nat.le_refl _
/-- the element: of a place and its sign the text f, all objects stand -/
def ElE (X : Cx) (P : Addr) (scope : Scope) (x y : Str) (elt : Expr) (σ : L2.St) (a : Str) (f : Nat → Str) : Prop :=
  ∀ (pins : List (Addr × Obj)) (s0 : Shared) (H1 : Hp), Inv X pins σ H1 s0 → (∃ ps, H1 P = some (.tbl ps)) → ∀ (cenv : Env) (A' : Around) (E' : Value → Shared → Prop) (i c : Nat) (u v : Value) (s3 : Shared) (m : Str → Option Value), EltAt X P s0 scope cenv A' s3 → a.cps[i]? = some c → RelV (.int i) u → RelV (.str ⟨#[c]⟩) v → s3.heap.Ns cenv.locals m → m x = some u → m y = some v →
    wpAny (model X.prog X.w) A' (eval elt cenv) (fun z s4 => (∃ t, z = .str (f i) t) ∧ Keeps s3 s4) E' s3
/-- sep.join(elt for x, y in enumerate(e)) -/
def tJoinE (X : Cx) (P : Addr) (scope : Scope) (x y : Str) (elt : Expr) (to te : TE) : TE := fun σ H Q => to σ H fun v H1 => ∃ sep : Str, v = .str sep ∧ te σ H1 fun z H2 => ∃ (a : Str) (f : Nat → Str), z = .str a ∧ a.cps.size ≤ 16777216 ∧ GxR.TabG H2 P ∧
  ElE X P scope x y elt σ a f ∧ JoinOk sep ((List.range a.cps.size).map f) = true ∧ ∀ H3, GxR.Tabbed P H2 H3 → Q (.str (Txt.join sep ((List.range a.cps.size).map f))) H3
theorem pe_joinE {c P : Addr} {o elt ie : Expr} {x y : Str} {px py pt apos cpos gpos pe pc : Pos} {kt : Nat} {scope : Scope} {to te : TE} {k : Nat}
    (hr : Room k X.A) (TB : GxR.TabB X.base X.mg c P) (hcode : X.env.code = .ref c) (S : GxR.GenS X.env scope x) (hy : scope.names.lookup y = some .local) (hxy : x ≠ y) (ho : PE X o to) (hg : Gl X "enumerate") (hm : X.mg "enumerate" = none) (hi : PE X ie te)
    (hs : ∀ v, genFold (.Call (.Name "enumerate" pe) [ie] [] pc) X.env v = pure v) (hc : X.calm = true) (hie : starEach [ie] X.env = [(false, eval ie X.env)] := by rfl) (hbase : attributeBase o "join" X.env (eval o X.env) = eval o X.env := by rfl)
    (hfew : ((backTo cpos (starEach [.GeneratorExp elt [⟨.Tuple [.Name x px, .Name y py] kt pt, .Call (.Name "enumerate" pe) [ie] [] pc, [], 0⟩] scope gpos] X.env)).all (fun x => !x.1) && (backToKw cpos (keywordEach [] X.env)).all (fun x => x.1.isSome)
      && decide (([.GeneratorExp elt [⟨.Tuple [.Name x px, .Name y py] kt pt, .Call (.Name "enumerate" pe) [ie] [] pc, [], 0⟩] scope gpos] : List Expr).length + ([] : List Keyword).length + (if ([] : List Keyword).isEmpty then 0 else 1) < 30)) = true := by rfl)
    (hline : (apos.endLine == cpos.line) = true := by rfl)
    (he : starEach [.GeneratorExp elt [⟨.Tuple [.Name x px, .Name y py] kt pt, .Call (.Name "enumerate" pe) [ie] [] pc, [], 0⟩] scope gpos] X.env = (false, eval (.GeneratorExp elt [⟨.Tuple [.Name x px, .Name y py] kt pt, .Call (.Name "enumerate" pe) [ie] [] pc, [], 0⟩] scope gpos) X.env) :: starEach [] X.env := by rfl)
    (hplain : (backTo cpos (starEach [] X.env)).any (·.1) = false := by rfl) :
    PE X (.Call (.Attribute o "join" apos) [.GeneratorExp elt [⟨.Tuple [.Name x px, .Name y py] kt pt, .Call (.Name "enumerate" pe) [ie] [] pc, [], 0⟩] scope gpos] [] cpos) (tJoinE X P scope x y elt to te) := by
  refine ⟨fun pins s σ H Q I h => ?_⟩
  refine wpAny_Call_method_late hbase hfew hline rfl (thn (ho.run pins s σ H _ I h) fun v s1 ⟨x', H1, I1, r1, sep, ex, q1⟩ => ?_)
  subst ex
  obtain ⟨tk, rfl⟩ := (show ∃ t, v = Value.str sep t from r1)
  refine ⟨"str", _, PySem.F.plainAttrs_str, PySem.F.slot_str_join, PySem.F.type_str_join, typeIs_str _ _ _, (fun _ e => nomatch e), ?_⟩
  rw [he]
  refine Calls.callWith_builtin (by show (false || (backTo cpos (starEach [] X.env)).any (·.1)) = false; rw [hplain] <;> rfl) (Calls.evalArgs_plain ?_)
  show wpAny _ _ (spliced ((false, eval (.GeneratorExp elt [⟨.Tuple [.Name x px, .Name y py] kt pt, .Call (.Name "enumerate" pe) [ie] [] pc, [], 0⟩] scope gpos) X.env) :: backTo cpos (starEach [] X.env))) _ _ s1
  refine Calls.spliced_cons (gen_mk2 (σ := σ) (pins := pins) hr TB hcode S hy hxy hs hc I1.ok ?_)
  refine Call_ (ld_blt I1 hg hm boot_enumerate (PyProof.Rows.callWith_type1 (thn ((pa_cons hi pa_nil hie).run pc pins s1 σ H1 (fun vs H2 => match vs with
    | [z] => ∃ (a : Str) (f : Nat → Str), z = .str a ∧ a.cps.size ≤ 16777216 ∧ GxR.TabG H2 P ∧ ElE X P scope x y elt σ a f ∧ JoinOk sep ((List.range a.cps.size).map f) = true ∧ ∀ H3, GxR.Tabbed P H2 H3 → Q (.str (Txt.join sep ((List.range a.cps.size).map f))) H3
    | _ => False) I1 q1) fun us s2 ⟨vs, H2, I2, r2, q2⟩ => ?_) hie rfl))
  match vs, r2, q2 with
  | [z], r2, ⟨a, f, ez, hn, hT, hel, jok, hq⟩ =>
    subst ez
    obtain ⟨u, rfl, ta, rfl⟩ := r2.one
    obtain ⟨ps, hP, ht⟩ := id hT
    refine call_enumerate_str fun h1 e1 e2 sz kp => wpAny_pyIter_enum e1 ⟨s2, H2, a.cps.size, _, fun i z => ∃ t, z = .str (f i) t, I2, hT, src_enS I2 ⟨ps, hP⟩ e1 e2 sz kp, fun cenv A' E' i u v s3 m ea hv hn1 hm1 hm2 => ?_, fun g s5 hG => ?_⟩
    · obtain ⟨t3, y3, ⟨c3, u3, hc3, rfl⟩, e3⟩ := hv
      have eu : u = .int (0 + (i : Int)) t3 := by injection e3 with e3; injection e3
      have ev : v = .str ⟨#[c3]⟩ u3 := by injection e3 with e3; injection e3 with _ e3; injection e3
      subst eu ev
      exact hel pins s2 H2 I2 ⟨ps, hP⟩ cenv A' E' i c3 _ _ s3 m ea hc3 ⟨t3, by rw [Int.zero_add]⟩ ⟨_, rfl⟩ hn1 hm1 hm2
    · refine Calls.spliced_nil ?_
      obtain ⟨fp, wr, G, St, W, hst, hfp, hgf, hTy, hinv⟩ := hG
      refine PySem.SC.joinGen W.in4_2 hTy hst hfp hgf (fun i v hv => let ⟨t, e⟩ := hv; ⟨_, t, e⟩) (fun s' l hm2 hio => ?_) (show a.cps.size ≤ sizeLine from Nat.le_trans hn (by decide))
      have hl0 : l.length = a.cps.size := by
        have e0 := hio.1
        rw [List.size_toArray] at e0
        unfold strValues at e0
        rw [List.length_map] at e0
        exact e0
      have e : l.map (·.1) = (List.range a.cps.size).map f := by
        refine List.ext_getElem? fun j => ?_
        rw [List.getElem?_map, List.getElem?_map]
        cases hj : l[j]? with
        | none =>
          have h1 : (List.range a.cps.size)[j]? = none := by
            rw [List.getElem?_eq_none_iff] at hj ⊢
            rw [List.length_range]
            omega
          rw [h1] <;> rfl
        | some p =>
          have hjn : j < a.cps.size := by
            have := (List.getElem?_eq_some_iff.mp hj).1
            omega
          have h2 : (strValues l).toArray[j]? = some (.str p.1 p.2) := by
            show (strValues l).toArray[j]? = _
            rw [List.getElem?_toArray]
            unfold strValues
            rw [List.getElem?_map, hj] <;> rfl
          obtain ⟨t, ev⟩ := hio.2 j _ h2
          have e1 : p.1 = f j := by injection ev
          rw [List.getElem?_range hjn]
          show some p.1 = some (f j)
          rw [e1]
      obtain ⟨H3, ht3, J⟩ := hinv s' hm2
      rw [e]
      exact ⟨jok, fun t' k' => ⟨.str _, H3, J.tok k', ⟨t', rfl⟩, hq H3 ht3⟩⟩
end
end AK
set_option Elab.async false
set_option linter.all false
set_option maxRecDepth 100000
set_option maxHeartbeats 4000000
/-! set(a list of ints), as the hand layer's set -/
namespace AK
open PySem PySem.Spec PyProof.Rows L2
/-- the object of an empty set -/
abbrev eSet (w : World) : Obj := { cls := .type "set", dict := none, data := .set #[] 0 (.fresh 0 0 (!w.params.followText "set-order")) }
section
variable {P : Program} {w : World} {A : Around} {E : Value → Shared → Prop} {s : Shared}
def SetMade (w : World) (ns : List Int) (s : Shared) (s2 : Shared) : Prop := ∃ h2 tk c, s2 = { s with heap := h2, toks := tk } ∧ SetR w h2 s.heap.objs.size (fun j => decide (j ∈ ns)) c ∧ c ≤ ns.length ∧ ∀ b o, s.heap.get? b = some o → h2.get? b = some o
theorem two_ofL {b e it : Addr} (h : b ∈ [e, it]) : b = e ∨ b = it := by simpa using h
theorem call_setL {l : Addr} {items : Array Value} (ns : List Int) {Q : Value → Shared → Prop} (hh : A.handled = none) (hl : s.heap.IsList l items) (hi : IntsAre items.toList ns) (hb : ns.length + 1 < scanBound)
    (h : ∀ s2, SetMade w ns s s2 → Q (.ref s.heap.objs.size) s2) : wpAny (model P w) A (call (.type "set") [.ref l]) Q E s := by
  have hz : items.size = ns.length := by rw [← Array.length_toList]; exact IntsAre.length hi
  have ⟨c, tl, hmro⟩ := F.called_set.mro
  have k1 := F.called_set.made; have k2 := F.called_set.sub; have k3 := F.called_set.notType; have k4 := F.called_set.canCreate
  refine wpAny_call (codeAny_of_tree (show wpAny _ _ (callAny (.type "set") _) _ _ _ from wpAny_pure ⟨Code.quiet_builtin _ (by decide +kernel), codeAny_builtin F.entry_type_call ?_⟩))
  rw [Around.under_plain (weight_type_call_type "set" [.ref l] []) rfl]
  have k5 := F.typeCall_set_1 (.ref l)
  repeat any_goals first | assumption | wp_step
  refine codeAny_mono (code_set_led1 (.ref l) (E := E) (Q₁ := fun z s1 => z = .ref s.heap.objs.size ∧ s1 = { s with heap := s.heap.push (eSet w) }) ⟨rfl, rfl⟩) fun r s1 hr => ?_
  match r, hr with
  | .error e, hr => exact hr
  | .ok (.ret z), hr =>
    obtain ⟨rfl, rfl⟩ := hr
    have gS : (s.heap.push (eSet w)).get? s.heap.objs.size = some (eSet w) := Heap.get?_push_size _ rfl
    have tS : Shared.TypeIs { s with heap := s.heap.push (eSet w) } (.ref s.heap.objs.size) "set" := ⟨_, gS, rfl⟩
    have k6 := F.called_set.init.lookup; have k7 := F.called_set.init.bind (.ref s.heap.objs.size)
    repeat any_goals first | assumption | wp_step
    refine codeAny_mono (codeAny_call_builtin (R := wants (fun r s2 => r = .none ∧ SetMade w ns s s2) E) F.called_set.init.plain F.entry_set_init (check_set_init_1 tS ?_)) fun r2 s2 hr2 => ?_
    · obtain ⟨⟨oc, od, odat, osl⟩, ol, hc, n, hd⟩ := hl
      obtain rfl : oc = .type "list" := hc
      obtain rfl : odat = .seq items n := hd
      have gl : (s.heap.push (eSet w)).get? l = some { cls := .type "list", dict := od, data := .seq items n, slots := osl } := Heap.get?_push_of_some _ ol
      have k8 := F.sub_list_set; have k9 := F.sub_list_frozenset
      have k10 : (Value.type "list" == Value.type "dict") = false := by decide
      have il : (s.heap.push (eSet w)).IsList l items := ⟨_, gl, rfl, n, rfl⟩
      unfold Builtin.«set.__init__» noKeywords Builtin.Frozenset.updateFrom
      generalize e0 : pyIter = PI
      wp_walk
      subst e0
      refine wpAny_pyIter_list il (wpAny_bind (wpAny_runValue ?_))
      have lS : l < s.heap.objs.size := Heap.lt_size ol
      have z1 : (s.heap.push (eSet w)).objs.size = s.heap.objs.size + 1 := Heap.size_push ..
      have nI : l ≠ (s.heap.push (eSet w)).objs.size := by rw [z1]; exact Nat.ne_of_lt (Nat.lt_succ_of_lt lS)
      have nS : s.heap.objs.size ∉ [(s.heap.push (eSet w)).objs.size, l] := by
        rw [z1]
        intro q
        rcases two_ofL q with q | q
        · exact absurd q (Nat.ne_of_lt (Nat.lt_succ_self _))
        · exact absurd q (Nat.ne_of_gt lS)
      have hv : ∀ (i : Nat) (v : Value), items[i]? = some v → ∃ k t, ns[i]? = some k ∧ v = .int k t := fun i v q => by
        have hin : i < ns.length := by rw [← hz]; exact (Array.getElem?_eq_some_iff.mp q).1
        obtain ⟨t, e⟩ := PyProof.Rows.IntsAre.int_at hi i v (by rw [Array.getElem?_toList]; exact q)
        exact ⟨ns[i], t, List.getElem?_eq_getElem hin, by rw [e, List.getD_eq_getElem?_getD, List.getElem?_eq_getElem hin] <;> rfl⟩
      refine set_update_ints ((Walks.list (show A.in1.in1.in1.handled = none from hh) _ l nI items).toS) s.heap.objs.size nS ns hz hb hv (items.size - 0) 0 _ (by omega) (Nat.zero_le _) ⟨⟨_, Heap.get?_push_size _ rfl, rfl, rfl⟩, il.push _⟩ ⟨0, Nat.le_refl 0, setR_new_at (Heap.get?_push_of_some _ gS)⟩ fun s3 c3 hm hc3 hS3 => ?_
      obtain ⟨h3, g3, d3, tk3, os3⟩ := s3
      obtain rfl : g3 = s.gens := hm.gens
      obtain rfl : d3 = s.drawn := hm.drawn
      obtain rfl : os3 = s.os := hm.os
      refine (show wpAny _ _ _ _ _ _ from wpAny_pure (show wpAny _ _ (ret Value.none) _ _ _ from ?_))
      refine wpAny_pure ⟨rfl, h3, tk3, c3, rfl, hS3, by rw [← hz]; exact hc3, fun b o e => ?_⟩
      have hb0 : b < s.heap.objs.size := Heap.lt_size e
      refine hm.heap b o (fun q => ?_) (Heap.get?_push_of_some _ (Heap.get?_push_of_some _ e))
      rcases two_ofL q with q | q
      · exact absurd q (Nat.ne_of_lt hb0)
      · have q2 : b = s.heap.objs.size + 1 := by rw [← z1]; exact q
        exact absurd q2 (Nat.ne_of_lt (Nat.lt_succ_of_lt hb0))
    · match r2, hr2 with
      | .error e, hr2 => exact hr2
      | .ok (.ret r), hr2 =>
        obtain ⟨rfl, hr2⟩ := hr2
        repeat any_goals first | assumption | wp_step
        exact h _ hr2
end
section
variable {X : Cx}
/-- set(l), l a list of ints -/
def rSetL (K : PySem.W.Frag) (w : World) : List V → Hp → VK → Prop := fun xs H Q => ∃ (a : Addr) (ns : List Int), xs = [.ref a] ∧ SqL K H a (ns.map V.int) ∧ ns.length + 1 < scanBound ∧
  ∀ p c, H p = none → c ≤ ns.length → Q (.ref p) (upd H p (SetO w p (fun j => decide (j ∈ ns)) c))
theorem cr_setL (hc : X.calm = true) : CallR X (.type "set") (rSetL X.K X.w) := by
  rintro pins s σ H xs us Q I r ⟨a, ns, rfl, hs, hb, q⟩
  obtain ⟨u, rfl, ru⟩ := r.one
  obtain rfl : u = Value.ref a := ru
  obtain ⟨its, rv, hl, hz⟩ := I.list hs
  refine call_setL (items := its.toArray) ns (I.ok.hd hc) hl.isList (ints_of_vals rv) hb fun s2 ⟨h2, tk, c, e, R, hcn, kp⟩ => ?_
  subst e
  exact ⟨.ref _, _, I.laid (t' := tk) kp (Nat.le_refl _) (setO_new R), rfl, q _ c (I.hok.fresh (Nat.le_refl _)) hcn⟩
end
end AK
set_option Elab.async false
set_option linter.all false
set_option maxRecDepth 100000
set_option maxHeartbeats 4000000
/-! sorted(a set of ints), any number of them below 4000 -/
namespace AK
open PySem PySem.Spec PyProof.Rows L2
section
variable {P : Program} {w : World} {A : Around} {E : Value → Shared → Prop} {s : Shared} {a : Addr}
theorem sorted_setL {S : Int → Bool} {n : Nat} {Q : Value → Shared → Prop} (R : SetR w s.heap a S n) (hh : A.handled = none) (hmany : n < 4000)
    (hQ : ∀ (s' : Shared) (p : Addr) (out : List Value) (c : Nat) (ns : List Int), (∀ b o, s.heap.get? b = some o → s'.heap.get? b = some o) → s'.gens = s.gens → s'.os = s.os → s.heap.objs.size ≤ p → s'.heap.get? p = some (seqObj "list" out.toArray c) → IntsAre out ns →
      ns.Pairwise (· < ·) → (∀ k, k ∈ ns ↔ S k = true) → ns.length = n → Q (.ref p) s') : wpAny (model P w) A (call (.builtin "sorted") [.ref a]) Q E s := by
  obtain ⟨o, es, ep, t, ho, hex, hd, g, nd, hm, hb, hf, rfl, hr, hl⟩ := R
  have hlen : (es.toList.map keyOf).length = es.size := by rw [List.length_map, Array.length_toList]
  refine Calls.call_function_entry kind_sorted plain_sorted entry_sorted (args_sorted1 _) ?_
  unfold Builtin.«sorted»
  refine wpAny_bind (m := checkCount "sorted" 1 1 _) (wpAny_pure (wpAny_bind (collect_set (A := A.in1) hh ⟨o, ho, hex.1, hd⟩ hf hb hr hl fun s1 vs k1 hz g1 o1 pm => ?_)))
  have pk : (vs.map Builtin.Re.reRawOf).Perm (es.toList.map keyOf) := by
    have q := pm.map Builtin.Re.reRawOf
    rw [List.map_map] at q
    exact q
  have hI : IntsAre vs (vs.map Builtin.Re.reRawOf) := ints_of vs fun v hv => by
    obtain ⟨e, he, q⟩ := List.mem_map.mp (pm.mem_iff.mp hv)
    obtain ⟨k, tk, h1, _⟩ := g e he
    exact ⟨k, tk, q.symm.trans h1⟩
  have hvl : vs.length ≤ sizeLine := by
    rw [pm.length_eq, List.length_map, Array.length_toList, sizeLine_eq]; omega
  refine wpAny_bind (wpAny_newList ?_ hvl)
  have hoL : (s1.heap.push (seqObj "list" vs.toArray 0)).get? s1.heap.objs.size = some (seqObj "list" vs.toArray 0) := Heap.get?_push_size _ rfl
  refine wpAny_bind (wpAny_holding (wpAny_call_entry slot_list_sort ⟨_, hoL, rfl⟩ entry_list_sort (SrtO.list_sort_ord SrtO.swo_int hoL hvl (fun h2 => SrtO.ints_sortable hI h2) fun out h1 h2 => ⟨_, rfl, ?_⟩) (args_list_sort _)))
  obtain ⟨c, hc⟩ := sortedHeap_at (vs := vs) (out := out.toArray) hoL
  obtain ⟨b1, b2, b3⟩ := SrtO.ints_out hI h1 h2
  have pn := b2.trans pk
  refine wpAny_pure ⟨_, rfl, hQ _ s1.heap.objs.size out c _ (fun b u e => ?_) g1 o1 hz hc b1 (lt_of_le_nodup _ b3 (pn.nodup_iff.mpr nd)) (fun k => by rw [pn.mem_iff, ← hm k]) (pn.length_eq.trans hlen)⟩
  have q := k1 b u e
  have hlt := Heap.lt_size q
  show (sortedHeap (s1.heap.push (seqObj "list" vs.toArray 0)) s1.heap.objs.size vs out.toArray).get? b = some u
  rw [sortedHeap_old (Nat.ne_of_lt hlt) (by rw [size_push']; exact Nat.lt_succ_of_lt hlt)]
  exact Heap.get?_push_of_some _ q
end
section
variable {X : Cx}
def rSortedSetL (w : World) : List V → Hp → VK → Prop := fun vs H Q => ∃ (a : Addr) (S : Int → Bool) (n : Nat), vs = [V.ref a] ∧ H a = some (SetO w a S n) ∧ n < 4000 ∧
  ∀ (ns : List Int) (p : Addr), ns.Pairwise (· < ·) → (∀ k : Int, k ∈ ns ↔ S k = true) → ns.length = n → H p = none → Q (.ref p) (L2.upd H p (.lst (ns.map V.int)))
theorem cr_sortedSetL (w : World) (hw : X.w = w) (hc : X.calm = true) : CallR X (.builtin "sorted") (rSortedSetL w) := by
  subst hw
  intro pins s σ H vs us Q I r h
  obtain ⟨a, S, n, rfl, ha, hn, q⟩ := h
  rw [Vals.ref1 r]
  refine sorted_setL (setO_get I ha) (I.ok.hd hc) hn fun s' p out c ns k g o hp hg hi hs hm hl => ?_
  have hf : H p = none := I.hok.fresh hp
  have J : Inv X pins σ (L2.upd H p (.lst (ns.map V.int))) { s with heap := s'.heap, gens := s'.gens, drawn := s'.drawn, toks := s'.toks } :=
    I.call (ch := []) (Un.laid k hp hf) (I.hok.laid k hp ⟨by rw [List.length_map, hl, sizeLine_eq]; omega, out, c, vals_of_ints hi, hg⟩) (by rw [g]; exact I.bare) (fun _ z => nomatch z)
  rw [GxR.sh_eta s s' o] at J
  exact ⟨.ref p, _, J, rfl, q ns p hs hm hl hf⟩
end
end AK
set_option Elab.async false
set_option linter.all false
set_option maxRecDepth 100000
set_option maxHeartbeats 4000000
namespace AK
open PySem PySem.Spec PyProof.Rows L2
theorem web_congr {n : Nat} {e e' : Nat → Nat → Bool} (h : ∀ i j, i < n → j < n → e i j = e' i j) : web n e = web n e' := by
  unfold web row
  refine List.map_congr_left fun i hi => ?_
  have hi := List.mem_range.mp hi
  congr 2
  refine List.map_congr_left fun j hj => ?_
  rw [h i j hi (List.mem_range.mp hj)]
/-! ### lists of lists of signs -/
def signs (n : Nat) (e : Nat → Bool) : List V := (List.range n).map fun j => V.str ⟨#[sg (e j)]⟩
structure Signs (H0 H : Hp) (D : Addr) (ps : List Addr) (n : Nat) (E : Nat → Nat → Bool) : Prop where
  same : Same H0 H
  hD : H D = some (.lst (ps.map V.ref))
  len : ps.length = n
  nd : ps.Nodup
  nD : D ∉ ps
  fr : ∀ p ∈ ps, H0 p = none
  frD : H0 D = none
  at_ : ∀ i p, ps[i]? = some p → H p = some (.lst (signs n (E i)))
theorem signs_len (n : Nat) (e : Nat → Bool) : (signs n e).length = n := by simp [signs]
theorem signs_set {n j : Nat} {e e' : Nat → Bool} (hj : j < n) (h : ∀ k, k < n → e' k = if k = j then true else e k) : (signs n e).set j (.str "x") = signs n e' := by
  refine List.ext_getElem? fun k => ?_
  rw [List.getElem?_set]
  unfold signs
  by_cases hk : k < n
  · rw [List.getElem?_map, List.getElem?_map, List.getElem?_range hk]
    by_cases hjk : j = k
    · subst hjk
      rw [if_pos rfl, if_pos (by simpa using hk)]
      show _ = some (V.str ⟨#[sg (e' j)]⟩)
      rw [h j hk, if_pos rfl] <;> rfl
    · rw [if_neg hjk]
      show some (V.str ⟨#[sg (e k)]⟩) = some (V.str ⟨#[sg (e' k)]⟩)
      rw [h k hk, if_neg (fun z => hjk z.symm)]
  · have e1 : ((List.range n).map fun j => V.str ⟨#[sg (e j)]⟩)[k]? = none := by rw [List.getElem?_eq_none_iff]; simpa using hk
    have e2 : ((List.range n).map fun j => V.str ⟨#[sg (e' j)]⟩)[k]? = none := by rw [List.getElem?_eq_none_iff]; simpa using hk
    rw [e1, e2]
    split
    · split
      · rename_i h1 h2
        subst h1
        exact absurd hj hk
      · rfl
    · rfl
theorem Signs.congr {H0 H : Hp} {D : Addr} {ps : List Addr} {n : Nat} {E E' : Nat → Nat → Bool} (S : Signs H0 H D ps n E) (h : ∀ i j, i < n → j < n → E i j = E' i j) : Signs H0 H D ps n E' where
  same := S.same
  hD := S.hD
  len := S.len
  nd := S.nd
  nD := S.nD
  fr := S.fr
  frD := S.frD
  at_ := fun i p hp => by
    rw [S.at_ i p hp]
    have hi : i < n := by rw [← S.len]; exact (List.getElem?_eq_some_iff.mp hp).1
    unfold signs
    congr 2
    refine List.map_congr_left fun j hj => ?_
    rw [h i j hi (List.mem_range.mp hj)]
theorem nodup_inj {α : Type} : ∀ {l : List α} {i j : Nat} {x : α}, l.Nodup → l[i]? = some x → l[j]? = some x → i = j
  | [], i, _, _, _, h, _ => by simp at h
  | a :: l, 0, 0, _, _, _, _ => rfl
  | a :: l, 0, j + 1, x, nd, h1, h2 => by
    simp at h1 h2
    subst h1
    exact absurd (List.mem_of_getElem? h2) (List.nodup_cons.mp nd).1
  | a :: l, i + 1, 0, x, nd, h1, h2 => by
    simp at h1 h2
    subst h2
    exact absurd (List.mem_of_getElem? h1) (List.nodup_cons.mp nd).1
  | a :: l, i + 1, j + 1, x, nd, h1, h2 => by
    simp at h1 h2
    rw [nodup_inj (List.nodup_cons.mp nd).2 h1 h2]
theorem Signs.write {H0 H : Hp} {D : Addr} {ps : List Addr} {n : Nat} {E : Nat → Nat → Bool} (S : Signs H0 H D ps n E) {i j : Nat} {p : Addr} (hp : ps[i]? = some p) (hj : j < n) :
    Signs H0 (L2.upd H p (.lst ((signs n (E i)).set j (.str "x")))) D ps n (fun a b => if a = i ∧ b = j then true else E a b) where
  same := fun b o e => by
    have nb : b ≠ p := fun z => by
      have := S.fr p (List.mem_of_getElem? hp)
      rw [z, this] at e
      cases e
    rw [upd_ne nb]
    exact S.same b o e
  hD := by
    have nb : D ≠ p := fun z => S.nD (by rw [z]; exact List.mem_of_getElem? hp)
    rw [upd_ne nb]
    exact S.hD
  len := S.len
  nd := S.nd
  nD := S.nD
  fr := S.fr
  frD := S.frD
  at_ := fun a q hq => by
    by_cases ha : a = i
    · subst ha
      rw [hp] at hq
      cases hq
      rw [upd_same]
      congr 2
      refine signs_set hj fun k hk => ?_
      by_cases hkj : k = j
      · rw [if_pos hkj, if_pos ⟨rfl, hkj⟩]
      · rw [if_neg hkj, if_neg (fun z => hkj z.2)]
    · have nq : q ≠ p := fun z => by
        subst z
        exact ha (nodup_inj S.nd hq hp)
      rw [upd_ne nq, S.at_ a q hq]
      unfold signs
      congr 2
      refine List.map_congr_left fun k _ => ?_
      show _ = V.str ⟨#[sg (if a = i ∧ k = j then true else E a k)]⟩
      rw [if_neg (fun z => ha z.1)]
theorem signs_join (n : Nat) (e : Nat → Bool) : Txt.join (Str.ofString "") ((List.range n).map fun j => (⟨#[sg (e j)]⟩ : Str)) = row n e := by
  have h := join_signs ((List.range n).map fun j => sg (e j))
  rw [List.map_map] at h
  exact h
theorem flat_signs (n : Nat) : (List.replicate (n : Int).toNat [V.str (Str.ofString "-")]).flatten = signs n fun _ => false := by
  have e : (n : Int).toNat = n := by omega
  rw [e]
  have h : ∀ k : Nat, (List.replicate k [V.str (Str.ofString "-")]).flatten = List.replicate k (V.str (Str.ofString "-")) := fun k => by
    induction k with
    | zero => rfl
    | succ k ih => rw [List.replicate_succ, List.flatten_cons, ih, List.replicate_succ] <;> rfl
  rw [h]
  unfold signs
  have h2 : ∀ l : List Nat, l.map (fun _ => V.str (⟨#[sg false]⟩ : Str)) = List.replicate l.length (V.str (Str.ofString "-")) := fun l => by
    induction l with
    | nil => rfl
    | cons c l ih => rw [List.map_cons, ih, List.length_cons, List.replicate_succ] <;> rfl
  rw [h2, List.length_range]
theorem ixN_at {n j : Nat} (hj : j < n) : ixN n (j : Int) = some j := by
  unfold ixN
  rw [if_pos (by omega), if_pos (by omega)]
  simp
/-- a statement, then the rest from what holds after it -/
def tCut (R : L2.St → Hp → Prop) (t u : TS) : TS := fun D σ H => t { D with nx := R } σ H ∧ ∀ σ' H', R σ' H' → u D σ' H'
theorem pss_cut {X : Cx} {st : Stmt} {rest : List Stmt} {t u : TS} (R : L2.St → Hp → Prop) (h1 : PS X st t) (h2 : PSs X rest u) : PSs X (st :: rest) (tCut R t u) := by
  refine ⟨fun pins s σ H D I h => ?_⟩
  refine wpAny_execs_cons (thn (h1.run pins s σ H { D with nx := R } I h.1) fun f s1 q => ?_)
  cases f with
  | next =>
    obtain ⟨σ', H', I', q⟩ := q
    exact h2.run pins s1 σ' H' D I' (h.2 σ' H' q)
  | ret v => exact q
  | brk => exact q
  | cont => exact q
end AK
set_option Elab.async false
set_option linter.all false
set_option maxRecDepth 100000
set_option maxHeartbeats 2000000
/-! generator expressions whose table's growth is told; all(genexp over a list) -/
namespace AK
open PySem PySem.Spec PyProof.Rows L2
/-- what is added to a table for the place gpos -/
def MoreT (gpos : Pos) (more : Array Value) : Prop := more = #[] ∨ ∃ c' : Addr, more = #[rawInt gpos.line, rawInt gpos.col, .ref c']
/-- the table at P has grown for the place gpos, all else stands -/
def GrowT (P : Addr) (gpos : Pos) (H H' : Hp) : Prop := ∃ ps more : Array Value, H P = some (.tbl ps) ∧ H' P = some (.tbl (ps ++ more)) ∧ TriplesOk (ps ++ more).toList ∧ MoreT gpos more ∧ ∀ b, b ≠ P → H' b = H b
section
variable {X : Cx} {pins : List (Addr × Obj)} {σ : L2.St} {H : Hp} {s : Shared}
/-- the generator g, ready, its table's growth told, ready to hand out n things -/
def ReadyT (X : Cx) (pins : List (Addr × Obj)) (σ : L2.St) (H1 : Hp) (P : Addr) (gpos : Pos) (n : Nat) (F : Nat → Value → Prop) (g : Addr) (s5 : Shared) : Prop :=
  ∃ (fp wr : List Addr) (G : Array GenState → Array GenState → Prop) (St : Nat → Shared → Prop), WalksS X.prog X.w X.A.in4 g fp wr G n F St ∧ St 0 s5 ∧ (∀ b ∈ fp, b < s5.heap.objs.size) ∧ g ∈ fp ∧ (∀ i s9, St i s9 → s9.TypeIs (.ref g) "generator") ∧
    ∀ s', Moved wr G s5 s' → ∃ H2, GrowT P gpos H1 H2 ∧ Inv X pins σ H2 s'
theorem gen_mkT {c P : Addr} {elt iter : Expr} {x : Str} {px gpos : Pos} {scope : Scope} {k : Nat} {Q' : Value → Shared → Prop}
    (hr : Room k X.A) (TB : GxR.TabB X.base X.mg c P) (hcode : X.env.code = .ref c) (S : GxR.GenS X.env scope x) (hs : ∀ v, genFold iter X.env v = pure v) (hc : X.calm = true) (hok : X.Ok)
    (h : wpAny (model X.prog X.w) X.A (eval iter X.env) (fun xv s1 => wpAny (model X.prog X.w) X.A (pyIter xv) (fun it s2 => ∃ (s0 : Shared) (H1 : Hp) (n : Nat) (Pf F : Nat → Value → Prop), Inv X pins σ H1 s0 ∧ GxR.TabG H1 P ∧ SrcAt X P s0 s2 it n Pf ∧
      (∀ (cenv : Env) (A' : Around) (E' : Value → Shared → Prop) (i : Nat) (v : Value) (s3 : Shared) (m : Str → Option Value), EltAt X P s0 scope cenv A' s3 → Pf i v → s3.heap.Ns cenv.locals m → m x = some v →
        wpAny (model X.prog X.w) A' (eval elt cenv) (fun y s4 => F i y ∧ Keeps s3 s4) E' s3) ∧
      ∀ g s5, ReadyT X pins σ H1 P gpos n F g s5 → Q' (.ref g) s5) X.xe s1) X.xe s) :
    wpAny (model X.prog X.w) X.A (eval (.GeneratorExp elt [⟨.Name x px, iter, [], 0⟩] scope gpos) X.env) Q' X.xe s := by
  refine wpAny_GeneratorExp_walksQD (hok.hd hc) S.co (closure_ok S.free) S.cell S.dot S.loc S.kind (by have := hr.dp; omega) ?_ hs
  refine thn h fun xv s1 h1 => thn h1 fun it s2 h2 => ?_
  obtain ⟨s0, H1, n, Pf, F, I1, ⟨ps, hP, ht⟩, ⟨Ia, fp, wr, St0, rfl, W, hst, hfp, hwr, ⟨hh2, tk2, es2⟩, kp2, szs⟩, hel, hq⟩ := h2
  have hPs : s0.heap.get? P = some { cls := .none, data := .fields ps } := I1.hok P _ hP
  have hP2 := kp2 _ _ hPs
  have cd : PySem.W.CodeHd s2.heap c P := TB.code.keeps fun b u e => kp2 b u (I1.bk b u e)
  have lim2 : s2.heap.NoLimit := I1.nolimit.keeps kp2
  have nP : ∀ b, s2.heap.objs.size ≤ b → b ≠ P := fun b hb z => by
    have := Heap.lt_size hP2
    rw [← z] at this
    exact absurd (Nat.lt_of_lt_of_le this hb) (Nat.lt_irrefl _)
  have hg2 : AllBare s2.gens := by rw [es2]; exact I1.bare
  have eg2 : s2.gens = s0.gens := by rw [es2]
  have eo2 : s2.os = s0.os := by rw [es2]
  have cont : ∀ (code : Value) (h3 : Heap) (tk : Nat) (ps' : Array Value), Heap.ExtBut P s2.heap h3 → s2.heap.objs.size ≤ h3.objs.size → h3.get? P = some { cls := .none, data := .fields ps' } → (∃ more, ps' = ps ++ more ∧ MoreT gpos more) → TriplesOk ps'.toList →
      wpAny (model X.prog X.w) X.A (builtinsFor X.env.globals X.env.builtins) (fun bi s₄ =>
        ∃ Ib fp' wr' n₀ Pf' St₀ pz F', Value.ref Ia = .ref Ib ∧ (∀ A' : Around, A'.handled = none → Walks X.prog X.w A' Ib fp' wr' n₀ Pf' St₀) ∧ St₀ 0 s₄.heap ∧ (∀ b ∈ fp', b < s₄.heap.objs.size) ∧ s₄.heap.NoLimit ∧ cStatics ∉ wr' ∧
          (∀ href : Heap, (∀ b o, s₄.heap.get? b = some o → href.get? b = some o) →
            QuietGenD X.prog X.w (genEnv scope (cloFrom X.env.cells scope.names []) s₄.heap.objs.size code bi X.env) x [] elt (List.range s₄.heap.objs.size) wr' Pf' pz F' href (X.A.depth + 1) (X.A.units + 8)) ∧
          (∀ a h₅ tk gs, gs.bare = true → s₄.heap.objs.size < a → h₅.objs.size = a + 1 → (∀ b o, s₄.heap.get? b = some o → h₅.get? b = some o) →
            WalksS X.prog X.w X.A.in4 a (a :: s₄.heap.objs.size :: List.range s₄.heap.objs.size) (s₄.heap.objs.size :: wr') (GenOnlyQ s₄.gens.size) (passing pz n₀ 0).length
              (fun j y => ∃ i, (passing pz n₀ 0)[j]? = some i ∧ F' i y) (GenAt X.prog X.w X.A.in4 a s₄.gens.size s₄.heap.objs.size (List.range s₄.heap.objs.size) wr' pz n₀ F') →
            GenAt X.prog X.w X.A.in4 a s₄.gens.size s₄.heap.objs.size (List.range s₄.heap.objs.size) wr' pz n₀ F' 0 { s₄ with gens := s₄.gens.push gs, toks := tk, heap := h₅ } →
            Q' (.ref a) { s₄ with gens := s₄.gens.push gs, toks := tk, heap := h₅ })) X.xe { s2 with heap := h3, toks := tk } := by
    intro code h3 tk ps' hx hsz hP3 hmore ht3
    obtain ⟨bm, ob, e1, e2, e3, e4, e5, e6, e7, e8⟩ := TB.bm
    have keep3 : ∀ b u, b ≠ P → s0.heap.get? b = some u → h3.get? b = some u := fun b u hb e => hx b u hb (kp2 b u e)
    have hcP : cStatics ≠ P := fun e => by
      obtain ⟨_, hns, _⟩ := lim2
      obtain ⟨o', es, ep, ho, hd, _⟩ := hns
      rw [e, hP2] at ho
      cases ho
      cases hd
    have hcl : cStatics < s0.heap.objs.size := let ⟨_, hns, _⟩ := I1.nolimit; hns.lt
    refine wpAny_builtinsFor (m := X.mg) (by rw [hok.glob]; exact (hok.mod.glob.keeps fun b u e => kp2 b u (I1.bk b u e)).extBut hx TB.gP) e1 e2 (keep3 _ _ e4 (I1.bk _ _ e5)) e6 e7 e8 ?_
    refine ⟨Ia, fp, wr, n, Pf, St0, (fun _ => true), F, rfl, W, ?_, fun b hb => Nat.lt_of_lt_of_le (hfp b hb).1 hsz, lim2.extBut hx hcP, fun z => absurd (Nat.lt_of_lt_of_le hcl (hwr _ z)) (Nat.lt_irrefl _), ?_, ?_⟩
    · exact (W X.A (hok.hd hc)).frame 0 _ _ hst fun b hb o e => hx b o (hfp b hb).2 e
    · intro href hhref
      have old : ∀ (s4 : Shared), (∀ b ∈ List.range h3.objs.size, b ∉ wr → ∀ o, href.get? b = some o → s4.heap.get? b = some o) → ∀ b o, b ≠ P → s0.heap.get? b = some o → s4.heap.get? b = some o := fun s4 hk b o hb e => by
        have hl := Heap.lt_size e
        refine hk b (List.mem_range.mpr (Nat.lt_of_lt_of_le hl (Nat.le_trans szs hsz))) (fun z => absurd (Nat.lt_of_lt_of_le hl (hwr b z)) (Nat.lt_irrefl _)) o (hhref b o (keep3 b o hb e))
      refine ⟨fun A' E' i v s4 m4 hA hD hU hPv hn hm hk => ?_, fun A' E' i v s4 m4 hA hD hU hPv hp hn hm hk => ?_⟩
      · simp only [List.forIn_nil]
        exact wpAny_pure ⟨rfl, GxR.keeps_refl _⟩
      · exact hel _ A' E' i v s4 m4 ⟨rfl, rfl, rfl, hA, hD, hU, old s4 hk⟩ hPv hn hm
    · intro g h5 tk5 gs hgb hag hsz5 hk5 W5 hgat
      simp only [GxR.passing_true, List.length_range] at W5
      have imp : ∀ j y, (∃ i, (List.range n)[j]? = some i ∧ F i y) → F j y := fun j y ⟨i, hij, hF⟩ => by
        obtain ⟨hj, ej⟩ := List.getElem?_eq_some_iff.mp hij
        rw [List.getElem_range] at ej
        subst ej
        exact hF
      refine hq g _ ⟨_, _, _, _, W5.imp imp, hgat, ?_, List.mem_cons_self, fun i s9 h9 => ?_, fun s' hm => ?_⟩
      · intro b hb
        show b < h5.objs.size
        have e5 : h5.objs.size = g + 1 := hsz5
        have h8 : h3.objs.size < g := hag
        rw [e5]
        rcases List.mem_cons.mp hb with z | z
        · rw [z]
          exact Nat.lt_succ_self g
        rcases List.mem_cons.mp z with z | z
        · rw [z]
          exact Nat.lt_succ_of_lt h8
        · exact Nat.lt_succ_of_lt (Nat.lt_trans (List.mem_range.mp z) h8)
      · obtain ⟨hg9, _⟩ := h9
        exact hg9.typeIs
      · obtain ⟨more, em, hmt⟩ := hmore
        have nwr : ∀ b u, s0.heap.get? b = some u → b ∉ h3.objs.size :: wr := fun b u e hb => by
          have hl := Heap.lt_size e
          rcases List.mem_cons.mp hb with z | z
          · rw [z] at hl
            exact absurd (Nat.lt_of_lt_of_le hl (Nat.le_trans szs hsz)) (Nat.lt_irrefl _)
          · exact absurd (Nat.lt_of_lt_of_le hl (hwr b z)) (Nat.lt_irrefl _)
        have hbare : AllBare s'.gens := AllBare.movedS (hg2.push hgb) hm
        have J := GxR.inv_tab (more := more) (h' := s'.heap) (g' := s'.gens) (d' := s'.drawn) (t' := s'.toks) I1 hP (fun b u hb e => hm.heap b u (nwr b u e) (hk5 b u (keep3 b u hb e)))
          (by rw [← em]; exact hm.heap P _ (nwr P _ hPs) (hk5 P _ hP3)) hbare
        have eos : s'.os = s0.os := hm.os.trans eo2
        rw [GxR.sh_eta s0 s' eos] at J
        refine ⟨upd H1 P (.tbl (ps ++ more)), ⟨ps, more, hP, upd_same, by rw [← em]; exact ht3, hmt, fun b hb => upd_ne hb⟩, J⟩
  refine ⟨lim2, ?_⟩
  cases hf : codeAmong gpos ps.toList with
  | none =>
    refine wpAny_genexprCodeX hcode (cd.code hP2 ht) (cd.tab hP2) hf fun c' h' tk hx hge hlt hco' _ htab' _ => ?_
    obtain ⟨o1, vs, f1, tf, fl, tg, inF, tx, tt, op, _, _, _, _, _, _, _, _, _, htr, _⟩ := hco'
    exact cont _ h' tk _ hx (Nat.le_trans hge (Nat.le_of_lt hlt)) htab'.2 ⟨_, rfl, .inr ⟨_, rfl⟩⟩ htr
  | some cv =>
    refine wpAny_genexprCode_hit hcode (cd.code hP2 ht) hf ?_
    exact cont cv s2.heap s2.toks ps (Heap.ExtBut.refl _ _) (Nat.le_refl _) hP2 ⟨#[], by simp, .inl rfl⟩ ht
end
end AK
set_option Elab.async false
set_option linter.all false
set_option maxRecDepth 100000
set_option maxHeartbeats 2000000
/-! all(genexp over a list of ints), the table's growth told -/
namespace AK
open PySem PySem.Spec PyProof.Rows L2
section
variable {X : Cx} {pins : List (Addr × Obj)} {σ : L2.St} {H : Hp} {s : Shared}
theorem all_getD (ws : List Int) (f : Int → Bool) : ((List.range ws.length).all fun i => match ws[i]? with | some j => f j | none => false) = ws.all f := by
  rw [Bool.eq_iff_iff, List.all_eq_true, List.all_eq_true]
  constructor
  · intro h b hb
    obtain ⟨i, hi, e⟩ := List.getElem_of_mem hb
    have q := h i (List.mem_range.mpr hi)
    rw [List.getElem?_eq_getElem hi, e] at q
    exact q
  · intro h i hi
    have hi' := List.mem_range.mp hi
    rw [List.getElem?_eq_getElem hi']
    exact h _ (List.getElem_mem hi')
/-- the element: of an int of ws the truth f, all objects stand; H1: what is held ahead -/
def ElW (X : Cx) (P : Addr) (scope : Scope) (x : Str) (elt : Expr) (σ : L2.St) (H1 : Hp) (ws : List Int) (f : Int → Bool) : Prop :=
  ∀ (pins : List (Addr × Obj)) (s0 : Shared), Inv X pins σ H1 s0 → ∀ (cenv : Env) (A' : Around) (E' : Value → Shared → Prop) (z : Int) (u : Value) (s3 : Shared) (m : Str → Option Value), EltAt X P s0 scope cenv A' s3 → z ∈ ws → RelV (.int z) u → s3.heap.Ns cenv.locals m → m x = some u →
    wpAny (model X.prog X.w) A' (eval elt cenv) (fun y s4 => y = .bool (f z) ∧ Keeps s3 s4) E' s3
/-- all(elt for x in a list of ints) -/
def tAllT (X : Cx) (P : Addr) (gpos : Pos) (scope : Scope) (x : Str) (elt : Expr) (te : TE) : TE := fun σ H Q => te σ H fun u H2 => ∃ (yl : Addr) (ws : List Int) (f : Int → Bool), u = .ref yl ∧ SqL X.K H2 yl (ws.map V.int) ∧ GxR.TabG H2 P ∧
  ElW X P scope x elt σ H2 ws f ∧ ∀ H3, GrowT P gpos H2 H3 → Q (.bl (ws.all f)) H3
theorem pe_allT {c P : Addr} {elt iter : Expr} {x : Str} {px gpos p pos : Pos} {scope : Scope} {k : Nat} {te : TE} (hr : Room k X.A) (TB : GxR.TabB X.base X.mg c P) (hcode : X.env.code = .ref c) (S : GxR.GenS X.env scope x) (hi : PE X iter te)
    (hs : ∀ v, genFold iter X.env v = pure v) (hc : X.calm = true) (hg : Gl X "all") (hm : X.mg "all" = none) (hb : bootBuiltins "all" = some (.builtin "all") := by decide +kernel)
    (he : starEach [.GeneratorExp elt [⟨.Name x px, iter, [], 0⟩] scope gpos] X.env = (false, eval (.GeneratorExp elt [⟨.Name x px, iter, [], 0⟩] scope gpos) X.env) :: starEach [] X.env := by rfl) :
    PE X (.Call (.Name "all" p) [.GeneratorExp elt [⟨.Name x px, iter, [], 0⟩] scope gpos] [] pos) (tAllT X P gpos scope x elt te) := by
  refine ⟨fun pins s σ H Q I h => ?_⟩
  refine wpAny_Call_Name_kw (ld_blt I hg hm hb ?_)
  refine PyProof.Rows.callWith_builtin1 ?_ he rfl
  rw [he]
  show wpAny _ _ (spliced ((false, eval (.GeneratorExp elt [⟨.Name x px, iter, [], 0⟩] scope gpos) X.env) :: backTo pos (starEach [] X.env))) _ _ s
  refine Calls.spliced_cons (gen_mkT (σ := σ) (pins := pins) hr TB hcode S hs hc I.ok (thn (hi.run pins s σ H _ I h) fun xv s1 ⟨v, H1, I1, r1, q1⟩ => ?_))
  obtain ⟨yl, ws, f, rfl, hyl, hT, hel, hq⟩ := q1
  obtain rfl : xv = Value.ref yl := r1
  obtain ⟨its, rv, hl, hz⟩ := I1.list hyl
  obtain ⟨ps, hP, ht⟩ := id hT
  have hlen : its.length = ws.length := by rw [← rv.length, List.length_map]
  refine wpAny_pyIter_list hl.isList ⟨s1, H1, its.length, _, fun i y => y = .bool (match ws[i]? with | some j => f j | none => false), I1, hT, src_lst I1 (by rw [hP]; exact fun z => nomatch z) ⟨ps, hP⟩ hl.isList, fun cenv A' E' i v s3 m ea hv hn hm => ?_, fun g s5 hG => ?_⟩
  · have hi2 : i < ws.length := by rw [← hlen]; exact (List.getElem?_eq_some_iff.mp hv).1
    have hb2 : (ws.map V.int)[i]? = some (V.int ws[i]) := by rw [List.getElem?_map, List.getElem?_eq_getElem hi2] <;> rfl
    obtain ⟨u, hu, ru⟩ := rv.get hb2
    rw [hv] at hu
    cases hu
    refine wpAny_mono (hel pins s1 I1 cenv A' E' ws[i] v s3 m ea (List.getElem_mem hi2) ru hn hm) (fun y s4 r => ⟨?_, r.2⟩) fun _ _ e => e
    have e : y = Value.bool (f ws[i]) := r.1
    dsimp only
    rw [List.getElem?_eq_getElem hi2]
    exact e
  · refine Calls.spliced_nil ?_
    obtain ⟨fp, wr, G, St, W, hst, hfp, hgf, hTy, hinv⟩ := hG
    refine call_all_walkS (W.in4_1.self 0 s5 _ _ hst ⟨g, fp, wr, G, its.length, _, St, fun i => (match ws[i]? with | some j => f j | none => false), rfl, W.in4_1, hst, ?_, fun s' hm => ?_⟩)
    · intro i v sj Qj Ej hv hQj
      subst hv
      exact wpAny_truthy_bool hQj
    · obtain ⟨H2, hTb, I2⟩ := hinv s' hm
      rw [hlen, all_getD]
      exact ⟨.bl (ws.all f), H2, I2, rfl, hq H2 hTb⟩
end
end AK
set_option Elab.async false
set_option linter.all false
set_option maxRecDepth 100000
set_option maxHeartbeats 4000000
/-! sorted(range(n), key=lambda x: xs[x]) in a def whose table also holds a generator expression's code -/
namespace AK
open PySem PySem.Spec PyProof.Rows L2
/-- what the table at P tells of the place pos is a code object of the name q -/
def TabL (H : Hp) (P : Addr) (pos : Pos) (q : Str) : Prop := ∃ ps : Array Value, H P = some (.tbl ps) ∧ TriplesOk ps.toList ∧ ∀ cv, codeAmong pos ps.toList = some cv → ∃ c, cv = .ref c ∧ H c = some (LamX.CodeO c q)
theorem TabL.nil {H : Hp} {P : Addr} {pos : Pos} {q : Str} (h : H P = some (.tbl #[])) : TabL H P pos q := ⟨#[], h, True.intro, fun cv hc => by
  have z : codeAmong pos [] = some cv := hc
  simp [codeAmong] at z⟩
theorem TabL.tab {H : Hp} {P : Addr} {pos : Pos} {q : Str} (t : TabL H P pos q) : GxR.TabG H P := let ⟨ps, h, ht, _⟩ := t; ⟨ps, h, ht⟩
theorem TabL.keep {H H' : Hp} {P : Addr} {pos : Pos} {q : Str} (t : TabL H P pos q) (hP : H' P = H P) (e : ∀ b o, b ≠ P → (∀ ps, o ≠ .tbl ps) → H b = some o → H' b = some o) : TabL H' P pos q := by
  obtain ⟨ps, h1, h2, h3⟩ := t
  refine ⟨ps, hP.trans h1, h2, fun cv hc => ?_⟩
  obtain ⟨c, e1, e2⟩ := h3 cv hc
  exact ⟨c, e1, e c _ (fun z => by rw [z, h1] at e2; exact LamX.codeO_ne ps (Option.some.inj e2).symm) LamX.codeO_ne e2⟩
theorem among_other {pos p' : Pos} {c : Value} (hne : (pos.line == p'.line && pos.col == p'.col) = false) (l : List Value) (h : TriplesOk l) : codeAmong p' (l ++ [rawInt pos.line, rawInt pos.col, c]) = codeAmong p' l := by
  fun_induction TriplesOk l with
  | case1 =>
    simp only [List.nil_append, rawInt, codeAmong]
    split
    · rename_i z
      have z' : (pos.line == p'.line && pos.col == p'.col) = true := by
        simp only [Bool.and_eq_true, beq_iff_eq] at z ⊢
        exact ⟨by omega, by omega⟩
      rw [hne] at z'; cases z'
    · rfl
  | case2 a t b u x rest ih =>
    simp only [List.cons_append, codeAmong]
    split
    · rfl
    · exact ih h
  | case3 l h1 h2 => exact h.elim
/-- another place's code is added -/
theorem TabL.grow {H H' : Hp} {P : Addr} {pos gpos : Pos} {q : Str} (t : TabL H P pos q) (g : GrowT P gpos H H') (hne : (gpos.line == pos.line && gpos.col == pos.col) = false) : TabL H' P pos q := by
  obtain ⟨ps, h1, h2, h3⟩ := t
  obtain ⟨ps', more, g1, g2, g3, gm, g4⟩ := g
  rw [h1] at g1
  cases g1
  refine ⟨ps ++ more, g2, g3, fun cv hc => ?_⟩
  have hc' : codeAmong pos ps.toList = some cv := by
    rcases gm with rfl | ⟨c', rfl⟩
    · simpa using hc
    · rw [Array.toList_append] at hc
      rw [← among_other (c := .ref c') hne ps.toList h2]
      exact hc
  obtain ⟨c, e1, e2⟩ := h3 cv hc'
  exact ⟨c, e1, by rw [g4 c (fun z => by rw [z, h1] at e2; exact LamX.codeO_ne ps (Option.some.inj e2).symm)]; exact e2⟩
section
variable {X : Cx} {pins : List (Addr × Obj)} {σ : L2.St} {H : Hp} {s : Shared}
/-- all but the table at P stands -/
def ButP (P : Addr) (H H' : Hp) : Prop := ∀ b o, b ≠ P → H b = some o → H' b = some o
/-- the lambda is made -/
theorem lam_makeL {c P : Addr} {params : Arguments} {body : Expr} {scope : Scope} {pos : Pos} {E : Value → Shared → Prop} {Q : Value → Shared → Prop} (I : Inv X pins σ H s) (TB : LamX.TabB X.base X.mg c P) (hcode : X.env.code = .ref c)
    (hT : TabL H P pos (X.env.qual ++ "<lambda>")) (hdef : defaultsOf params X.env = ([], [])) (hfree : ∀ y ∈ scope.names, y.2 = .free → ∃ c, X.env.cells.lookup y.1 = some c)
    (h : ∀ (f c' : Addr) (pm ctv : Value) (H1 : Hp) (s' : Shared), Inv X pins σ H1 s' → ButP P H H1 → TabL H1 P pos (X.env.qual ++ "<lambda>") → (∀ b o, b ≠ P → s.heap.get? b = some o → s'.heap.get? b = some o) → s.heap.objs.size ≤ s'.heap.objs.size →
      s'.heap.get? f = some (PySem.W.kla_obj "<lambda>" (X.env.qual ++ "<lambda>") params body scope (cloFrom X.env.cells scope.names []) pm c' ctv) → f ≠ X.env.locals → H1 c' = some (LamX.CodeO c' (X.env.qual ++ "<lambda>")) → Q (.ref f) s') :
    wpAny (model X.prog X.w) X.A (eval (.Lambda params body scope pos) X.env) Q E s := by
  obtain ⟨ps, hP, ht, ha⟩ := id hT
  refine PySem.W.kla_eval hdef ?_
  have bP : s.heap.BuiltinsAt X.mg P := TB.bm.keeps I.bk
  have hP' : s.heap.get? P = some { cls := .none, data := .fields ps } := I.hok P _ hP
  obtain ⟨m0, hns0, _⟩ := I.loc
  have hL : X.env.locals < s.heap.objs.size := hns0.lt
  cases hc : codeAmong pos ps.toList with
  | none =>
    refine PySem.W.kla_makeFunction (mg := X.mg) (c := c) (P := P) (ps := ps) (closure_ok hfree) I.ok.glob (I.mod.glob.keeps I.bk) hcode (TB.code.keeps I.bk) hP' ht hc TB.gP bP fun c' ctv h' tk hx hge hlt hrec htb => ?_
    obtain ⟨c2, oc, vs, t, e2, hoc, hd, hv⟩ := hrec
    cases e2
    have hsz : s.heap.objs.size ≤ h'.objs.size := Nat.le_trans hge (Nat.le_of_lt hlt)
    have nC : H c' = none := I.hok.fresh hge
    have I1 := LamX.inv_table (t' := tk) (more := #[rawInt pos.line, rawInt pos.col, .ref c']) (h' := h'.push (PySem.W.kla_obj "<lambda>" (X.env.qual ++ "<lambda>") params body scope (cloFrom X.env.cells scope.names []) ((X.mg "__name__").getD .none) c' ctv)) I hP
      (fun b o hb e => Heap.get?_push_of_some _ (hx b o hb e)) (Heap.get?_push_of_some _ htb) hge ⟨oc, vs, t, Heap.get?_push_of_some _ hoc, hd, hv⟩
    have hE : ButP P H (upd (upd H P (.tbl (ps ++ #[rawInt pos.line, rawInt pos.col, .ref c']))) c' (LamX.CodeO c' (X.env.qual ++ "<lambda>"))) := fun b o hb e => by
      rw [upd_ne (ne_of_none e nC), upd_ne hb]
      exact e
    have eL : (ps ++ #[rawInt pos.line, rawInt pos.col, .ref c']).toList = ps.toList ++ [rawInt pos.line, rawInt pos.col, .ref c'] := by simp
    refine h h'.objs.size c' ((X.mg "__name__").getD .none) ctv _ _ I1 hE ⟨_, by rw [upd_ne (ne_of_none hP nC), upd_same], by rw [eL]; exact PySem.TriplesOk_snoc _ _ _ _ ht, fun cv hcv => ?_⟩ (fun b o hb e => Heap.get?_push_of_some _ (hx b o hb e)) ?_ (Heap.get?_push_size _ rfl) (Nat.ne_of_gt (Nat.lt_of_lt_of_le hL hsz)) upd_same
    · rw [eL] at hcv
      rcases LamX.among_app _ ht hcv with z | z
      · obtain ⟨c0, e1, e2⟩ := ha cv z
        exact ⟨c0, e1, hE _ _ (fun z => by rw [z, hP] at e2; exact LamX.codeO_ne ps (Option.some.inj e2).symm) e2⟩
      · exact ⟨c', z, upd_same⟩
    · show s.heap.objs.size ≤ (h'.push _).objs.size
      rw [Heap.size_push]; exact Nat.le_succ_of_le hsz
  | some cv =>
    obtain ⟨c', e, hco⟩ := ha cv hc
    subst e
    refine PySem.W.kla_makeFunctionHit (mg := X.mg) (c := c) (P := P) (ps := ps) (closure_ok hfree) I.ok.glob (I.mod.glob.keeps I.bk) hcode (TB.code.keeps I.bk) hP' ht hc bP fun ctv h' tk hx hsz => ?_
    have I1 : Inv X pins σ H { s with heap := h'.push (PySem.W.kla_obj "<lambda>" (X.env.qual ++ "<lambda>") params body scope (cloFrom X.env.cells scope.names []) ((X.mg "__name__").getD .none) c' ctv), toks := tk } := I.kept fun b o e => Heap.get?_push_of_some _ (hx b o e)
    refine h h'.objs.size c' ((X.mg "__name__").getD .none) ctv H _ I1 (fun b o _ e => e) hT (fun b o _ e => Heap.get?_push_of_some _ (hx b o e)) ?_ (Heap.get?_push_size _ rfl) (Nat.ne_of_gt (Nat.lt_of_lt_of_le hL hsz)) hco
    show s.heap.objs.size ≤ (h'.push _).objs.size
    rw [Heap.size_push]; exact Nat.le_succ_of_le hsz
end
/-! ### the lambda called: xs[x] -/
section
variable {prog : Program} {w : World} {A : Around} {E : Value → Shared → Prop} {s : Shared}
/-- the lambda's names: its one parameter x, xs captured -/
structure LamK (scope : Scope) (x xs : Str) : Prop where
  kind : scope.kind = .function
  co : scope.isCoroutine = false
  gen : scope.isGenerator = false
  nocell : ∀ y ∈ scope.names, y.2 ≠ .cell
  par : scope.names.lookup x = some .local
  cap : scope.names.lookup xs = some .free
theorem lam_callK {f c' cc l : Addr} {q x xs : Str} {params : Arguments} {scope : Scope} {cl : List (Str × Addr)} {pm ctv : Value} {p1 p2 p3 : Pos} {items : Array Value} {i : Nat} {ti : Tok} {k : Int} {tk : Tok}
    (L : LamK scope x xs) (hf : s.heap.get? f = some (PySem.W.kla_obj "<lambda>" q params (.Subscript (.Name xs p1) (.Name x p2) p3) scope cl pm c' ctv)) (hcd : s.heap.CodeRec (.ref c') q) (hlim : s.heap.NoLimit) (hroom : A.depth < recursionLimit)
    (hbind : bindArgs (PySem.W.kla_fn "<lambda>" q params (.Subscript (.Name xs p1) (.Name x p2) p3) scope cl pm (.ref c') ctv) ⟨[.int (i : Nat) ti], []⟩ = pure [(x, .int (i : Nat) ti)])
    (hcl : cl.lookup xs = some cc) (hcc : s.heap.IsCell cc (some (.ref l))) (hl : s.heap.IsList l items) (hi : items[i]? = some (.int k tk)) (hi2 : i < 2 ^ 62)
    (hd : (x == ("__debug__" : Str)) = false := by decide) (hd2 : (xs == ("__debug__" : Str)) = false := by decide) (hcd2 : (xs == ("__classdict__" : Str)) = false := by decide) :
    wpAny (model prog w) A (call (.ref f) [.int (i : Nat) ti]) (fun u s' => (∃ t, u = .int k t) ∧ Keeps s s') E s := by
  refine wpAny_call (PySem.W.kla_callFunE hroom hf rfl L.co L.gen rfl hcd ?_)
  rw [hbind]
  refine wpAny_pure (wpAny_newFunctionEnv L.nocell (fun y hy => by rw [List.mem_singleton.mp hy]; exact L.par) (fun h₁ hns hsb => ⟨hlim.fresh _ hsb, ?_⟩) L.kind)
  have kp : ∀ b o, s.heap.get? b = some o → h₁.get? b = some o := fun b o e => hsb.extBut b o (Nat.ne_of_lt (Heap.lt_size e)) (Heap.get?_push_of_some _ e)
  refine PySem.W.kla_codeExpr (Subscript_ ?_)
  refine wpAny_Name (wpAny_loadName_free L.kind (show scope.names.lookup xs = some .free from L.cap) (show cl.lookup xs = some cc from hcl) (let ⟨o, ho, hd⟩ := hcc; ⟨o, kp _ _ ho, hd⟩) ?_ hcd2) hd2
  refine wpAny_Name (wpAny_loadName_local L.kind (show scope.names.lookup x = some .local from L.par) hns (v := .int (i : Nat) ti) (by simp [List.lookup]) ?_) hd
  have hl1 : h₁.IsList l items := let ⟨o, e, r⟩ := hl; ⟨o, kp _ _ e, r⟩
  refine item_listR (l := l) (items := items) (x := .int k tk) hl1 (by omega) (by omega) (by simpa using hi) ⟨⟨tk, rfl⟩, h₁, _, rfl, kp⟩ (by with_unfolding_all rfl)
end
end AK
set_option Elab.async false
set_option linter.all false
set_option maxRecDepth 100000
set_option maxHeartbeats 4000000
/-! sorted(range(n), key=lambda x: xs[x]) -/
namespace AK
open PySem PySem.Spec PyProof.Rows L2
/-- what is beyond the base and not the frame -/
def beyond (base h : Heap) (L : Addr) : List (Addr × Obj) := (List.range h.objs.size).filterMap fun b => if b = L ∨ (base.get? b).isSome = true then none else (h.get? b).map fun o => (b, o)
theorem mem_beyond {base h : Heap} {L b : Addr} {o : Obj} : (b, o) ∈ beyond base h L ↔ b ≠ L ∧ base.get? b = none ∧ h.get? b = some o := by
  unfold beyond
  rw [List.mem_filterMap]
  constructor
  · rintro ⟨a, ha, e⟩
    split at e
    · cases e
    · rename_i hn
      rw [Option.map_eq_some_iff] at e
      obtain ⟨o', e1, e2⟩ := e
      cases e2
      refine ⟨fun z => hn (.inl z), ?_, e1⟩
      cases q : base.get? b with
      | none => rfl
      | some u => exact absurd (.inr (by rw [q]; rfl)) hn
  · rintro ⟨h1, h2, h3⟩
    refine ⟨b, List.mem_range.mpr (Heap.lt_size h3), ?_⟩
    rw [if_neg (by rintro (z | z); exact h1 z; rw [h2] at z; cases z), h3]
    rfl
section
variable {prog : Program} {w : World} {A : Around} {E : Value → Shared → Prop} {s : Shared} {h₀ : Heap} {L r : Addr} {m : Str → Option Value} {news : List (Addr × Obj)} {a b c : Int} {t u v : Tok} {n : Nat} {Q : Value → Shared → Prop}
theorem sorted_rgK {kz : List Int} {f : Addr} (hh : A.handled = none) (hr : IsRange s.heap r a b c t u v) (hsmall : Builtin.Range.small a b c = true) (hn : Builtin.Range.rangeSize a b c = n) (hlen : n ≤ 200) (F : Fr h₀ L s.heap m) (N : News h₀ L s.heap news) (hk : kz.length = n)
    (turn : ∀ (i : Nat) (z : Value) (k : Int), (∃ t, z = .int (a + i * c) t) → kz[i]? = some k → ∀ (h : Heap) (tk : Nat), Fr h₀ L h m → News h₀ L h news → wpAny (model prog w) A.in1.in1 (call (.ref f) [z]) (fun x s' => (∃ t, x = .int k t) ∧ Keeps { s with heap := h, toks := tk } s') (fun _ _ => False) { s with heap := h, toks := tk })
    (h : ∀ D h' tk out e vs, (∃ h1 : Heap, (∀ b o, s.heap.get? b = some o → h1.get? b = some o) ∧ h1.objs.size ≤ D) → Fr h₀ L h' m → News h₀ L h' ((D, seqObj "list" out e) :: news) → ItemsOf (fun i v => ∃ t, v = .int (a + i * c) t) vs n → KskOut false kz vs.toList out.toList → Q (.ref D) { s with heap := h', toks := tk }) :
    wpAny (model prog w) A (call (.builtin "sorted") [.ref r] [(Str.ofString "key", .ref f)]) Q E s := by
  refine call_function_entry_kw kind_sorted plain_sorted entry_sorted (ksk_s1 _ _) ?_
  unfold Builtin.«sorted»
  refine wpAny_bind (m := checkCount "sorted" 1 1 _) (wpAny_pure ?_)
  refine wpAny_bind (collect_range (A := A.in1) hh hr hsmall hn (by omega) fun h1 tk1 acc kp1 hacc => ?_)
  have hz : acc.toList.length ≤ sizeLine := by rw [Array.length_toList, hacc.1, sizeLine_eq]; omega
  refine wpAny_bind (wpAny_newList ?_ hz)
  have F1 := F.kept kp1
  have N1 := N.grown kp1
  refine wpAny_bind (wpAny_holding (wpAny_call_entry_kw slot_list_sort ⟨_, Heap.get?_push_size _ rfl, rfl⟩ entry_list_sort ?_ (ksk_l1 _ _)))
  show wpAny (model prog w) A.in1.in1 (Builtin.«list.sort» ⟨[.ref h1.objs.size], [(Str.ofString "key", .ref f)]⟩) _ _ _
  rw [ksk_t1]
  have hL : L < h1.objs.size := F1.ns.lt
  refine ksk_sortAny (kz := kz) (vs := acc.toList) (s := { s with heap := h1.push (seqObj "list" acc.toList.toArray 0), toks := tk1 }) (F1.push _) (N1.grown fun b o e => Heap.get?_push_of_some _ e) (Heap.get?_push_size _ rfl) (Nat.ne_of_gt hL) (Heap.get?_none_of_le (Nat.le_trans F1.above (Nat.le_of_lt hL)))
    (fun p hp => Nat.ne_of_lt (Heap.lt_size (N1 p hp).1)) (by rw [hk, ← hacc.1, Array.length_toList]) hz (fun i z k hz hkz h2 tk2 own F2 N2 => ?_) fun h' tk out e F' N' k' => ⟨_, rfl, ?_⟩
  · refine wpAny_mono (turn i z k ?_ hkz h2 tk2 F2 fun p hp => N2 p (List.mem_append_left _ hp)) (fun x s' ⟨⟨t', e1⟩, h3, tk3, e2, kp3⟩ => ⟨h3, tk3, t', e2, e1, F2.kept kp3, N2.grown kp3⟩) fun _ _ z => z
    exact hacc.2 i z (by rw [← Array.getElem?_toList]; exact hz)
  · exact wpAny_pure ⟨_, rfl, h _ h' tk out e acc ⟨h1, kp1, Nat.le_refl _⟩ F' N' hacc k'⟩
end
/-- the numbers by their keys -/
theorem out_ord {kz : List Int} {n : Nat} {vs out : Array Value} (hk : kz.length = n) (hv : ItemsOf (fun i v => ∃ t, v = .int (0 + i * 1) t) vs n) (ho : KskOut false kz vs.toList out.toList) :
    ∃ ord : List Nat, ord.Perm (List.range n) ∧ ord.Pairwise (fun x y => kz.getD x 0 ≤ kz.getD y 0) ∧ Vals (ord.map fun i => V.int (i : Nat)) out.toList := by
  obtain ⟨ps, hp, ho, hs⟩ := ho
  have hvl : vs.toList.length = n := by rw [Array.length_toList]; exact hv.1
  have at_ : ∀ i (h : i < (kz.zip vs.toList).length), ∃ t, (kz.zip vs.toList)[i] = (kz.getD i 0, .int (i : Nat) t) := fun i h => by
    have hi : i < kz.length ∧ i < vs.toList.length := by rw [List.length_zip] at h; omega
    obtain ⟨t, e⟩ := hv.2 i (vs.toList[i]'hi.2) (by rw [← Array.getElem?_toList, List.getElem?_eq_getElem hi.2])
    refine ⟨t, ?_⟩
    rw [List.getElem_zip, e, List.getD_eq_getElem?_getD, List.getElem?_eq_getElem hi.1]
    show (kz[i], Value.int (0 + (i : Int) * 1) t) = _
    rw [Int.zero_add, Int.mul_one] <;> rfl
  have mem : ∀ p ∈ ps, p.1 = kz.getD (SrtO.iv p.2).toNat 0 ∧ ∃ t, p.2 = .int ((SrtO.iv p.2).toNat : Nat) t := fun p hp' => by
    obtain ⟨i, hi, e⟩ := List.getElem_of_mem (hp.mem_iff.mp hp')
    obtain ⟨t, e2⟩ := at_ i hi
    rw [e2] at e
    subst e
    exact ⟨rfl, t, rfl⟩
  refine ⟨ps.map fun p => (SrtO.iv p.2).toNat, ?_, ?_, ?_⟩
  · refine (hp.map fun p => (SrtO.iv p.2).toNat).trans ?_
    have e : (kz.zip vs.toList).map (fun p => (SrtO.iv p.2).toNat) = List.range n := by
      refine List.ext_getElem ?_ fun i h1 h2 => ?_
      · rw [List.length_map, List.length_zip, List.length_range, hk, hvl, Nat.min_self]
      · rw [List.getElem_map, List.getElem_range]
        obtain ⟨t, e2⟩ := at_ i (by rw [List.length_map] at h1; exact h1)
        rw [e2] <;> rfl
    rw [e]
  · rw [List.pairwise_map]
    refine hs.imp_of_mem fun {p q} hp' hq' hr => ?_
    have hr' : p.1 ≤ q.1 := hr
    rw [(mem p hp').1, (mem q hq').1] at hr'
    exact hr'
  · rw [ho]
    clear hs hp ho
    induction ps with
    | nil => exact .nil
    | cons p r ih => exact .cons (mem p (List.mem_cons_self ..)).2 (ih fun q hq => mem q (List.mem_cons_of_mem _ hq))
/-! ### the sort behind a context -/
section
variable {X : Cx} {pins : List (Addr × Obj)} {σ : L2.St} {H : Hp} {s : Shared}
/-- the sorted list is new, all else but the frame's own object stands -/
theorem inv_sorted {D : Addr} {h' : Heap} {tk : Nat} {m : Str → Option Value} {out : Array Value} {e : Nat} {xs : List V} (I : Inv X pins σ H s) (hn : s.heap.Ns X.env.locals m) (hD : ∃ h1 : Heap, (∀ b o, s.heap.get? b = some o → h1.get? b = some o) ∧ h1.objs.size ≤ D)
    (F : Fr X.base X.env.locals h' m) (N : News X.base X.env.locals h' ((D, seqObj "list" out e) :: beyond X.base s.heap X.env.locals)) (hz : xs.length ≤ sizeLine) (rv : Vals xs out.toList) :
    H D = none ∧ Inv X pins σ (upd H D (.lst xs)) { s with heap := h', toks := tk } := by
  obtain ⟨h1, kp1, hD⟩ := hD
  have I1 : Inv X pins σ H { s with heap := h1, toks := s.toks } := I.kept kp1
  have nD : H D = none := I1.hok.fresh hD
  have neD : ∀ b o, s.heap.get? b = some o → b ≠ D := fun b o e z => by
    have := Heap.lt_size (kp1 b o e)
    rw [z] at this
    exact Nat.lt_irrefl _ (Nat.lt_of_lt_of_le this hD)
  have keep : ∀ b o, b ≠ X.env.locals → s.heap.get? b = some o → h'.get? b = some o := fun b o hb e => by
    cases q : X.base.get? b with
    | some u =>
      have e1 := I.bk b u q
      rw [e] at e1
      cases e1
      exact F.keep b o q
    | none => exact (N (b, o) (List.mem_cons_of_mem _ (mem_beyond.mpr ⟨hb, q, e⟩))).1
  refine ⟨nD, I.step (g' := s.gens) (d' := s.drawn) (ch := []) (fun b hb => absurd hb (by simp)) (fun b o h1 _ _ e _ => keep b o h1 e) (fun b o h1 _ _ e _ => ⟨o.slots, keep b o h1 e⟩)
    (fun b o _ e n => by rw [upd_ne (neD b o e)]; exact n) (fun b o _ e => ?_) (fun b ys e => by rw [upd_ne (ne_of_none e nD)]; exact e) (fun b o u e => by rw [upd_ne (ne_of_none e nD)]; exact e) (fun b qs e => ⟨#[], by rw [upd_ne (ne_of_none e nD), e]; simp⟩) (fun m' hn' => ?_) (fun b u e => ?_) I.bare⟩
  · by_cases hb : b = X.env.locals
    · obtain ⟨o', _, _, e1, _⟩ := F.ns
      exact ⟨o', by rw [hb]; exact e1⟩
    · exact ⟨o, keep b o hb e⟩
  · have em : m' = m := by
      obtain ⟨o1, es1, ep1, a1, a2, _, a4⟩ := hn
      obtain ⟨o2, es2, ep2, b1, b2, _, b4⟩ := hn'
      rw [a1] at b1
      cases b1
      rw [a2] at b2
      cases b2
      funext y
      rw [← a4 y, ← b4 y]
    rw [em]
    exact F.ns
  · by_cases hb : b = D
    · rw [hb, upd_same] at e
      cases e
      rw [hb]
      exact ⟨hz, out.toList, e, rv, by rw [Array.toArray_toList]; exact (N _ (List.mem_cons_self ..)).1⟩
    · rw [upd_ne hb] at e
      refine (I.hok b u e).stay (fun d v hd q => keep d v (fun z => ?_) q) (fun d q => by rw [upd_ne (ne_of_none q nD)]; exact q) fun d ys q => by rw [upd_ne (ne_of_none q nD)]; exact q
      have := I.free
      rcases hd with z2 | z2
      · rw [← z, z2, e] at this; cases this
      · rw [← z, z2] at this; cases this
end
end AK
set_option Elab.async false
set_option linter.all false
set_option maxRecDepth 100000
set_option maxHeartbeats 4000000
namespace AK
open PySem PySem.Spec PyProof.Rows L2
section
variable {X : Cx}
/-- sorted(range(n), key=lambda x: xs[x]); slot j: xs -/
def tSortK (X : Cx) (P : Addr) (pos : Pos) (q : Str) (j : Nat) (te : L2.St → Hp → (Int → Int → Hp → Prop) → Prop) : TE := fun σ H Q => te σ H fun a b H1 => ∃ (n : Nat) (l : Addr) (kz : List Int), a = 0 ∧ b = (n : Int) ∧ n ≤ 200 ∧ TabL H1 P pos q ∧ σ[j]? = some (some (.ref l)) ∧ SqL X.K H1 l (kz.map V.int) ∧ kz.length = n ∧
  ∀ (H2 : Hp) (D : Addr) (ord : List Nat), ButP P H1 H2 → TabL H2 P pos q → H1 D = none → H2 D = some (.lst (ord.map fun i => V.int (i : Nat))) → ord.Perm (List.range n) → ord.Pairwise (fun x y => kz.getD x 0 ≤ kz.getD y 0) → Q (.ref D) H2
theorem SqL.but {K : PySem.W.Frag} {P l : Addr} {H H' : Hp} {xs : List V} (b : ButP P H H') (hP : GxR.TabG H P) (h : SqL K H l xs) : SqL K H' l xs := by
  obtain ⟨ps, hP, _⟩ := hP
  rcases h with (e | ⟨o, e⟩) | e
  · exact .inl (.inl (b l _ (fun z => by rw [z, hP] at e; cases e) e))
  · exact .inl (.inr ⟨o, b l _ (fun z => by rw [z, hP] at e; cases e) e⟩)
  · exact .inr e
theorem pe_sortKey {c P : Addr} {e : Expr} {params : Arguments} {scope : Scope} {lpos p pos kpos p1 p2 p3 : Pos} {x xs : Str} {k j : Nat} {te : L2.St → Hp → (Int → Int → Hp → Prop) → Prop}
    (hr : Room k X.A) (TB : GxR.TabB X.base X.mg c P) (hcode : X.env.code = .ref c) (he : PRg X e te) (hc : X.calm = true) (L : LamK scope x xs) (hdef : defaultsOf params X.env = ([], [])) (hfree : ∀ y ∈ scope.names, y.2 = .free → ∃ c, X.env.cells.lookup y.1 = some c)
    (hN : X.N[j]? = some xs) (hk : X.env.scope.names.lookup xs = some .cell) (hclo : ∀ (cells : List (Str × Addr)) (c : Addr), cells.lookup xs = some c → (cloFrom cells scope.names []).lookup xs = some c)
    (hbind : ∀ (q : Str) (cl : List (Str × Addr)) (pm cv ctv v : Value), bindArgs (PySem.W.kla_fn "<lambda>" q params (.Subscript (.Name xs p1) (.Name x p2) p3) scope cl pm cv ctv) ⟨[v], []⟩ = pure [(x, v)])
    (hg : Gl X "sorted") (hm : X.mg "sorted" = none)
    (hd : (x == ("__debug__" : Str)) = false := by decide) (hd2 : (xs == ("__debug__" : Str)) = false := by decide) (hcd2 : (xs == ("__classdict__" : Str)) = false := by decide)
    (na : starEach [e] X.env = (false, eval e X.env) :: starEach [] X.env := by rfl) (he2 : backTo pos (starEach [e] X.env) = (false, eval e X.env) :: backTo pos (starEach [] X.env) := by rfl) (hpl : (backTo pos (starEach [e] X.env)).any (·.1) = false := by rfl) :
    PE X (.Call (.Name "sorted" p) [e] [⟨some "key", .Lambda params (.Subscript (.Name xs p1) (.Name x p2) p3) scope lpos, kpos⟩] pos) (tSortK X P lpos (X.env.qual ++ "<lambda>") j te) := by
  refine ⟨fun pins s σ H Q I h => ?_⟩
  refine wpAny_Call_Name_kw (ld_blt I hg hm (show bootBuiltins "sorted" = some (.builtin "sorted") by decide +kernel) ?_)
  refine PyProof.Rows.callWith_kw (args_cons (thn (he pins s σ H _ I h) fun z s1 ⟨r, a, b, t, u, v, H1, ex, hrg, I1, n, l, kz, ea, eb, hn, hT, hσ, hS, hkz, hq⟩ => args_nil ?_) na) he2 hpl (by rfl) (by rfl)
  subst ex ea eb
  show wpAny _ _ (evalAll ((do let v ← eval (.Lambda params (.Subscript (.Name xs p1) (.Name x p2) p3) scope lpos) X.env; standAt pos; pure v) :: [])) _ _ s1
  refine wpAny_evalAll_cons (wpAny_bind (lam_makeL I1 ⟨TB.code, TB.bm, TB.gP⟩ hcode hT hdef hfree fun f c' pm ctv H2 s2 I2 but hT2 raw ge hf nf hco => wpAny_bind (wpAny_standAt (wpAny_pure (wpAny_evalAll_nil ?_)))))
  show wpAny _ _ (call (.builtin "sorted") [.ref r] [(Str.ofString "key", .ref f)]) _ _ s2
  obtain ⟨ps, hP, _⟩ := hT.tab
  have rP : r ≠ P := fun z => by
    have e1 : s1.heap.get? P = some { cls := .none, data := .fields ps } := I1.hok P _ hP
    have e2 : s1.heap.get? r = some { cls := .type "range", dict := none, data := .fields #[.int 0 t, .int n u, .int 1 v], slots := #[] } := hrg
    rw [z, e1] at e2
    cases e2
  have hr2 : IsRange s2.heap r 0 (n : Int) 1 t u v := raw r _ rP hrg
  have hS2 : SqL X.K H2 l (kz.map V.int) := SqL.but but hT.tab hS
  obtain ⟨its, rv, pl, hz⟩ := I2.list hS2
  obtain ⟨m, hns, hlk⟩ := id I2.loc
  obtain ⟨u1, ru1, lk1⟩ := hlk j xs (.ref l) hN hσ (.inr (.inl hk))
  obtain rfl : u1 = Value.ref l := ru1
  have hkk : X.env.kindOf xs = some .cell := hk
  obtain ⟨cc, hcc, hcell⟩ : ∃ cc, X.env.cells.lookup xs = some cc ∧ s2.heap.IsCell cc (some (.ref l)) := by
    rcases lk1 with ⟨q, _⟩ | ⟨_, c, hc, hcell⟩
    · rw [hkk] at q; cases q
    · exact ⟨c, hc, hcell⟩
  have F : Fr X.base X.env.locals s2.heap m := ⟨hns, I2.bk, Nat.le_trans I.ok.bsz I.ok.above⟩
  have N : News X.base X.env.locals s2.heap (beyond X.base s2.heap X.env.locals) := fun p hp => by
    obtain ⟨h1, h2, h3⟩ := mem_beyond.mp hp
    exact ⟨h3, h1, h2⟩
  obtain ⟨oL, esL, epL, hoL, hdL, _⟩ := id hns
  refine sorted_rgK (A := X.A) (kz := kz) (n := n) (I.ok.hd hc) hr2 (small_one (by omega) (by omega) (by omega) (by omega)) (by rw [rangeSize_nat]; simp) hn F N hkz (fun i z k hz2 hki h tk F' N' => ?_) fun D h' tk out e vs hD F' N' hv ko => ?_
  · obtain ⟨ti, rfl⟩ := hz2
    have ei : (0 + (i : Int) * 1) = (i : Int) := by omega
    rw [ei]
    have keepH : ∀ b o, b ≠ X.env.locals → s2.heap.get? b = some o → h.get? b = some o := fun b o hb e => by
      cases q : X.base.get? b with
      | some u =>
        have e1 := I2.bk b u q
        rw [e] at e1
        cases e1
        exact F'.keep b o q
      | none => exact (N' (b, o) (mem_beyond.mpr ⟨hb, q, e⟩)).1
    have hik : i < kz.length := (List.getElem?_eq_some_iff.mp hki).1
    obtain ⟨w1, ew, rw1⟩ := rv.get (i := i) (x := V.int k) (by rw [List.getElem?_map, hki] <;> rfl)
    obtain ⟨tk1, rfl⟩ : ∃ t, w1 = Value.int k t := rw1
    obtain ⟨⟨oc, vs, tq, hoc, hdc, hvc⟩, _, _⟩ := I2.hok c' _ hco
    have nc' : c' ≠ X.env.locals := fun z => by have := I2.free; rw [← z, hco] at this; cases this
    have ncc : cc ≠ X.env.locals := fun z => by
      obtain ⟨o, ho, hd⟩ := hcell
      rw [z, hoL] at ho
      cases ho
      rw [hdL] at hd; cases hd
    have hll : h.IsList l its.toArray := by
      obtain ⟨o, ho, r1⟩ := id pl.isList
      refine ⟨o, keepH l o (fun z => ?_) ho, r1⟩
      rw [z, hoL] at ho
      cases ho
      obtain ⟨_, _, hd⟩ := r1
      rw [hdL] at hd; cases hd
    exact lam_callK L (keepH f _ nf hf) ⟨c', oc, vs, tq, rfl, keepH c' _ nc' hoc, hdc, hvc⟩ (I.ok.mod.nolimit.keeps F'.keep) hr.depth (hbind _ _ _ _ _ _) (hclo _ _ hcc) (let ⟨o, ho, hd⟩ := hcell; ⟨o, keepH cc o ncc ho, hd⟩) hll (by rw [List.getElem?_toArray]; exact ew) (by omega) hd hd2 hcd2
  · obtain ⟨ord, o1, o2, o3⟩ := out_ord hkz hv ko
    have hlen : (ord.map fun i => V.int (i : Nat)).length ≤ sizeLine := by
      rw [List.length_map, o1.length_eq, List.length_range, sizeLine_eq]; omega
    obtain ⟨nD, J⟩ := inv_sorted (tk := tk) I2 hns hD F' N' hlen o3
    obtain ⟨ps2, hP2, _⟩ := hT2.tab
    refine ⟨.ref D, _, J, rfl, hq _ D ord (fun b o hb e => by rw [upd_ne (ne_of_none (but b o hb e) nD)]; exact but b o hb e) (hT2.keep (upd_ne (ne_of_none hP2 nD)) fun b o _ _ e => by rw [upd_ne (ne_of_none e nD)]; exact e) ?_ upd_same o1 o2⟩
    cases q : H1 D with
    | none => rfl
    | some o =>
      by_cases hb : D = P
      · rw [hb, hP2] at nD; cases nD
      · rw [but D o hb q] at nD; cases nD
end
end AK
set_option Elab.async false
set_option linter.all false
/-! binomials as math.comb tells them -/
namespace AK
open PySem
def bin : Nat → Nat → Nat
  | _, 0 => 1
  | 0, _ + 1 => 0
  | n + 1, k + 1 => bin n k + bin n (k + 1)
def factN : Nat → Nat
  | 0 => 1
  | k + 1 => (k + 1) * factN k
theorem bin_zero (n : Nat) : bin n 0 = 1 := by cases n <;> rfl
theorem bin_over : ∀ (n k : Nat), n < k → bin n k = 0
  | 0, k + 1, _ => rfl
  | n + 1, k + 1, h => by
    show bin n k + bin n (k + 1) = 0
    rw [bin_over n k (by omega), bin_over n (k + 1) (by omega)]
theorem bin_self : ∀ n : Nat, bin n n = 1
  | 0 => rfl
  | n + 1 => by
    show bin n n + bin n (n + 1) = 1
    rw [bin_self n, bin_over n (n + 1) (by omega)]
theorem bin_symm : ∀ (n k : Nat), k ≤ n → bin n k = bin n (n - k)
  | 0, k, h => by
    have : k = 0 := by omega
    subst this
    rfl
  | n + 1, 0, _ => by
    rw [bin_zero]
    exact (bin_self (n + 1)).symm
  | n + 1, k + 1, h => by
    by_cases hk : k = n
    · subst hk
      rw [bin_self, Nat.sub_self, bin_zero]
    · obtain ⟨m, hm⟩ : ∃ m, n - k = m + 1 := ⟨n - k - 1, by omega⟩
      have e1 : n + 1 - (k + 1) = m + 1 := by omega
      have h1 := bin_symm n k (by omega)
      have h2 := bin_symm n (k + 1) (by omega)
      have e2 : n - (k + 1) = m := by omega
      rw [hm] at h1
      rw [e2] at h2
      rw [e1]
      show bin n k + bin n (k + 1) = bin n m + bin n (m + 1)
      omega
theorem fp_up (n : Nat) : ∀ k : Nat, Builtin.Math.fallingProduct ((n + 1 : Nat) : Int) (k + 1) = ((n + 1 : Nat) : Int) * Builtin.Math.fallingProduct (n : Int) k
  | 0 => by
    rw [PySem.W.mc_fp_one, PySem.W.mc_fp_zero, Int.mul_one]
  | k + 1 => by
    rw [PySem.W.mc_fp_succ, fp_up n k, PySem.W.mc_fp_succ, Int.mul_assoc]
    congr 2
    omega
theorem fp_bin : ∀ n k : Nat, Builtin.Math.fallingProduct (n : Int) k = (bin n k : Int) * (factN k : Int)
  | n, 0 => by
    rw [PySem.W.mc_fp_zero, bin_zero]
    rfl
  | 0, k + 1 => by
    have h : ∀ k : Nat, Builtin.Math.fallingProduct ((0 : Nat) : Int) (k + 1) = 0 := fun k => by
      induction k with
      | zero => rw [PySem.W.mc_fp_one] <;> rfl
      | succ k ih => rw [PySem.W.mc_fp_succ, ih, Int.zero_mul]
    rw [h]
    show (0 : Int) = ((0 : Nat) : Int) * _
    simp
  | n + 1, k + 1 => by
    have h1 := fp_bin n k
    have h2 := fp_bin n (k + 1)
    rw [fp_up]
    rw [PySem.W.mc_fp_succ, h1] at h2
    rw [h1]
    have e : bin (n + 1) (k + 1) = bin n k + bin n (k + 1) := rfl
    have f : factN (k + 1) = (k + 1) * factN k := rfl
    rw [f] at h2
    rw [e, f]
    clear e f h1
    simp only [Int.natCast_add, Int.natCast_mul] at h2 ⊢
    generalize (bin n k : Int) = x at *
    generalize (bin n (k + 1) : Int) = y at *
    generalize (factN k : Int) = z at *
    have c1 : ((1 : Nat) : Int) = 1 := rfl
    rw [c1] at h2 ⊢
    clear c1
    generalize (n : Int) = a at *
    generalize (k : Int) = b at *
    grind
theorem fact_pos : ∀ k, 0 < factN k
  | 0 => by decide
  | k + 1 => Nat.mul_pos (Nat.succ_pos k) (fact_pos k)
theorem comb_bin {n k : Nat} (h : k ≤ n) : PySem.W.mcComb (n : Int) (k : Int) = (bin n k : Nat) := by
  have key : ∀ m : Nat, Builtin.Math.fallingProduct (n : Int) m / Builtin.Math.fallingProduct (m : Int) m = (bin n m : Nat) := fun m => by
    rw [fp_bin, fp_bin, bin_self]
    have h1 : ((1 : Nat) : Int) = 1 := rfl
    rw [h1, Int.one_mul]
    have : (factN m : Int) ≠ 0 := by have := fact_pos m; omega
    exact Int.mul_ediv_cancel _ this
  by_cases hk : k ≤ n - k
  · rw [PySem.W.mcComb_at (m := (k : Int)) (by omega) (by omega) (by omega)]
    exact key k
  · rw [PySem.W.mcComb_at (m := ((n - k : Nat) : Int)) (by omega) (by omega) (by omega), bin_symm n k h]
    exact key (n - k)
/-- how many are enough for sizes one greater -/
def sureN (a b : Nat) : Nat := bin (a + b) a
theorem sure_zero (b : Nat) : sureN 0 b = 1 := bin_zero _
theorem sure_one (a : Nat) : sureN a 0 = 1 := bin_self a
theorem sure_next (a b : Nat) : sureN (a + 1) (b + 1) = sureN a (b + 1) + sureN (a + 1) b := by
  unfold sureN
  have e1 : a + 1 + (b + 1) = (a + (b + 1)) + 1 := by omega
  have e2 : a + 1 + b = a + (b + 1) := by omega
  rw [e1, e2] <;> rfl
theorem sure_symm (a b : Nat) : sureN a b = sureN b a := by
  unfold sureN
  rw [bin_symm (a + b) a (by omega), Nat.add_comm b a]
  congr 1
  omega
theorem sure_pos : ∀ a b, 0 < sureN a b
  | 0, b => by rw [sure_zero]; decide
  | a + 1, 0 => by rw [sure_one]; decide
  | a + 1, b + 1 => by
    rw [sure_next]
    have := sure_pos a (b + 1)
    omega
theorem comb_sure {i j : Int} (hi : 1 ≤ i) (hj : 1 ≤ j) : PySem.W.mcComb (i + j - 2) (i - 1) = (sureN (i - 1).toNat (j - 1).toNat : Nat) := by
  have e1 : i + j - 2 = (((i - 1).toNat + (j - 1).toNat : Nat) : Int) := by omega
  have e2 : i - 1 = ((i - 1).toNat : Int) := by omega
  rw [e1]
  have := comb_bin (n := (i - 1).toNat + (j - 1).toNat) (k := (i - 1).toNat) (by omega)
  rw [← e2] at this
  exact this
end AK
set_option Elab.async false
set_option linter.all false
set_option maxRecDepth 100000
namespace AK
open PySem PySem.Spec PyProof.Rows L2
def topS (i : Nat) : Stmt := PySem.Challenge.pw_allknown_k07_whole_numbers.main.body.getD i (.Pass ⟨0, 0, 0, 0⟩)
abbrev sWhole : Stmt := topS 8
abbrev sCount : Stmt := topS 9
abbrev sWeb : Stmt := topS 14
abbrev sRow : Stmt := topS 15
abbrev sTies : Stmt := topS 16
abbrev sTurned : Stmt := topS 17
abbrev sTurnedRow : Stmt := topS 18
abbrev sKnown : Stmt := topS 21
abbrev sUnknown : Stmt := topS 22
abbrev sAre : Stmt := topS 23
abbrev sPairs : Stmt := topS 24
abbrev sAlike : Stmt := topS 27
abbrev sThree : Stmt := topS 28
abbrev sFewest : Stmt := topS 29
abbrev sThrees : Stmt := topS 30
abbrev sWebOf : Stmt := topS 31
abbrev sRing : Stmt := topS 32
abbrev sKnow : Stmt := topS 33
abbrev sSure : Stmt := topS 36
abbrev sFound : Stmt := topS 37
abbrev sPromised : Stmt := topS 38
abbrev sStrangers : Stmt := topS 39
abbrev sFriends : Stmt := topS 40
abbrev sApart : Stmt := topS 41
abbrev sNum : Stmt := topS 43
abbrev sPlain : Stmt := topS 44
abbrev sTruths : Stmt := topS 45
abbrev sWebRight : Stmt := topS 46
abbrev sTooFew : Stmt := topS 47
abbrev sGroups : Stmt := topS 48
abbrev sPromises : Stmt := topS 49
abbrev sLaw : Stmt := topS 50
end AK
set_option Elab.async false
set_option linter.all false
set_option maxRecDepth 100000
set_option maxHeartbeats 4000000
namespace AK
open PySem PySem.Spec PyProof.Rows L2
/-- names of built-ins that the module does not hide -/
structure Bl (mg : Str → Option Value) : Prop where
  isi : mg "isinstance" = none
  int : mg "int" = none
  bool : mg "bool" = none
  list : mg "list" = none
  str : mg "str" = none
  len : mg "len" = none
  enumerate : mg "enumerate" = none
  zip : mg "zip" = none
  range : mg "range" = none
  sum : mg "sum" = none
  abs : mg "abs" = none
  min : mg "min" = none
/-- the module's constants -/
structure Cn (mg : Str → Option Value) : Prop where
  knows : ∃ t, mg "KNOWS" = some (.str "x" t)
  apart : ∃ t, mg "APART" = some (.str "-" t)
  most : ∃ t, mg "MOST_PEOPLE" = some (.int 200 t)
section
variable {P : Program} {w : World} {K : PySem.W.Frag} {mg : Str → Option Value} {base : Heap}
/-! ### is_whole -/
theorem scWhole : FnScope ["value"] ["value"] (defScope sWhole) := ⟨rfl, rfl, rfl, by decide +kernel, rfl, by decide +kernel, by decide +kernel⟩
def spWhole (K : PySem.W.Frag) : Sp := fun vs H Q _ => ∃ i : Int, vs = [.int i] ∧ Q (.bl true) H
theorem ok_whole {f : Addr} {fd : FuncData} (F : Fun K "is_whole" "is_whole" sWhole f fd) (B : Bl mg) : FnOk P w K mg base CX0 1 f fd ["value"] (spWhole K) := by
  refine F.ok scWhole (fun vs H Q E h => ?_) (fun cdv A outer s H vs Q E hr h => ?_)
  · obtain ⟨i, rfl, _⟩ := h
    rfl
  · obtain ⟨i, rfl, q⟩ := h
    refine ⟨_, pss_one (ps_ret (pe_and (pe_callB call_isi (by rfl) B.isi (by decide +kernel) (pa_cons (pv 0) (pa_cons (pe_bltn (v := .ty "int") (u := .type "int") (by rfl) B.int (by decide +kernel) rfl) pa_nil)))
      (pe_one (pe_not (pe_callB call_isi (by rfl) B.isi (by decide +kernel) (pa_cons (pv 0) (pa_cons (pe_bltn (v := .ty "bool") (u := .type "bool") (by rfl) B.bool (by decide +kernel) rfl) pa_nil))))))), ?_⟩
    refine ⟨_, rfl, .int i, .ty "int", .type "int", .type "int", true, rfl, .ty "int", .base (.int i), kit_ty (by decide +kernel), true, rfl, iteT ?_⟩
    refine ⟨_, rfl, .int i, .ty "bool", .type "int", .type "bool", false, rfl, .ty "bool", .base (.int i), kit_ty (by decide +kernel), false, rfl, ?_⟩
    exact q
/-! ### check_count -/
theorem scCount : FnScope ["value", "least", "most"] ["value", "least", "most"] (defScope sCount) := ⟨rfl, rfl, rfl, by decide +kernel, rfl, by decide +kernel, by decide +kernel⟩
/-- a count within its bounds -/
def spCount (K : PySem.W.Frag) : Sp := fun vs H Q _ => ∃ (i a : Int) (m : V), vs = [.int i, .int a, m] ∧ a ≤ i ∧ (m = .non ∨ ∃ b, m = .int b ∧ i ≤ b) ∧ Q .non H
abbrev FunC (K : PySem.W.Frag) (f : Addr) (fd : FuncData) : Prop := FunD K "check_count" "check_count" (defArgs sCount) (defBody sCount) (defScope sCount) [.non] [] f fd
theorem ok_count {f fW : Addr} {fd fdW : FuncData} (F : FunC K f fd) (FW : Fun K "is_whole" "is_whole" sWhole fW fdW) (bW : Binds K fdW ["value"] []) (gW : mg "is_whole" = some (.ref fW)) (B : Bl mg) : FnOk P w K mg base CX0 2 f fd ["value", "least", "most"] (spCount K) := by
  have GW : FnOk P w K mg base CX0 1 fW fdW ["value"] (spWhole K) := ok_whole FW B
  refine FunD.ok F scCount (fun vs H Q E h => ?_) (fun cdv A outer s H vs Q E hr h => ?_)
  · obtain ⟨i, a, m, rfl, _⟩ := h
    rfl
  · obtain ⟨i, a, m, rfl, ha, hm, q⟩ := h
    refine ⟨_, pss_cons (ps_if (pt_not (pt_val (pe_call GW hr (by rfl) gW FW.kp bW .nil pass0 (pa_cons (pv 0) pa_nil)))) (pss_one ps_never) pss_nil)
      (pss_cons (ps_if (pt_cmpR op_lt (pv 0) (pv 1) (nomark _)) (pss_one ps_never) pss_nil)
      (pss_one (ps_if (PW.pt (pw_and (pt_cmp (pc_notN (pv 2))) (pw_and1 (pt_cmpR op_gt (pv 0) (pv 2) (nomark _))))) (pss_one ps_never) pss_nil))), ?_⟩
    refine ⟨_, rfl, i, rfl, true, rfl, iteF ?_⟩
    refine ⟨_, rfl, _, rfl, i, a, rfl, rfl, _, rfl, ?_⟩
    rw [decide_eq_false (by omega)]
    refine iteF ?_
    refine ⟨_, rfl, ?_⟩
    rcases hm with rfl | ⟨b, rfl, hb⟩
    · refine ⟨_, rfl, ?_⟩
      exact iteF (iteF q)
    · refine ⟨_, rfl, iteT ?_⟩
      refine ⟨_, rfl, _, rfl, i, b, rfl, rfl, _, rfl, ?_⟩
      rw [decide_eq_false (by omega)]
      exact iteF q
/-! ### _check_row -/
theorem scRow : FnScope ["row", "place", "size"] ["row", "place", "size"] (defScope sRow) := ⟨rfl, rfl, rfl, by decide +kernel, rfl, by decide +kernel, by decide +kernel⟩
def spRow (K : PySem.W.Frag) : Sp := fun vs H Q _ => ∃ (n i : Nat) (e : Nat → Bool), vs = [.str (row n e), .int i, .int n] ∧ i < n ∧ n ≤ 200 ∧ e i = false ∧ Q .non H
theorem ok_row {f : Addr} {fd : FuncData} (F : Fun K "_check_row" "_check_row" sRow f fd) (B : Bl mg) (C : Cn mg) : FnOk P w K mg base CX0 1 f fd ["row", "place", "size"] (spRow K) := by
  obtain ⟨tk, gk⟩ := C.knows
  obtain ⟨ta, ga⟩ := C.apart
  refine F.ok scRow (fun vs H Q E h => ?_) (fun cdv A outer s H vs Q E hr h => ?_)
  · obtain ⟨n, i, e, rfl, _⟩ := h
    rfl
  · obtain ⟨n, i, e, rfl, hi, hn, he, q⟩ := h
    have hsz : (row n e).length ≤ sizeLine := by rw [row_len]; exact Nat.le_trans hn (by decide)
    refine ⟨_, pss_cons (ps_if (pt_not (pt_val (pe_callB call_isi (by rfl) B.isi (by decide +kernel) (pa_cons (pv 0) (pa_cons (pe_bltn (v := .ty "str") (u := .type "str") (by rfl) B.str (by decide +kernel) rfl) pa_nil))))) (pss_one ps_never) pss_nil)
      (pss_cons (ps_if (pt_cmpR op_ne (pe_callB call_len_str (by rfl) B.len PySem.boot_len (pa_cons (pv 0) pa_nil)) (pv 2) (nomark _)) (pss_one ps_never) pss_nil)
      (pss_cons (ps_if (pt_cmpR op_ne (pe_op op_add (pe_m1 PySem.F.slot_str_count PySem.F.type_str_count mt_count (pv 0) (pe_glob (v := .str "x") rfl gk ⟨_, rfl⟩)) (pe_m1 PySem.F.slot_str_count PySem.F.type_str_count mt_count (pv 0) (pe_glob (v := .str "-") rfl ga ⟨_, rfl⟩)))
          (pe_callB call_len_str (by rfl) B.len PySem.boot_len (pa_cons (pv 0) pa_nil)) (nomark _)) (pss_one ps_never) pss_nil)
      (pss_one (ps_if (pt_cmpR op_eq (pe_ix ix_str (pv 0) (pv 1) (fun _ _ => rfl)) (pe_glob (v := .str "x") rfl gk ⟨_, rfl⟩) (nomark _)) (pss_one ps_never) pss_nil)))), ?_⟩
    refine ⟨_, rfl, .str (row n e), .ty "str", .type "str", .type "str", true, rfl, .ty "str", .base (.str _), kit_ty (by decide +kernel), true, rfl, iteF ?_⟩
    refine ⟨_, rfl, _, rfl, hsz, _, rfl, rfl, _, rfl, ?_⟩
    rw [row_len]
    refine iteNS rfl ?_
    refine ⟨_, rfl, ⟨_, rfl⟩, _, _, rfl, rfl, _, rfl, ⟨_, rfl⟩, _, _, rfl, rfl, _, _, rfl, rfl, _, rfl, _, rfl, hsz, rfl, _, rfl, ?_⟩
    refine iteNS (c := V.int (Txt.count (row n e) "x" + Txt.count (row n e) "-") = V.int ((row n e).length : Int)) (by rw [row_both, row_len]) ?_
    refine ⟨_, rfl, _, rfl, _, _, sg (e i), rfl, rfl, hsz, atI_nat (row_atL hi), rfl, _, rfl, ?_⟩
    have hne : ¬ V.str ⟨#[sg (e i)]⟩ = V.str "x" := by rw [he]; decide
    rw [decide_eq_false hne]
    exact iteF q
end
end AK
set_option Elab.async false
set_option linter.all false
set_option maxRecDepth 100000
set_option maxHeartbeats 4000000
namespace AK
open PySem PySem.Spec PyProof.Rows L2
section
variable {P : Program} {w : World} {K : PySem.W.Frag} {mg : Str → Option Value} {base : Heap}
/-! ### check_web -/
theorem scWeb : FnScope ["web", "place", "row", "columns", "column"] ["web"] (defScope sWeb) := ⟨rfl, rfl, rfl, by decide +kernel, rfl, by decide +kernel, by decide +kernel⟩
/-- a web is handed in -/
def WebAt (K : PySem.W.Frag) (H : Hp) (a : Addr) (n : Nat) (e : Nat → Nat → Bool) : Prop := SqL K H a ((web n e).map V.str) ∧ n ≤ 200 ∧ IsWeb n e
theorem WebAt.same {H H' : Hp} {a : Addr} {n : Nat} {e : Nat → Nat → Bool} (h : WebAt K H a n e) (s : Same H H') : WebAt K H' a n e := ⟨s.seq h.1, h.2⟩
def spWeb (K : PySem.W.Frag) : Sp := fun vs H Q _ => ∃ (a : Addr) (n : Nat) (e : Nat → Nat → Bool), vs = [.ref a] ∧ WebAt K H a n e ∧ ∀ H', Same H H' → Q .non H'
theorem ok_web {f fR : Addr} {fd fdR : FuncData} (F : Fun K "check_web" "check_web" sWeb f fd) (FR : Fun K "_check_row" "_check_row" sRow fR fdR) (bR : Binds K fdR ["row", "place", "size"] []) (gR : mg "_check_row" = some (.ref fR)) (B : Bl mg) (C : Cn mg) : FnOk P w K mg base CX0 2 f fd ["web"] (spWeb K) := by
  have GR : FnOk P w K mg base CX0 1 fR fdR ["row", "place", "size"] (spRow K) := ok_row FR B C
  obtain ⟨tm, gm⟩ := C.most
  refine F.ok scWeb (fun vs H Q E h => ?_) (fun cdv A outer s H vs Q E hr h => ?_)
  · obtain ⟨a, n, e, rfl, _⟩ := h
    rfl
  · obtain ⟨a, n, e, rfl, ⟨hS, hn, hW⟩, q⟩ := h
    have hlen : ((web n e).map V.str).length = n := by rw [List.length_map, web_len]
    refine ⟨_, pss_cons (ps_if (pt_not (pt_val (pe_callB call_isi (by rfl) B.isi (by decide +kernel) (pa_cons (pv 0) (pa_cons (pe_bltn (v := .ty "list") (u := .type "list") (by rfl) B.list (by decide +kernel) rfl) pa_nil))))) (pss_one ps_never) pss_nil)
      (pss_cons (ps_if (pt_cmpR op_gt (pe_callB call_len_seq (by rfl) B.len PySem.boot_len (pa_cons (pv 0) pa_nil)) (pe_glob (v := .int 200) rfl gm ⟨_, rfl⟩) (nomark _)) (pss_one ps_never) pss_nil)
      (pss_cons (ps_for PassesOwn.never rfl (pi_enum (by rfl) B.enumerate (pa_cons (pv 0) pa_nil)) (pg_tup rfl (pgs_cons (pg_name (i := 1) scWeb.nd rfl (.inl rfl)) (pgs_cons (pg_name (i := 2) scWeb.nd rfl (.inl rfl)) pgs_nil)))
        (pss_one (ps_expr (pe_call GR hr (by rfl) gR FR.kp bR .nil pass0 (pa_cons (pv 2) (pa_cons (pv 1) (pa_cons (pe_callB call_len_seq (by rfl) B.len PySem.boot_len (pa_cons (pv 0) pa_nil)) pa_nil)))))))
      (pss_cons (ps_setLc (i := 3) (own := [("column", 4)]) (g := gName 4) (tt := tYes) rfl scWeb.nd rfl rfl (sw_true rfl rfl rfl (by decide +kernel)) (pi_zipN (by rfl) B.zip (pv 0)) (blkOk_by (N := ["web", "place", "row", "columns", "column"]) (sc := defScope sWeb) (by decide +kernel))
        (fun _ _ _ _ _ => pg_name (i := 4) scWeb.nd rfl (Or.inl rfl)) (fun _ _ _ _ _ => pts_nil) (fun _ _ _ _ _ => pe_joinK K rfl pe_str (pv 4)))
      (pss_one (ps_if (pt_cmpR (op_neD hr.units) (pv 3) (pv 0) (nomark _)) (pss_one ps_never) pss_nil))))), ?_⟩
    refine ⟨_, rfl, .ref a, .ty "list", .type "list", .type "list", true, rfl, .ty "list", tyList hS, kit_ty (by decide +kernel), true, rfl, iteF ?_⟩
    refine ⟨.ref a, rfl, a, _, rfl, .inl hS, _, _, rfl, rfl, _, rfl, ?_⟩
    rw [hlen, decide_eq_false (by omega)]
    refine iteF ?_
    -- the rows
    refine ⟨.ref a, rfl, a, _, rfl, hS, for_en (xs := (web n e).map V.str) (fun i σ H1 => ∃ y1 y2, σ = [some (.ref a), y1, y2, none, none] ∧ Same H H1) ⟨none, none, rfl, Same.refl _⟩ (fun i σ H1 _ ⟨_, _, _, s1⟩ => s1.seq hS) ?_ ?_⟩
    · rintro i x σ H1 T hx ⟨y1, y2, rfl, s1⟩ nT
      obtain ⟨hi, rfl⟩ := webV_at hx
      have s2 := s1.trans (same_upd (o := .tup [.int (i : Nat), .str (row n (e i))]) nT)
      refine ⟨T, _, rfl, SqT.of upd_same, rfl, _, _, rfl, _, _, rfl, rfl, ?_⟩
      refine ⟨_, rfl, _, rfl, .ref a, rfl, a, _, rfl, .inl (s2.seq hS), ?_⟩
      rw [hlen]
      refine ⟨n, i, e i, rfl, hi, hn, hW.irr i hi, ?_⟩
      exact ⟨_, _, rfl, s2⟩
    · rintro σ H1 ⟨y1, y2, rfl, s1⟩
      -- the columns
      refine ⟨.ref a, rfl, a, web n e, rfl, s1.seq hS, by rw [web_len]; exact Nat.le_trans hn (by decide), fun b hb => ?_, fun D nD => ?_⟩
      · obtain ⟨i, _, rfl⟩ := web_mem hb
        exact row_ascii _ _
      refine lc_zipN (n := n) (fun z => by have := congrArg List.length z; rw [web_len] at this; exact this) (fun b hb => ?_) (fun i H2 => Same H1 H2 ∧ H2 D = some (.lst (((web n e).take i).map V.str))) ⟨same_upd nD, upd_same⟩ ?_ ?_
      · obtain ⟨i, _, rfl⟩ := web_mem hb
        exact row_size _ _
      · rintro i H2 T hi ⟨s2, e2⟩ nT
        have nTD : D ≠ T := ne_of_none e2 nT
        refine ⟨rfl, ⟨_, rfl⟩, .ref T, rfl, _, T, colAt (web n e) i, rfl, rfl, .inr (SqT.of upd_same), ?_, ((web n e).take i).map V.str, ?_, ?_, ?_, ?_⟩
        · unfold colAt
          rw [List.map_map, List.length_map, web_len]
          have e1 : ∀ l : List Str, (l.map ((fun x => x.length) ∘ fun a => (⟨#[a.cps.getD i 0]⟩ : Str))).sum = l.length := fun l => by
            induction l with
            | nil => rfl
            | cons b l ih =>
              rw [List.map_cons, List.sum_cons, ih, List.length_cons]
              show 1 + l.length = _
              omega
          rw [e1, web_len]
          show n + n * 0 ≤ _
          omega
        · rw [upd_ne nTD]; exact e2
        · rw [List.length_map, List.length_take, web_len]
          exact small1000 (by omega)
        · intro b o eb
          have nb : b ≠ D := ne_of_none eb nD
          rw [upd_ne nb, upd_ne (ne_of_none (s2 _ _ eb) nT)]
          exact s2 _ _ eb
        · have ej : Txt.join (Str.ofString "") (colAt (web n e) i) = row n (e i) := col_join hW hi
          have et : ((web n e).take (i + 1)).map V.str = ((web n e).take i).map V.str ++ [V.str (row n (e i))] := by
            rw [List.take_add_one, web_at hi, List.map_append] <;> rfl
          rw [upd_same, et, ej]
      · rintro H2 ⟨s2, e2⟩
        have et : (web n e).take n = web n e := List.take_of_length_le (by rw [web_len]; exact Nat.le_refl _)
        rw [et] at e2
        have ok : ∀ b ∈ web n e, PyData.strOk b = true := fun b hb => by
          obtain ⟨i, _, rfl⟩ := web_mem hb
          exact row_ok _ _
        refine ⟨.ref D, rfl, .ref a, rfl, .list ((web n e).map PyData.str), .list ((web n e).map PyData.str), .lst (SqL.of e2) (dpS _), .lst ((s1.trans s2).seq hS) (dpS _), shapedS ok, shapedS ok, _, rfl, ?_⟩
        have ee : PyData.eqv (.list ((web n e).map PyData.str)) (.list ((web n e).map PyData.str)) = true := by
          simp only [PyData.eqv, eqvS, decide_true]
        rw [ee]
        exact iteF (q _ (s1.trans s2))
/-! ### ties -/
theorem scTies : FnScope ["web", "row"] ["web"] (defScope sTies) := ⟨rfl, rfl, rfl, by decide +kernel, rfl, by decide +kernel, by decide +kernel⟩
def degs (n : Nat) (e : Nat → Nat → Bool) : List Int := (List.range n).map fun i => (deg n (e i) : Int)
theorem degs_len (n : Nat) (e : Nat → Nat → Bool) : (degs n e).length = n := by simp [degs]
def spTies (K : PySem.W.Frag) : Sp := fun vs H Q _ => ∃ (a : Addr) (n : Nat) (e : Nat → Nat → Bool), vs = [.ref a] ∧ WebAt K H a n e ∧ ∀ H' p, Same H H' → H p = none → H' p = some (.lst ((degs n e).map V.int)) → Q (.ref p) H'
theorem ok_ties {f fW : Addr} {fd fdW : FuncData} (F : Fun K "ties" "ties" sTies f fd) (GW : FnOk P w K mg base CX0 2 fW fdW ["web"] (spWeb K)) (FW : Fun K "check_web" "check_web" sWeb fW fdW) (bW : Binds K fdW ["web"] []) (gW : mg "check_web" = some (.ref fW)) (B : Bl mg) (C : Cn mg) : FnOk P w K mg base CX0 3 f fd ["web"] (spTies K) := by
  obtain ⟨tk, gk⟩ := C.knows
  refine F.ok scTies (fun vs H Q E h => ?_) (fun cdv A outer s H vs Q E hr h => ?_)
  · obtain ⟨a, n, e, rfl, _⟩ := h
    rfl
  · obtain ⟨a, n, e, rfl, hA, q⟩ := h
    obtain ⟨hS, hn, hW⟩ := id hA
    refine ⟨_, pss_cons (ps_expr (pe_call GW hr (by rfl) gW FW.kp bW .nil pass0 (pa_cons (pv 0) pa_nil)))
      (pss_one (ps_ret (pe_lc (own := [("row", 1)]) (g := gName 1) (tt := tYes) rfl scTies.nd (pi_list (pv 0)) (blkOk_by (N := ["web", "row"]) (sc := defScope sTies) (by decide +kernel)) (fun _ _ _ _ _ => pg_name (i := 1) scTies.nd rfl (Or.inl rfl)) (fun _ _ _ _ _ => pts_nil)
        (fun _ _ _ _ _ => pe_m1 PySem.F.slot_str_count PySem.F.type_str_count mt_count (pv 1) (pe_glob (v := .str "x") rfl gk ⟨_, rfl⟩))))), ?_⟩
    refine ⟨.ref a, rfl, a, n, e, rfl, hA, fun H1 s1 => ?_⟩
    refine ⟨.ref a, rfl, a, rfl, ⟨_, s1.seq hS⟩, fun D nD => lc_list (K := K) (xs := (web n e).map V.str) (fun i H2 => Same H1 H2 ∧ H2 D = some (.lst (((degs n e).take i).map V.int))) ⟨same_upd nD, upd_same⟩ (fun i H2 _ ⟨s2, _⟩ => (s1.trans s2).seq hS) ?_ ?_⟩
    · rintro i x H2 hx ⟨s2, e2⟩
      obtain ⟨hi, rfl⟩ := webV_at hx
      refine ⟨rfl, _, rfl, ⟨_, rfl⟩, _, _, rfl, rfl, ((degs n e).take i).map V.int, e2, ?_, fun b o eb => ?_, ?_⟩
      · rw [List.length_map, List.length_take, degs_len]
        exact small1000 (by omega)
      · rw [upd_ne (ne_of_none eb nD)]
        exact s2 _ _ eb
      · have et : ((degs n e).take (i + 1)).map V.int = ((degs n e).take i).map V.int ++ [V.int (Txt.count (row n (e i)) "x")] := by
          rw [List.take_add_one, row_knows]
          have eg : (degs n e)[i]? = some (deg n (e i) : Int) := by simp [degs, hi]
          rw [eg, List.map_append] <;> rfl
        rw [upd_same, et]
    · rintro H2 ⟨s2, e2⟩
      rw [List.length_map, web_len] at e2
      have et : (degs n e).take n = degs n e := List.take_of_length_le (by rw [degs_len]; exact Nat.le_refl _)
      rw [et] at e2
      exact q H2 D (s1.trans s2) (s1.free nD) e2
end
end AK
set_option Elab.async false
set_option linter.all false
set_option maxRecDepth 100000
set_option maxHeartbeats 4000000
namespace AK
open PySem PySem.Spec PyProof.Rows L2
/-- for .. in combinations(.., r) -/
theorem for_cb {xs : List V} {r : Nat} {g : TG} {tb : TS} {D : Ends} {σ : L2.St} {H : Hp} (Pv : Nat → L2.St → Hp → Prop) (h0 : Pv 0 σ H)
    (hs : ∀ i l σ H T, (combs xs.length r)[i]? = some l → Pv i σ H → H T = none → g (.ref T) σ (upd H T (.tup (cbPickV xs l))) fun σ2 H2 => tb { D with nx := Pv (i + 1), ct := Pv (i + 1), bk := D.nx } σ2 H2) (hd : ∀ σ H, Pv (combs xs.length r).length σ H → D.nx σ H) :
    ∃ W : Nat → Nat → L2.St → Hp → Prop, (∃ m, W 0 m σ H) ∧ ∀ i m σ H, W i m σ H →
      ((ItCb xs r).stop i H ∧ D.nx σ H) ∨ ((ItCb xs r).go i H ∧ ∃ N : L2.St → Hp → Prop, (∀ σ' H', N σ' H' → ∃ m', m' < m ∧ W (i + 1) m' σ' H') ∧ ∀ x H', (ItCb xs r).yld i H x H' → g x σ H' fun σ2 H2 => tb { D with nx := N, ct := N, bk := D.nx } σ2 H2) := by
  refine ⟨fun i m σ H => m = (combs xs.length r).length - i ∧ i ≤ (combs xs.length r).length ∧ Pv i σ H, ⟨(combs xs.length r).length, by simp, Nat.zero_le _, h0⟩, ?_⟩
  rintro i m σ H ⟨rfl, hi, p⟩
  rcases Nat.lt_or_ge i (combs xs.length r).length with hlt | hge
  · have e := List.getElem?_eq_getElem hlt
    refine .inr ⟨⟨_, (cbSeq_combs _ _ _).trans e⟩, Pv (i + 1), fun σ' H' p' => ⟨(combs xs.length r).length - (i + 1), by omega, rfl, hlt, p'⟩, fun v H' y => ?_⟩
    obtain ⟨T, l, hl, rfl, nT, rfl⟩ := y
    exact hs i l σ H T ((cbSeq_combs _ _ _).symm.trans hl) p nT
  · have e : i = (combs xs.length r).length := by omega
    subst e
    exact .inl ⟨(cbSeq_combs _ _ _).trans (List.getElem?_eq_none (Nat.le_refl _)), hd σ H p⟩
section
variable {P : Program} {w : World} {K : PySem.W.Frag} {mg : Str → Option Value} {base : Heap}
/-! ### _are_places -/
/-- counts of people below n, rising, above last -/
def rising (n : Int) : Int → List Int → Bool
  | _, [] => true
  | last, p :: ps => decide (last < p) && (decide (p < n) && rising n p ps)
theorem scAre : FnScope ["people", "size", "last", "person"] ["people", "size"] (defScope sAre) := ⟨rfl, rfl, rfl, by decide +kernel, rfl, by decide +kernel, by decide +kernel⟩
def spAre (K : PySem.W.Frag) : Sp := fun vs H Q _ => ∃ (a : Addr) (n : Int) (ps : List Int), vs = [.ref a, .int n] ∧ SqL K H a (ps.map V.int) ∧ Q (.bl (rising n (-1) ps)) H
theorem ok_are {f fW : Addr} {fd fdW : FuncData} (F : Fun K "_are_places" "_are_places" sAre f fd) (FW : Fun K "is_whole" "is_whole" sWhole fW fdW) (bW : Binds K fdW ["value"] []) (gW : mg "is_whole" = some (.ref fW)) (B : Bl mg) : FnOk P w K mg base CX0 2 f fd ["people", "size"] (spAre K) := by
  have GW : FnOk P w K mg base CX0 1 fW fdW ["value"] (spWhole K) := ok_whole FW B
  refine F.ok scAre (fun vs H Q E h => ?_) (fun cdv A outer s H vs Q E hr h => ?_)
  · obtain ⟨a, n, ps, rfl, _⟩ := h
    rfl
  · obtain ⟨a, n, ps, rfl, hS, q⟩ := h
    refine ⟨_, pss_cons (ps_set (i := 2) scAre.nd rfl (.inl rfl) (pe_un un_neg pe_int))
      (pss_cons (ps_for PassesOwn.never rfl (pi_list (pv 0)) (pg_name (i := 3) scAre.nd rfl (.inl rfl))
        (pss_cons (ps_if (PW.pt (pw_or (pt_not (pt_val (pe_call GW hr (by rfl) gW FW.kp bW .nil pass0 (pa_cons (pv 3) pa_nil)))) (pw_or1 (pt_not (pt_chain op_lt op_lt (pv 2) (pv 3) (pv 1)))))) (pss_one (ps_ret pe_bl)) pss_nil)
          (pss_one (ps_set (i := 2) scAre.nd rfl (.inl rfl) (pv 3)))))
      (pss_one (ps_ret pe_bl))), ?_⟩
    refine ⟨_, rfl, ?_⟩
    refine ⟨_, rfl, a, rfl, ⟨_, hS⟩, for_list (K := K) (xs := ps.map V.int) (fun i σ H1 => ∃ (last : Int) (y3 : Option V), σ = [some (.ref a), some (.int n), some (.int last), y3] ∧ H1 = H ∧ rising n (-1) ps = rising n last (ps.drop i)) ⟨-1, none, rfl, rfl, rfl⟩ (fun i σ H1 _ ⟨_, _, _, e, _⟩ => by rw [e]; exact hS) ?_ ?_⟩
    · rintro i x σ H1 hx ⟨last, y3, rfl, rfl, e⟩
      rw [List.getElem?_map] at hx
      obtain ⟨z, hz, rfl⟩ := Option.map_eq_some_iff.mp hx
      have ed : ps.drop i = z :: ps.drop (i + 1) := by
        obtain ⟨hlt, hz⟩ := List.getElem?_eq_some_iff.mp hz
        rw [← hz]
        exact List.drop_eq_getElem_cons hlt
      rw [ed, rising] at e
      refine ⟨_, rfl, z, rfl, true, rfl, ?_⟩
      refine iteF ?_
      refine ⟨_, rfl, _, rfl, last, z, rfl, rfl, _, rfl, ?_⟩
      by_cases h1 : last < z
      · rw [decide_eq_true h1] at e ⊢
        refine iteT ⟨_, rfl, z, n, rfl, rfl, _, rfl, ?_⟩
        by_cases h2 : z < n
        · rw [decide_eq_true h2] at e ⊢
          refine iteF ⟨_, rfl, z, some (.int z), rfl, rfl, e⟩
        · rw [decide_eq_false h2] at e ⊢
          refine iteT ?_
          rw [e] at q
          exact q
      · rw [decide_eq_false h1] at e ⊢
        refine iteF ⟨_, rfl, iteT ?_⟩
        rw [e] at q
        exact q
    · rintro σ H1 ⟨last, y3, rfl, rfl, e⟩
      rw [List.length_map, List.drop_length] at e
      rw [e] at q
      exact q
end
end AK
set_option Elab.async false
set_option linter.all false
set_option maxRecDepth 100000
set_option maxHeartbeats 4000000
namespace AK
open PySem PySem.Spec PyProof.Rows L2
theorem combs_two {n : Nat} {l : List Nat} (h : l ∈ combs n 2) : ∃ i j, l = [i, j] ∧ i < j ∧ j < n := by
  obtain ⟨h1, h2, h3⟩ := mem_combs.mp h
  match l, h1 with
  | [i, j], _ =>
    refine ⟨i, j, rfl, ?_, h2 j (by simp)⟩
    simpa using h3
theorem two_combs {n i j : Nat} (h : i < j) (hj : j < n) : [i, j] ∈ combs n 2 := mem_combs.mpr ⟨rfl, fun x hx => by
  have : x = i ∨ x = j := by simpa using hx
  omega, by simpa using h⟩
/-- any two of these people have this sign -/
def Pairs (e : Nat → Nat → Bool) (c : Bool) (ps : List Nat) : Prop := ∀ i j, i < j → j < ps.length → e (ps.getD i 0) (ps.getD j 0) = c
section
variable {P : Program} {w : World} {K : PySem.W.Frag} {mg : Str → Option Value} {base : Heap}
theorem scPairs : FnScope ["people", "web", "sign", "one", "other"] ["people", "web", "sign"] (defScope sPairs) := ⟨rfl, rfl, rfl, by decide +kernel, rfl, by decide +kernel, by decide +kernel⟩
def spPairs (K : PySem.W.Frag) : Sp := fun vs H Q _ => ∃ (a b : Addr) (c : Bool) (ps : List Nat) (n : Nat) (e : Nat → Nat → Bool), vs = [.ref a, .ref b, .str ⟨#[sg c]⟩] ∧ SqL K H a (ps.map fun p : Nat => V.int p) ∧ SqL K H b ((web n e).map V.str) ∧ n ≤ 200 ∧ (∀ p ∈ ps, p < n) ∧
  ∀ (r : Bool) H', (r = true ↔ Pairs e c ps) → Same H H' → Q (.bl r) H'
theorem ok_pairs {f : Addr} {fd : FuncData} (F : Fun K "_all_pairs" "_all_pairs" sPairs f fd) (gc : mg "combinations" = some (.type "itertools.combinations")) : FnOk P w K mg base CX0 1 f fd ["people", "web", "sign"] (spPairs K) := by
  refine F.ok scPairs (fun vs H Q E h => ?_) (fun cdv A outer s H vs Q E hr h => ?_)
  · obtain ⟨a, b, c, ps, n, e, rfl, _⟩ := h
    rfl
  · obtain ⟨a, b, c, ps, n, e, rfl, hS, hB, hn, hp, q⟩ := h
    refine ⟨_, pss_cons (ps_for PassesOwn.never rfl (pi_comb (by rfl) gc (pa_cons (pv 0) (pa_cons pe_int pa_nil))) (pg_tup rfl (pgs_cons (pg_name (i := 3) scPairs.nd rfl (.inl rfl)) (pgs_cons (pg_name (i := 4) scPairs.nd rfl (.inl rfl)) pgs_nil)))
        (pss_one (ps_if (pt_cmpR op_ne (pe_ix ix_str (pe_ix ix_list (pv 1) (pv 3) (fun _ _ => rfl)) (pv 4) (fun _ _ => rfl)) (pv 2) (nomark _)) (pss_one (ps_ret pe_bl)) pss_nil)))
      (pss_one (ps_ret pe_bl)), ?_⟩
    have hlen : (ps.map fun p : Nat => V.int p).length = ps.length := List.length_map ..
    refine ⟨_, rfl, a, _, 2, rfl, by decide, .inl hS, for_cb (fun i σ H1 => ∃ y3 y4 : Option V, σ = [some (.ref a), some (.ref b), some (.str ⟨#[sg c]⟩), y3, y4] ∧ Same H H1 ∧
      ∀ k l, k < i → (combs (ps.map fun p : Nat => V.int p).length 2)[k]? = some l → e (ps.getD (l.getD 0 0) 0) (ps.getD (l.getD 1 0) 0) = c) ⟨none, none, rfl, Same.refl _, fun k l hk => absurd hk (Nat.not_lt_zero _)⟩ ?_ ?_⟩
    · rintro i l σ H1 T hl ⟨y3, y4, rfl, s1, done⟩ nT
      obtain ⟨x, y, rfl, hxy, hy⟩ := combs_two (List.mem_of_getElem? hl)
      rw [hlen] at hy
      have hx : x < ps.length := Nat.lt_trans hxy hy
      have ex : ∀ z, z < ps.length → (ps.map fun p : Nat => V.int p).getD z .non = .int (ps.getD z 0 : Nat) := fun z hz => by
        rw [List.getD_eq_getElem?_getD, List.getElem?_map, List.getD_eq_getElem?_getD, List.getElem?_eq_getElem hz] <;> rfl
      have lt : ∀ z, z < ps.length → ps.getD z 0 < n := fun z hz => by
        rw [List.getD_eq_getElem?_getD, List.getElem?_eq_getElem hz]
        exact hp _ (List.getElem_mem hz)
      have ep : cbPickV (ps.map fun p : Nat => V.int p) [x, y] = [.int (ps.getD x 0 : Nat), .int (ps.getD y 0 : Nat)] := by
        show [(ps.map fun p : Nat => V.int p).getD x .non, (ps.map fun p : Nat => V.int p).getD y .non] = _
        rw [ex x hx, ex y hy]
      rw [ep]
      have s2 := s1.trans (same_upd (o := .tup [.int (ps.getD x 0 : Nat), .int (ps.getD y 0 : Nat)]) nT)
      have lx := lt x hx
      have ly := lt y hy
      generalize hX : ps.getD x 0 = X at *
      generalize hY : ps.getD y 0 = Y at *
      refine ⟨T, _, rfl, SqT.of upd_same, rfl, _, _, rfl, _, _, rfl, rfl, ?_⟩
      refine ⟨_, rfl, _, rfl, b, _, _, .str (row n (e X)), rfl, rfl, s2.seq hB, atI_nat (by rw [List.getElem?_map, web_at lx] <;> rfl), _, rfl, _, _, sg (e X Y), rfl, rfl, by rw [row_len]; exact Nat.le_trans hn (by decide), atI_nat (row_atL ly), _, rfl, rfl, _, rfl, ?_⟩
      by_cases hc : e X Y = c
      · refine iteNS (c := V.str ⟨#[sg (e X Y)]⟩ = V.str ⟨#[sg c]⟩) (by rw [hc]) ?_
        refine ⟨_, _, rfl, s2, fun k l hk hl' => ?_⟩
        by_cases hki : k = i
        · subst hki
          rw [hl] at hl'
          cases hl'
          show e (ps.getD x 0) (ps.getD y 0) = c
          rw [hX, hY]
          exact hc
        · exact done k l (by omega) hl'
      · have hne : ¬ V.str ⟨#[sg (e X Y)]⟩ = V.str ⟨#[sg c]⟩ := fun h => hc (by
          have h1 : sg (e X Y) = sg c := by
            injection h with h
            injection h with h
            simpa using h
          revert h1
          cases e X Y <;> cases c <;> simp [sg])
        rw [decide_eq_false hne]
        refine iteT ?_
        refine q false _ ⟨(fun z => nomatch z), fun z => absurd ?_ hc⟩ s2
        have := z x y hxy hy
        rw [hX, hY] at this
        exact this
    · rintro σ H1 ⟨y3, y4, rfl, s1, done⟩
      refine q true _ (iff_of_true rfl fun i j hij hj => ?_) s1
      have hm := two_combs hij (by rw [hlen]; exact hj : j < (ps.map fun p : Nat => V.int p).length)
      obtain ⟨k, hk⟩ := List.getElem?_of_mem hm
      exact done k _ (List.getElem?_eq_some_iff.mp hk).1 hk
end
end AK
set_option Elab.async false
set_option linter.all false
set_option maxRecDepth 100000
set_option maxHeartbeats 4000000
namespace AK
open PySem PySem.Spec PyProof.Rows L2
theorem rising_all {n : Int} : ∀ {ps : List Int} {last : Int}, rising n last ps = true → ∀ p ∈ ps, last < p ∧ p < n
  | [], _, _, p, h => by cases h
  | q :: ps, last, h, p, hp => by
    simp only [rising, Bool.and_eq_true, decide_eq_true_eq] at h
    rcases List.mem_cons.mp hp with rfl | hp
    · exact ⟨h.1, h.2.1⟩
    · have := rising_all h.2.2 p hp
      omega
def nats (ps : List Int) : List Nat := ps.map Int.toNat
theorem nats_back {ps : List Int} (h : ∀ p ∈ ps, 0 ≤ p) : (nats ps).map (fun p : Nat => V.int p) = ps.map V.int := by
  unfold nats
  rw [List.map_map]
  refine List.map_congr_left fun p hp => ?_
  show V.int (p.toNat : Int) = V.int p
  rw [Int.toNat_of_nonneg (h p hp)]
structure AC (K : PySem.W.Frag) (C : Addr) : Prop where
  cl : Cls K C
  no : NoAttr K C "people"
abbrev sShowsK : Stmt := inClass sKnown 1
abbrev sShowsU : Stmt := inClass sUnknown 1
abbrev sInitK : Stmt := inClass sKnown 0
abbrev sInitU : Stmt := inClass sUnknown 0
section
variable {P : Program} {w : World} {K : PySem.W.Frag} {mg : Str → Option Value} {base : Heap}
theorem scInitK : FnScope ["self", "people"] ["self", "people"] (defScope sInitK) := ⟨rfl, rfl, rfl, by decide +kernel, rfl, by decide +kernel, by decide +kernel⟩
theorem scInitU : FnScope ["self", "people"] ["self", "people"] (defScope sInitU) := ⟨rfl, rfl, rfl, by decide +kernel, rfl, by decide +kernel, by decide +kernel⟩
theorem scShowsK : FnScope ["self", "web"] ["self", "web"] (defScope sShowsK) := ⟨rfl, rfl, rfl, by decide +kernel, rfl, by decide +kernel, by decide +kernel⟩
theorem scShowsU : FnScope ["self", "web"] ["self", "web"] (defScope sShowsU) := ⟨rfl, rfl, rfl, by decide +kernel, rfl, by decide +kernel, by decide +kernel⟩
def spInit (K : PySem.W.Frag) (C : Addr) : Sp := fun vs H Q _ => ∃ (p a dx : Addr) (xs : List V), vs = [.ref p, .ref a] ∧ H p = some (.ins C dx []) ∧ SqL K H a xs ∧ ∀ l H', H l = none → H' l = some (.lst xs) → H' p = some (.ins C dx [("people", .ref l)]) → (∀ b o, H b = some o → b ≠ p → H' b = some o) → Q .non H'
theorem ok_initK {f C : Addr} {fd : FuncData} (F : Fun K "__init__" "Known.__init__" sInitK f fd) (T : AC K C) (B : Bl mg) : FnOk P w K mg base CX0 1 f fd ["self", "people"] (spInit K C) := by
  refine F.ok scInitK (fun vs H Q E h => ?_) (fun cdv A outer s H vs Q E hr h => ?_)
  · obtain ⟨p, a, dx, xs, rfl, _⟩ := h
    rfl
  · obtain ⟨p, a, dx, xs, rfl, hp, hS, q⟩ := h
    refine ⟨_, pss_one (ps_fld (pv 0) (pe_callTy call_list_of (by rfl) B.list (by decide +kernel) (pa_cons (pv 1) pa_nil)) rfl), ?_⟩
    refine ⟨.ref a, rfl, a, xs, rfl, .inl hS, fun l nl => ?_⟩
    have npl : p ≠ l := ne_of_none hp nl
    refine ⟨_, rfl, p, C, dx, [], rfl, (by rw [upd_ne npl]; exact hp), T.cl, T.no, (by show 0 < 1000; decide), ?_⟩
    refine q l _ nl (by rw [upd_ne npl.symm]; exact upd_same) upd_same fun b o e hb => ?_
    rw [upd_ne hb, upd_ne (ne_of_none e nl)]
    exact e
theorem ok_initU {f C : Addr} {fd : FuncData} (F : Fun K "__init__" "Unknown.__init__" sInitU f fd) (T : AC K C) (B : Bl mg) : FnOk P w K mg base CX0 1 f fd ["self", "people"] (spInit K C) := by
  refine F.ok scInitU (fun vs H Q E h => ?_) (fun cdv A outer s H vs Q E hr h => ?_)
  · obtain ⟨p, a, dx, xs, rfl, _⟩ := h
    rfl
  · obtain ⟨p, a, dx, xs, rfl, hp, hS, q⟩ := h
    refine ⟨_, pss_one (ps_fld (pv 0) (pe_callTy call_list_of (by rfl) B.list (by decide +kernel) (pa_cons (pv 1) pa_nil)) rfl), ?_⟩
    refine ⟨.ref a, rfl, a, xs, rfl, .inl hS, fun l nl => ?_⟩
    have npl : p ≠ l := ne_of_none hp nl
    refine ⟨_, rfl, p, C, dx, [], rfl, (by rw [upd_ne npl]; exact hp), T.cl, T.no, (by show 0 < 1000; decide), ?_⟩
    refine q l _ nl (by rw [upd_ne npl.symm]; exact upd_same) upd_same fun b o e hb => ?_
    rw [upd_ne hb, upd_ne (ne_of_none e nl)]
    exact e
/-- an answer's own word, c its sign -/
def spShows (K : PySem.W.Frag) (C : Addr) (c : Bool) : Sp := fun vs H Q _ => ∃ (p b l dx : Addr) (ps : List Int) (n : Nat) (e : Nat → Nat → Bool), vs = [.ref p, .ref b] ∧ H p = some (.ins C dx [("people", .ref l)]) ∧ SqL K H l (ps.map V.int) ∧ SqL K H b ((web n e).map V.str) ∧ n ≤ 200 ∧
  ∀ (r : Bool) H', (r = true ↔ rising n (-1) ps = true ∧ Pairs e c (nats ps)) → Same H H' → Q (.bl r) H'
theorem ok_showsK {f fA fP C : Addr} {fd fdA fdP : FuncData} (F : Fun K "shows" "Known.shows" sShowsK f fd) (T : AC K C) (B : Bl mg) (Cc : Cn mg)
    (GA : FnOk P w K mg base CX0 2 fA fdA ["people", "size"] (spAre K)) (FA : Fun K "_are_places" "_are_places" sAre fA fdA) (bA : Binds K fdA ["people", "size"] []) (gA : mg "_are_places" = some (.ref fA))
    (GP : FnOk P w K mg base CX0 1 fP fdP ["people", "web", "sign"] (spPairs K)) (FP : Fun K "_all_pairs" "_all_pairs" sPairs fP fdP) (bP : Binds K fdP ["people", "web", "sign"] []) (gP : mg "_all_pairs" = some (.ref fP)) :
    FnOk P w K mg base CX0 3 f fd ["self", "web"] (spShows K C true) := by
  obtain ⟨tk, gk⟩ := Cc.knows
  refine F.ok scShowsK (fun vs H Q E h => ?_) (fun cdv A outer s H vs Q E hr h => ?_)
  · obtain ⟨p, b, l, dx, ps, n, e, rfl, _⟩ := h
    rfl
  · obtain ⟨p, b, l, dx, ps, n, e, rfl, hp, hl, hb, hn, q⟩ := h
    have hlen : ((web n e).map V.str).length = n := by rw [List.length_map, web_len]
    refine ⟨_, pss_one (ps_ret (pe_and (pe_call GA hr (by rfl) gA FA.kp bA .nil pass0 (pa_cons (pe_fld (pv 0) rfl) (pa_cons (pe_callB call_len_seq (by rfl) B.len PySem.boot_len (pa_cons (pv 1) pa_nil)) pa_nil)))
      (pe_one (pe_call GP (hr.mono (j := 1) (by decide)) (by rfl) gP FP.kp bP .nil pass0 (pa_cons (pe_fld (pv 0) rfl) (pa_cons (pv 1) (pa_cons (pe_glob (v := .str "x") rfl gk ⟨_, rfl⟩) pa_nil))))))), ?_⟩
    refine ⟨_, rfl, p, C, dx, _, .ref l, rfl, hp, T.cl, T.no, rfl, .ref b, rfl, b, _, rfl, .inl hb, ?_⟩
    rw [hlen]
    refine ⟨l, n, ps, rfl, hl, ?_⟩
    cases er : rising n (-1) ps with
    | false => exact ⟨_, rfl, iteF (q false H (by rw [er]; simp) (Same.refl _))⟩
    | true =>
      have ha := rising_all er
      refine ⟨_, rfl, iteT ?_⟩
      refine ⟨_, rfl, p, C, dx, _, .ref l, rfl, hp, T.cl, T.no, rfl, .ref b, rfl, l, b, true, nats ps, n, e, rfl, by rw [nats_back fun p hp => by have := ha p hp; omega]; exact hl, hb, hn, fun x hx => ?_, fun r H' hr s1 => q r H' (by rw [er, hr]; simp) s1⟩
      obtain ⟨y, hy, rfl⟩ := List.mem_map.mp hx
      have := ha y hy
      omega
theorem ok_showsU {f fA fP C : Addr} {fd fdA fdP : FuncData} (F : Fun K "shows" "Unknown.shows" sShowsU f fd) (T : AC K C) (B : Bl mg) (Cc : Cn mg)
    (GA : FnOk P w K mg base CX0 2 fA fdA ["people", "size"] (spAre K)) (FA : Fun K "_are_places" "_are_places" sAre fA fdA) (bA : Binds K fdA ["people", "size"] []) (gA : mg "_are_places" = some (.ref fA))
    (GP : FnOk P w K mg base CX0 1 fP fdP ["people", "web", "sign"] (spPairs K)) (FP : Fun K "_all_pairs" "_all_pairs" sPairs fP fdP) (bP : Binds K fdP ["people", "web", "sign"] []) (gP : mg "_all_pairs" = some (.ref fP)) :
    FnOk P w K mg base CX0 3 f fd ["self", "web"] (spShows K C false) := by
  obtain ⟨tk, gk⟩ := Cc.apart
  refine F.ok scShowsU (fun vs H Q E h => ?_) (fun cdv A outer s H vs Q E hr h => ?_)
  · obtain ⟨p, b, l, dx, ps, n, e, rfl, _⟩ := h
    rfl
  · obtain ⟨p, b, l, dx, ps, n, e, rfl, hp, hl, hb, hn, q⟩ := h
    have hlen : ((web n e).map V.str).length = n := by rw [List.length_map, web_len]
    refine ⟨_, pss_one (ps_ret (pe_and (pe_call GA hr (by rfl) gA FA.kp bA .nil pass0 (pa_cons (pe_fld (pv 0) rfl) (pa_cons (pe_callB call_len_seq (by rfl) B.len PySem.boot_len (pa_cons (pv 1) pa_nil)) pa_nil)))
      (pe_one (pe_call GP (hr.mono (j := 1) (by decide)) (by rfl) gP FP.kp bP .nil pass0 (pa_cons (pe_fld (pv 0) rfl) (pa_cons (pv 1) (pa_cons (pe_glob (v := .str "-") rfl gk ⟨_, rfl⟩) pa_nil))))))), ?_⟩
    refine ⟨_, rfl, p, C, dx, _, .ref l, rfl, hp, T.cl, T.no, rfl, .ref b, rfl, b, _, rfl, .inl hb, ?_⟩
    rw [hlen]
    refine ⟨l, n, ps, rfl, hl, ?_⟩
    cases er : rising n (-1) ps with
    | false => exact ⟨_, rfl, iteF (q false H (by rw [er]; simp) (Same.refl _))⟩
    | true =>
      have ha := rising_all er
      refine ⟨_, rfl, iteT ?_⟩
      refine ⟨_, rfl, p, C, dx, _, .ref l, rfl, hp, T.cl, T.no, rfl, .ref b, rfl, l, b, false, nats ps, n, e, rfl, by rw [nats_back fun p hp => by have := ha p hp; omega]; exact hl, hb, hn, fun x hx => ?_, fun r H' hr s1 => q r H' (by rw [er, hr]; simp) s1⟩
      obtain ⟨y, hy, rfl⟩ := List.mem_map.mp hx
      have := ha y hy
      omega
end
end AK
set_option Elab.async false
set_option linter.all false
set_option maxRecDepth 100000
set_option maxHeartbeats 4000000
namespace AK
open PySem PySem.Spec PyProof.Rows L2
theorem combs_three {n : Nat} {l : List Nat} (h : l ∈ combs n 3) : ∃ i j k, l = [i, j, k] ∧ i < j ∧ j < k ∧ k < n := by
  obtain ⟨h1, h2, h3⟩ := mem_combs.mp h
  match l, h1 with
  | [i, j, k], _ =>
    have : i < j ∧ j < k := by
      simp at h3
      omega
    exact ⟨i, j, k, rfl, this.1, this.2, h2 k (by simp)⟩
theorem three_combs {n i j k : Nat} (h : i < j) (h2 : j < k) (hk : k < n) : [i, j, k] ∈ combs n 3 := mem_combs.mpr ⟨rfl, fun x hx => by
  have : x = i ∨ x = j ∨ x = k := by simpa using hx
  omega, by
    simp
    omega⟩
/-- these three are alike -/
def Mono (e : Nat → Nat → Bool) (i j k : Nat) : Prop := e i j = e i k ∧ e i k = e j k
theorem rgV_at {n i : Nat} (h : i < n) : (rgV 0 (n : Int)).getD i .non = .int (i : Nat) := by
  have e : ((n : Int) - 0).toNat = n := by omega
  unfold rgV
  rw [e, List.getD_eq_getElem?_getD, List.getElem?_map, List.getElem?_range h]
  show V.int (0 + (i : Int)) = _
  rw [Int.zero_add]
theorem sg_dec (a b : Bool) : decide (V.str ⟨#[sg a]⟩ = V.str ⟨#[sg b]⟩) = decide (a = b) := by
  rw [decide_eq_decide]
  constructor
  · intro h
    have h1 : sg a = sg b := by
      injection h with h
      injection h with h
      simpa using h
    revert h1
    cases a <;> cases b <;> simp [sg]
  · rintro rfl
    rfl
section
variable {P : Program} {w : World} {K : PySem.W.Frag} {mg : Str → Option Value} {base : Heap}
theorem scThree : FnScope ["web", "asked", "one", "two", "other", "sign"] ["web"] (defScope sThree) := ⟨rfl, rfl, rfl, by decide +kernel, rfl, by decide +kernel, by decide +kernel⟩
def spThree (K : PySem.W.Frag) (CK CU : Addr) : Sp := fun vs H Q _ => ∃ (a : Addr) (n : Nat) (e : Nat → Nat → Bool), vs = [.ref a] ∧ WebAt K H a n e ∧
  (∀ H', Same H H' → (∀ i j k, i < j → j < k → k < min n 6 → ¬ Mono e i j k) → Q .non H') ∧
  ∀ H' p l dx i j k, i < j → j < k → k < min n 6 → Mono e i j k → Same H H' → H' p = some (.ins (if e i j = true then CK else CU) dx [("people", .ref l)]) → H' l = some (.lst [.int (i : Nat), .int (j : Nat), .int (k : Nat)]) → Q (.ref p) H'
theorem ok_three {f fW fI fJ CK CU : Addr} {fd fdW fdI fdJ : FuncData} (F : Fun K "three" "three" sThree f fd) (GW : FnOk P w K mg base CX0 2 fW fdW ["web"] (spWeb K)) (FW : Fun K "check_web" "check_web" sWeb fW fdW) (bW : Binds K fdW ["web"] []) (gW : mg "check_web" = some (.ref fW)) (B : Bl mg) (Cc : Cn mg)
    (g6 : ∃ t, mg "ENOUGH_FOR_THREE" = some (.int 6 t)) (gmin : mg "min" = none) (gc : mg "combinations" = some (.type "itertools.combinations"))
    (TK : AC K CK) (gK : mg "Known" = some (.ref CK)) (MK : Mk K CK fI) (FI : Fun K "__init__" "Known.__init__" sInitK fI fdI) (bI : Binds K fdI ["self", "people"] [])
    (TU : AC K CU) (gU : mg "Unknown" = some (.ref CU)) (MU : Mk K CU fJ) (FJ : Fun K "__init__" "Unknown.__init__" sInitU fJ fdJ) (bJ : Binds K fdJ ["self", "people"] []) :
    FnOk P w K mg base CX0 3 f fd ["web"] (spThree K CK CU) := by
  have GI : FnOk P w K mg base CX0 1 fI fdI ["self", "people"] (spInit K CK) := ok_initK FI TK B
  have GJ : FnOk P w K mg base CX0 1 fJ fdJ ["self", "people"] (spInit K CU) := ok_initU FJ TU B
  obtain ⟨tk, gk⟩ := Cc.knows
  obtain ⟨t6, g6⟩ := g6
  refine F.ok scThree (fun vs H Q E h => ?_) (fun cdv A outer s H vs Q E hr h => ?_)
  · obtain ⟨a, n, e, rfl, _⟩ := h
    rfl
  · obtain ⟨a, n, e, rfl, hW, qN, qR⟩ := h
    have hlen : ((web n e).map V.str).length = n := by rw [List.length_map, web_len]
    refine ⟨_, pss_cons (ps_expr (pe_call GW hr (by rfl) gW FW.kp bW .nil pass0 (pa_cons (pv 0) pa_nil)))
      (pss_cons (ps_set (i := 1) scThree.nd rfl (.inl rfl) (pe_listRg rfl (by rfl) B.list (prg_1 (by rfl) B.range (pe_callB (call_min2 rfl) (by rfl) gmin (by decide +kernel) (pa_cons (pe_callB call_len_seq (by rfl) B.len PySem.boot_len (pa_cons (pv 0) pa_nil)) (pa_cons (pe_glob (v := .int 6) rfl g6 ⟨_, rfl⟩) pa_nil))))))
      (pss_cons (ps_for PassesOwn.never rfl (pi_comb (by rfl) gc (pa_cons (pv 1) (pa_cons pe_int pa_nil))) (pg_tup rfl (pgs_cons (pg_name (i := 2) scThree.nd rfl (.inl rfl)) (pgs_cons (pg_name (i := 3) scThree.nd rfl (.inl rfl)) (pgs_cons (pg_name (i := 4) scThree.nd rfl (.inl rfl)) pgs_nil))))
        (pss_cons (ps_set (i := 5) scThree.nd rfl (.inl rfl) (pe_ix ix_str (pe_ix ix_list (pv 0) (pv 2) (fun _ _ => rfl)) (pv 3) (fun _ _ => rfl)))
        (pss_one (ps_if (pt_chain op_eq op_eq (pv 5) (pe_ix ix_str (pe_ix ix_list (pv 0) (pv 2) (fun _ _ => rfl)) (pv 4) (fun _ _ => rfl)) (pe_ix ix_str (pe_ix ix_list (pv 0) (pv 3) (fun _ _ => rfl)) (pv 4) (fun _ _ => rfl)))
          (pss_one (ps_ret (pe_ifExp (pt_cmpR op_eq (pv 5) (pe_glob (v := .str "x") rfl gk ⟨_, rfl⟩) (nomark _))
            (pe_make MK GI hr (by rfl) gK bI .nil pass0 (pa_cons (pe_lst (pa_cons (pv 2) (pa_cons (pv 3) (pa_cons (pv 4) pa_nil)))) pa_nil))
            (pe_make MU GJ hr (by rfl) gU bJ .nil pass0 (pa_cons (pe_lst (pa_cons (pv 2) (pa_cons (pv 3) (pa_cons (pv 4) pa_nil)))) pa_nil))))) pss_nil))))
      (pss_one (ps_ret pe_non)))), ?_⟩
    refine ⟨.ref a, rfl, a, n, e, rfl, hW, fun H1 s1 => ?_⟩
    have hS := s1.seq hW.1
    have em : (if (6 : Int) < (((web n e).map V.str).length : Nat) then (6 : Int) else (((web n e).map V.str).length : Nat)) = ((min n 6 : Nat) : Int) := by
      rw [hlen]
      split <;> omega
    refine ⟨.ref a, rfl, a, _, rfl, .inl hS, _, _, rfl, ?_⟩
    rw [em]
    have hm : min n 6 ≤ 6 := Nat.min_le_right _ _
    have hmn : min n 6 ≤ n := Nat.min_le_left _ _
    generalize min n 6 = m at *
    refine ⟨_, rfl, RgOk.of_le (by decide) (by omega) (by decide) (by omega), fun L nL => ?_⟩
    have eL : L2.upd H1 L (.lst (rgV 0 (m : Int))) L = some (.lst (rgV 0 (m : Int))) := upd_same
    have s2 := s1.trans (same_upd (o := .lst (rgV 0 (m : Int))) nL)
    generalize L2.upd H1 L (.lst (rgV 0 (m : Int))) = H2 at eL s2 ⊢
    have hl : (rgV 0 (m : Int)).length = m := by rw [rgV_length]; omega
    refine ⟨_, rfl, L, _, 3, rfl, by decide, .inl (SqL.of eL), for_cb (fun i σ H3 => ∃ y2 y3 y4 y5 : Option V, σ = [some (.ref a), some (.ref L), y2, y3, y4, y5] ∧ Same H2 H3 ∧
      ∀ k l, k < i → (combs (rgV 0 (m : Int)).length 3)[k]? = some l → ¬ Mono e (l.getD 0 0) (l.getD 1 0) (l.getD 2 0)) ⟨none, none, none, none, rfl, Same.refl _, fun k l hk => absurd hk (Nat.not_lt_zero _)⟩ ?_ ?_⟩
    · rintro t l σ H3 T ht ⟨y2, y3, y4, y5, rfl, s3, done⟩ nT
      obtain ⟨i, j, k, rfl, hij, hjk, hk⟩ := combs_three (List.mem_of_getElem? ht)
      rw [hl] at hk
      have ep : cbPickV (rgV 0 (m : Int)) [i, j, k] = [.int (i : Nat), .int (j : Nat), .int (k : Nat)] := by
        show [(rgV 0 (m : Int)).getD i .non, (rgV 0 (m : Int)).getD j .non, (rgV 0 (m : Int)).getD k .non] = _
        rw [rgV_at (by omega), rgV_at (by omega), rgV_at (by omega)]
      rw [ep]
      have s4 := s3.trans (same_upd (o := .tup [.int (i : Nat), .int (j : Nat), .int (k : Nat)]) nT)
      have sW := (s2.trans s4).seq hW.1
      have hi : i < n := by omega
      have hj : j < n := by omega
      have hkn : k < n := by omega
      have hsz : ∀ j, (row n (e j)).length ≤ sizeLine := fun j => by rw [row_len]; exact Nat.le_trans hW.2.1 (by decide)
      refine ⟨T, _, rfl, SqT.of upd_same, rfl, _, _, rfl, _, _, rfl, _, _, rfl, rfl, ?_⟩
      refine ⟨_, rfl, _, rfl, a, _, _, .str (row n (e i)), rfl, rfl, sW, atI_nat (by rw [List.getElem?_map, web_at hi] <;> rfl), _, rfl, _, _, sg (e i j), rfl, rfl, hsz i, atI_nat (row_atL hj), ?_⟩
      refine ⟨_, rfl, _, rfl, _, rfl, a, _, _, .str (row n (e i)), rfl, rfl, sW, atI_nat (by rw [List.getElem?_map, web_at hi] <;> rfl), _, rfl, _, _, sg (e i k), rfl, rfl, hsz i, atI_nat (row_atL hkn), rfl, _, rfl, ?_⟩
      rw [sg_dec]
      have fin : ¬ Mono e i j k → ∃ y2' y3' y4' y5' : Option V, ((([some (V.ref a), some (.ref L), y2, y3, y4, y5].set 2 (some (.int (i : Nat)))).set 3 (some (.int (j : Nat)))).set 4 (some (.int (k : Nat)))).set 5 (some (.str ⟨#[sg (e i j)]⟩)) = [some (.ref a), some (.ref L), y2', y3', y4', y5'] ∧ Same H2 (upd H3 T (.tup [.int (i : Nat), .int (j : Nat), .int (k : Nat)])) ∧
          ∀ k' l, k' < t + 1 → (combs (rgV 0 (m : Int)).length 3)[k']? = some l → ¬ Mono e (l.getD 0 0) (l.getD 1 0) (l.getD 2 0) := fun hno => ⟨_, _, _, _, rfl, s4, fun k' l hk' hl' => by
        by_cases hkt : k' = t
        · subst hkt
          rw [ht] at hl'
          cases hl'
          exact hno
        · exact done k' l (by omega) hl'⟩
      by_cases h1 : e i j = e i k
      · rw [decide_eq_true h1]
        refine iteT ⟨_, rfl, _, rfl, a, _, _, .str (row n (e j)), rfl, rfl, sW, atI_nat (by rw [List.getElem?_map, web_at hj] <;> rfl), _, rfl, _, _, sg (e j k), rfl, rfl, hsz j, atI_nat (row_atL hkn), rfl, _, rfl, ?_⟩
        rw [sg_dec]
        by_cases h2 : e i k = e j k
        · rw [decide_eq_true h2]
          refine iteT ?_
          refine ⟨_, rfl, rfl, _, rfl, ?_⟩
          have ex : decide (V.str ⟨#[sg (e i j)]⟩ = V.str (Str.ofString "x")) = decide (e i j = true) := sg_dec (e i j) true
          rw [ex]
          have s5 := s2.trans s4
          have qq := qR
          generalize upd H3 T (.tup [.int (i : Nat), .int (j : Nat), .int (k : Nat)]) = H4 at s5 ⊢
          cases hc : e i j with
          | true =>
            refine iteT ⟨_, rfl, _, rfl, _, rfl, (by decide : (3 : Nat) ≤ sizeLine), fun Z nZ => ?_⟩
            intro x dx nx ndx nex
            have s6 := s5.trans (same_upd (o := .lst [.int (i : Nat), .int (j : Nat), .int (k : Nat)]) nZ)
            refine ⟨x, Z, dx, [.int (i : Nat), .int (j : Nat), .int (k : Nat)], rfl, upd_same, SqL.of ?_, fun l H' nl e1 e2 kp => ⟨rfl, qR H' x l dx i j k hij hjk hk ⟨h1, h2⟩ (fun b o eb => ?_) (by rw [hc]; exact e2) e1⟩⟩
            · rw [upd_ne (ne_of_none upd_same nx), upd_ne (ne_of_none upd_same ndx)]
              exact upd_same
            · have eb3 := s6 b o eb
              refine kp b o ?_ (ne_of_none eb3 nx)
              rw [upd_ne (ne_of_none eb3 nx), upd_ne (ne_of_none eb3 ndx)]
              exact eb3
          | false =>
            refine iteF ⟨_, rfl, _, rfl, _, rfl, (by decide : (3 : Nat) ≤ sizeLine), fun Z nZ => ?_⟩
            intro x dx nx ndx nex
            have s6 := s5.trans (same_upd (o := .lst [.int (i : Nat), .int (j : Nat), .int (k : Nat)]) nZ)
            refine ⟨x, Z, dx, [.int (i : Nat), .int (j : Nat), .int (k : Nat)], rfl, upd_same, SqL.of ?_, fun l H' nl e1 e2 kp => ⟨rfl, qR H' x l dx i j k hij hjk hk ⟨h1, h2⟩ (fun b o eb => ?_) (by rw [hc]; exact e2) e1⟩⟩
            · rw [upd_ne (ne_of_none upd_same nx), upd_ne (ne_of_none upd_same ndx)]
              exact upd_same
            · have eb3 := s6 b o eb
              refine kp b o ?_ (ne_of_none eb3 nx)
              rw [upd_ne (ne_of_none eb3 nx), upd_ne (ne_of_none eb3 ndx)]
              exact eb3
        · rw [decide_eq_false h2]
          exact iteF (fin fun z => h2 z.2)
      · rw [decide_eq_false h1]
        exact iteF ⟨_, rfl, iteF (fin fun z => h1 z.1)⟩
    · rintro σ H3 ⟨y2, y3, y4, y5, rfl, s3, done⟩
      refine qN H3 (s2.trans s3) fun i j k hij hjk hk => ?_
      have hm := three_combs hij hjk (by rw [hl]; exact hk : k < (rgV 0 (m : Int)).length)
      obtain ⟨t, ht⟩ := List.getElem?_of_mem hm
      exact done t _ (List.getElem?_eq_some_iff.mp ht).1 ht
end
end AK
set_option Elab.async false
set_option linter.all false
namespace AK
theorem pig5 : ∀ a b c d f : Bool, (a = b ∧ b = c) ∨ (a = b ∧ b = d) ∨ (a = b ∧ b = f) ∨ (a = c ∧ c = d) ∨ (a = c ∧ c = f) ∨ (a = d ∧ d = f) ∨ (b = c ∧ c = d) ∨ (b = c ∧ c = f) ∨ (b = d ∧ d = f) ∨ (c = d ∧ d = f) := by decide
theorem ramsey_at {e : Nat → Nat → Bool} {i j k : Nat} (h0 : 0 < i) (hij : i < j) (hjk : j < k) (hk : k < 6) (h : e 0 i = e 0 j ∧ e 0 j = e 0 k) : ∃ i j k, i < j ∧ j < k ∧ k < 6 ∧ Mono e i j k := by
  obtain ⟨h1, h2⟩ := h
  by_cases a : e i j = e 0 j
  · exact ⟨0, i, j, h0, hij, by omega, h1, a.symm⟩
  by_cases b : e i k = e 0 k
  · exact ⟨0, i, k, h0, by omega, hk, h1.trans h2, b.symm⟩
  by_cases c : e j k = e 0 k
  · exact ⟨0, j, k, by omega, hjk, hk, h2, c.symm⟩
  refine ⟨i, j, k, hij, hjk, hk, ?_, ?_⟩
  · revert a b h1 h2
    cases e i j <;> cases e i k <;> cases e 0 i <;> cases e 0 j <;> cases e 0 k <;> simp
  · revert b c
    cases e i k <;> cases e j k <;> cases e 0 k <;> simp
/-- of six people three are alike -/
theorem ramsey6 (e : Nat → Nat → Bool) : ∃ i j k, i < j ∧ j < k ∧ k < 6 ∧ Mono e i j k := by
  rcases pig5 (e 0 1) (e 0 2) (e 0 3) (e 0 4) (e 0 5) with h | h | h | h | h | h | h | h | h | h
  · exact ramsey_at (i := 1) (j := 2) (k := 3) (by decide) (by decide) (by decide) (by decide) h
  · exact ramsey_at (i := 1) (j := 2) (k := 4) (by decide) (by decide) (by decide) (by decide) h
  · exact ramsey_at (i := 1) (j := 2) (k := 5) (by decide) (by decide) (by decide) (by decide) h
  · exact ramsey_at (i := 1) (j := 3) (k := 4) (by decide) (by decide) (by decide) (by decide) h
  · exact ramsey_at (i := 1) (j := 3) (k := 5) (by decide) (by decide) (by decide) (by decide) h
  · exact ramsey_at (i := 1) (j := 4) (k := 5) (by decide) (by decide) (by decide) (by decide) h
  · exact ramsey_at (i := 2) (j := 3) (k := 4) (by decide) (by decide) (by decide) (by decide) h
  · exact ramsey_at (i := 2) (j := 3) (k := 5) (by decide) (by decide) (by decide) (by decide) h
  · exact ramsey_at (i := 2) (j := 4) (k := 5) (by decide) (by decide) (by decide) (by decide) h
  · exact ramsey_at (i := 3) (j := 4) (k := 5) (by decide) (by decide) (by decide) (by decide) h
/-- three answers None just where no three are alike -/
theorem none_three {n : Nat} {e : Nat → Nat → Bool} (h : ∀ i j k, i < j → j < k → k < min n 6 → ¬ Mono e i j k) : ∀ i j k, i < j → j < k → k < n → ¬ Mono e i j k := by
  rcases Nat.lt_or_ge n 6 with hn | hn
  · rw [Nat.min_eq_left (by omega)] at h
    exact h
  · rw [Nat.min_eq_right hn] at h
    obtain ⟨i, j, k, h1, h2, h3, m⟩ := ramsey6 e
    exact absurd m (h i j k h1 h2 h3)
end AK
set_option Elab.async false
set_option linter.all false
set_option maxRecDepth 100000
set_option maxHeartbeats 4000000
namespace AK
open PySem PySem.Spec PyProof.Rows L2
section
variable {P : Program} {w : World} {K : PySem.W.Frag} {mg : Str → Option Value} {base : Heap}
/-! ### _all_threes -/
theorem scThrees : FnScope ["size"] ["size"] (defScope sThrees) := ⟨rfl, rfl, rfl, by decide +kernel, rfl, by decide +kernel, by decide +kernel⟩
def threesN (z : Int) : Int := z * (z - 1) * (z - 2) / 6
def spThrees (K : PySem.W.Frag) : Sp := fun vs H Q _ => ∃ z : Int, vs = [.int z] ∧ z.natAbs < 2 ^ 128 ∧ Q (.int (threesN z)) H
theorem ok_threes {f : Addr} {fd : FuncData} (F : Fun K "_all_threes" "_all_threes" sThrees f fd) : FnOk P w K mg base CX0 1 f fd ["size"] (spThrees K) := by
  refine F.ok scThrees (fun vs H Q E h => ?_) (fun cdv A outer s H vs Q E hr h => ?_)
  · obtain ⟨i, rfl, _⟩ := h
    rfl
  · obtain ⟨z, rfl, hz, q⟩ := h
    refine ⟨_, pss_one (ps_ret (pe_op op_fdivW (pe_op op_mulW (pe_op op_mulW (pv 0) (pe_op op_sub (pv 0) pe_int)) (pe_op op_sub (pv 0) pe_int)) pe_int)), ?_⟩
    have h1 : (z - 1).natAbs < 2 ^ 129 := by omega
    have h2 : (z - 2).natAbs < 2 ^ 129 := by omega
    have h3 := wide_lt hz h1
    refine ⟨_, rfl, _, rfl, _, _, rfl, rfl, _, _, rfl, rfl, wide_mul hz h1 (by decide) (by decide) (by decide), _, rfl, _, _, rfl, rfl, _, _, rfl, rfl, wide_mul h3 h2 (by decide) (by decide) (by decide), _, _, rfl, rfl, wide_div (by decide) (b := 3) (by decide) (by decide) (by decide), ?_⟩
    exact q
/-! ### fewest -/
theorem scFewest : FnScope ["size", "mixed"] ["size"] (defScope sFewest) := ⟨rfl, rfl, rfl, by decide +kernel, rfl, by decide +kernel, by decide +kernel⟩
def fewestN (z : Int) : Int := threesN z - z * ((z - 1) * (z - 1) / 4) / 2
def spFewest (K : PySem.W.Frag) : Sp := fun vs H Q _ => ∃ z : Int, vs = [.int z] ∧ 0 ≤ z ∧ z.natAbs < 2 ^ 128 ∧ Q (.int (fewestN z)) H
theorem ok_fewest {f fC fT : Addr} {fd fdC fdT : FuncData} (F : Fun K "fewest" "fewest" sFewest f fd) (GC : FnOk P w K mg base CX0 2 fC fdC ["value", "least", "most"] (spCount K)) (FC : FunC K fC fdC) {ds : List Value} (bC : Binds K fdC ["value", "least", "most"] ds) (dC : Vals [.non] ds) (gC : mg "check_count" = some (.ref fC))
    (FT : Fun K "_all_threes" "_all_threes" sThrees fT fdT) (bT : Binds K fdT ["size"] []) (gT : mg "_all_threes" = some (.ref fT)) : FnOk P w K mg base CX0 3 f fd ["size"] (spFewest K) := by
  have GT : FnOk P w K mg base CX0 1 fT fdT ["size"] (spThrees K) := ok_threes FT
  refine F.ok scFewest (fun vs H Q E h => ?_) (fun cdv A outer s H vs Q E hr h => ?_)
  · obtain ⟨i, rfl, _⟩ := h
    rfl
  · obtain ⟨z, rfl, h0, hz, q⟩ := h
    refine ⟨_, pss_cons (ps_expr (pe_call GC hr (by rfl) gC FC.kp bC dC pass0 (pa_cons (pv 0) (pa_cons pe_int pa_nil))))
      (pss_cons (ps_set (i := 1) scFewest.nd rfl (.inl rfl) (pe_op op_mulW (pv 0) (pe_op op_fdivW (pe_op op_mulW (pe_op op_sub (pv 0) pe_int) (pe_op op_sub (pv 0) pe_int)) pe_int)))
      (pss_one (ps_ret (pe_op op_sub (pe_call GT (hr.mono (by decide)) (by rfl) gT FT.kp bT .nil pass0 (pa_cons (pv 0) pa_nil)) (pe_op op_fdivW (pv 1) pe_int))))), ?_⟩
    refine ⟨_, rfl, z, 0, .non, rfl, h0, .inl rfl, ?_⟩
    have h1 : (z - 1).natAbs < 2 ^ 129 := by omega
    have h3 := wide_lt h1 h1
    have h4 : ((z - 1) * (z - 1) / 4).natAbs < 2 ^ 258 := by
      have : 0 ≤ (z - 1) * (z - 1) := by
        have := Int.natAbs_mul_self' (z - 1)
        rw [← this]
        exact Int.ofNat_nonneg _
      omega
    refine ⟨_, rfl, _, rfl, _, _, rfl, rfl, _, rfl, _, _, rfl, rfl, _, _, rfl, rfl, wide_mul h1 h1 (by decide) (by decide) (by decide), _, _, rfl, rfl, wide_div (by decide) (b := 3) (by decide) (by decide) (by decide), _, _, rfl, rfl, wide_mul hz h4 (by decide) (by decide) (by decide), ?_⟩
    refine ⟨_, rfl, z, rfl, hz, _, rfl, _, _, rfl, rfl, wide_div (by decide) (b := 3) (by decide) (by decide) (by decide), _, _, rfl, rfl, ?_⟩
    exact q
/-! ### alike -/
theorem scAlike : FnScope ["web", "counts", "mixed", "size"] ["web"] (defScope sAlike) := ⟨rfl, rfl, rfl, by decide +kernel, rfl, by decide +kernel, by decide +kernel⟩
def mixedN (n : Nat) (e : Nat → Nat → Bool) : Int := ((degs n e).map fun d => d * ((n : Int) - 1 - d)).sum
def alikeN (n : Nat) (e : Nat → Nat → Bool) : Int := threesN n - mixedN n e / 2
def spAlike (K : PySem.W.Frag) (Ts : List Addr) : Sp := fun vs H Q _ => ∃ (a : Addr) (n : Nat) (e : Nat → Nat → Bool), vs = [.ref a] ∧ WebAt K H a n e ∧ Tb Ts H ∧ ∀ H', SmT Ts H H' → Q (.int (alikeN n e)) H'
theorem degs_mem {n : Nat} {e : Nat → Nat → Bool} {d : Int} (h : d ∈ degs n e) : 0 ≤ d ∧ d ≤ n := by
  unfold degs at h
  obtain ⟨i, _, rfl⟩ := List.mem_map.mp h
  have := deg_le n (e i)
  omega
theorem mixed_le {n : Nat} (hn : n ≤ 200) : ∀ ds : List Int, ds.length ≤ 200 → (∀ d ∈ ds, 0 ≤ d ∧ d ≤ n) → -(40000 * 200 : Int) ≤ (ds.map fun d => d * ((n : Int) - 1 - d)).sum ∧ (ds.map fun d => d * ((n : Int) - 1 - d)).sum ≤ 40000 * 200 := by
  intro ds hl hd
  have key : ∀ ds : List Int, (∀ d ∈ ds, 0 ≤ d ∧ d ≤ n) → -(40000 * (ds.length : Int)) ≤ (ds.map fun d => d * ((n : Int) - 1 - d)).sum ∧ (ds.map fun d => d * ((n : Int) - 1 - d)).sum ≤ 40000 * (ds.length : Int) := by
    intro ds
    induction ds with
    | nil => intro _; simp
    | cons d r ih =>
      intro h
      obtain ⟨i1, i2⟩ := ih fun x hx => h x (List.mem_cons_of_mem _ hx)
      obtain ⟨d0, d1⟩ := h d (List.mem_cons_self ..)
      rw [List.map_cons, List.sum_cons, List.length_cons]
      have b1 : d * ((n : Int) - 1 - d) ≤ 40000 := by
        have h1 : (n : Int) - 1 - d ≤ 200 := by omega
        have h2 : d * ((n : Int) - 1 - d) ≤ d * 200 := Int.mul_le_mul_of_nonneg_left h1 d0
        omega
      have b2 : -40000 ≤ d * ((n : Int) - 1 - d) := by
        have h1 : -1 ≤ (n : Int) - 1 - d := by omega
        have h2 : d * (-1) ≤ d * ((n : Int) - 1 - d) := Int.mul_le_mul_of_nonneg_left h1 d0
        omega
      omega
  obtain ⟨k1, k2⟩ := key ds hd
  omega
/-- many * (size - 1 - many) -/
theorem elt_mixed {X : Cx} {Pa : Addr} {σ : L2.St} {scope : Scope} {j k : Nat} {n : Int} {C : V → Prop} {p1 p2 p3 p4 p5 p6 p7 : Pos} (hN : X.N[j]? = some ("size" : Str)) (hσ : σ[j]? = some (some (.int n))) (hk : X.env.scope.names.lookup ("size" : Str) = some NameKind.cell)
    (hclo : ∀ (cells : List (Str × Addr)) (c : Addr), cells.lookup ("size" : Str) = some c → (cloFrom cells scope.names []).lookup ("size" : Str) = some c) (hsk : scope.kind = .function) (hl : scope.names.lookup ("many" : Str) = some NameKind.local) (hf : scope.names.lookup ("size" : Str) = some NameKind.free)
    (hC : ∀ v, C v → ∃ i : Int, v = .int i ∧ -(2 ^ 64) < i ∧ i < 2 ^ 64) :
    ElV X Pa scope "many" (.BinOp (.Name "many" p1) .Mult (.BinOp (.BinOp (.Name "size" p2) .Sub (.Constant (.int 1) k p3) p4) .Sub (.Name "many" p5) p6) p7) σ C (fun v => match v with | .int i => .int (i * (n - 1 - i)) | _ => .non) := by
  intro pins s0 H1 I hP cenv A' E' v u s3 m ea hCv rv hn hm
  obtain ⟨i, rfl, b1, b2⟩ := hC v hCv
  obtain ⟨uc, cc, rc, hcl, _, _, hcell⟩ := cap_at I hP ea hN hσ hk hclo
  have hst : Stays fun s => (∃ m, s.heap.Ns cenv.locals m ∧ m ("many" : Str) = some u) ∧ s.heap.IsCell cc (some uc) := fun s s' ⟨⟨m, q1, q2⟩, o, q3, q4⟩ ⟨h', t', e, kp⟩ => by
    subst e
    exact ⟨⟨m, q1.keeps kp, q2⟩, o, kp _ _ q3, q4⟩
  have kk : cenv.scope.kind = .function := by rw [ea.sc]; exact hsk
  have nm : ∀ {p : Pos}, Pk X.prog X.w A' cenv (fun s => (∃ m, s.heap.Ns cenv.locals m ∧ m ("many" : Str) = some u) ∧ s.heap.IsCell cc (some uc)) (.Name "many" p) (.int i) := fun {p} =>
    pk_nm kk fun s ⟨⟨m, q1, q2⟩, _⟩ => ⟨u, rv, .inl ⟨show cenv.scope.names.lookup ("many" : Str) = some NameKind.local by rw [ea.sc]; exact hl, m, q1, q2⟩⟩
  have ns : ∀ {p : Pos}, Pk X.prog X.w A' cenv (fun s => (∃ m, s.heap.Ns cenv.locals m ∧ m ("many" : Str) = some u) ∧ s.heap.IsCell cc (some uc)) (.Name "size" p) (.int n) := fun {p} =>
    pk_nm kk fun s ⟨_, q⟩ => ⟨uc, rc, .inr (.inl ⟨show cenv.scope.names.lookup ("size" : Str) = some NameKind.free by rw [ea.sc]; exact hf, cc, hcl, q⟩)⟩
  exact (pk_mul hst nm (pk_sub hst (pk_sub hst ns pk_int) nm) ⟨b1, b2⟩).run E' s3 ⟨⟨m, hn, hm⟩, hcell⟩
theorem ok_alike {c f fI fT Pt : Addr} {fd fdI fdT : FuncData} {Ts : List Addr} (F : FunR K "alike" "alike" sAlike c f fd) (TB : GxR.TabB base mg c Pt) (hPt : Pt ∈ Ts) (GI : FnOk P w K mg base CX0 3 fI fdI ["web"] (spTies K)) (FI : Fun K "ties" "ties" sTies fI fdI) (bI : Binds K fdI ["web"] []) (gI : mg "ties" = some (.ref fI))
    (FT : Fun K "_all_threes" "_all_threes" sThrees fT fdT) (bT : Binds K fdT ["size"] []) (gT : mg "_all_threes" = some (.ref fT)) (B : Bl mg) : FnOk P w K mg base CX0 4 f fd ["web"] (spAlike K Ts) := by
  have GT : FnOk P w K mg base CX0 1 fT fdT ["size"] (spThrees K) := ok_threes FT
  refine F.ok scAlike (fun vs H Q E h => ?_) (fun A outer s H vs Q E hr h => ?_)
  · obtain ⟨a, n, e, rfl, _⟩ := h
    rfl
  · obtain ⟨a, n, e, rfl, hA, hT, q⟩ := h
    refine ⟨_, pss_cons (ps_set (i := 1) scAlike.nd rfl (.inl rfl) (pe_call GI hr (by rfl) gI FI.kp bI .nil pass0 (pa_cons (pv 0) pa_nil)))
      (pss_cons (ps_set (i := 3) scAlike.nd rfl (.inr rfl) (pe_callB call_len_seq (by rfl) B.len PySem.boot_len (pa_cons (pv 1) pa_nil)))
      (pss_cons (ps_set (i := 2) scAlike.nd rfl (.inl rfl) (pe_sumG hr TB rfl (genS_of rfl rfl (by decide +kernel) rfl rfl (by decide +kernel)) (pv 1) (fun _ => rfl) rfl (by rfl) B.sum))
      (pss_one (ps_ret (pe_op op_sub (pe_call GT (hr.mono (by decide)) (by rfl) gT FT.kp bT .nil pass0 (pa_cons (pv 3) pa_nil)) (pe_op op_fdiv (pv 2) pe_int)))))), ?_⟩
    refine ⟨.ref a, rfl, a, n, e, rfl, hA, fun H1 p s1 np e1 => ?_⟩
    refine ⟨.ref p, rfl, p, _, rfl, .inl (SqL.of e1), ?_⟩
    have el : ((degs n e).map V.int).length = n := by rw [List.length_map, degs_len]
    rw [el]
    have hT1 : Tb Ts H1 := (SmT.of s1).2 hT
    refine ⟨.ref p, rfl, p, degs n e, fun d => d * ((n : Int) - 1 - d), rfl, SqL.of e1, hT1 Pt hPt, ?_, fun H2 t2 => ?_⟩
    · exact elt_mixed (j := 3) (n := (n : Int)) rfl rfl rfl (fun cells c h => by
        show List.lookup _ [((Str.ofString "size"), (cells.lookup (Str.ofString "size")).getD 0)] = _
        rw [h] <;> rfl) rfl rfl rfl fun v ⟨i, hi, ev⟩ => ⟨i, ev, by have := degs_mem hi; omega, by have := degs_mem hi; have := hA.2.1; omega⟩
    · have s2 : SmT Ts H H2 := (SmT.of s1).trans (SmT.tab hPt t2)
      have hn := hA.2.1
      refine ⟨_, rfl, (n : Int), rfl, by omega, _, rfl, mixedN n e, 2, rfl, rfl, ⟨by decide, by decide⟩, _, _, rfl, rfl, ?_⟩
      exact q H2 s2
end
end AK
set_option Elab.async false
set_option linter.all false
namespace AK
/-- the sum of f over what lies below n -/
def S : Nat → (Nat → Int) → Int
  | 0, _ => 0
  | n + 1, f => S n f + f n
theorem S_congr {f g : Nat → Int} : ∀ {n : Nat}, (∀ i, i < n → f i = g i) → S n f = S n g
  | 0, _ => rfl
  | n + 1, h => by
    show S n f + f n = S n g + g n
    rw [S_congr fun i hi => h i (by omega), h n (by omega)]
theorem S_add (f g : Nat → Int) : ∀ n, S n (fun i => f i + g i) = S n f + S n g
  | 0 => rfl
  | n + 1 => by
    show S n (fun i => f i + g i) + (f n + g n) = S n f + f n + (S n g + g n)
    rw [S_add f g n]
    omega
theorem S_mul (c : Int) (f : Nat → Int) : ∀ n, S n (fun i => c * f i) = c * S n f
  | 0 => by simp [S]
  | n + 1 => by
    show S n (fun i => c * f i) + c * f n = c * (S n f + f n)
    rw [S_mul c f n, Int.mul_add]
theorem S_one : ∀ n : Nat, S n (fun _ => 1) = n
  | 0 => rfl
  | n + 1 => by
    show S n (fun _ => 1) + 1 = _
    rw [S_one n]
    omega
theorem S_zero : ∀ n : Nat, S n (fun _ => 0) = 0
  | 0 => rfl
  | n + 1 => by
    show S n (fun _ => 0) + 0 = 0
    rw [S_zero n]
    rfl
/-- over all pairs: over i < j both ways, and over the same twice -/
theorem S_pairs (f : Nat → Nat → Int) : ∀ n, S n (fun v => S n (f v)) = S n (fun j => S j fun i => f i j + f j i) + S n fun i => f i i
  | 0 => rfl
  | n + 1 => by
    show S n (fun v => S n (f v) + f v n) + (S n (f n) + f n n) = S n (fun j => S j fun i => f i j + f j i) + S n (fun i => f i n + f n i) + (S n (fun i => f i i) + f n n)
    rw [S_add, S_add, S_pairs f n]
    omega
def ix (b : Bool) : Int := if b = true then 1 else 0
def mono (e : Nat → Nat → Bool) (i j k : Nat) : Bool := decide (e i j = e i k ∧ e i k = e j k)
/-- how many threes have it -/
def tri (n : Nat) (g : Nat → Nat → Nat → Int) : Int := S n fun k => S k fun j => S j fun i => g i j k
/-- twice the threes that are not alike, by people -/
theorem twice {N : Nat} {e : Nat → Nat → Bool} (sym : ∀ i j, i < N → j < N → e i j = e j i) (irr : ∀ i, i < N → e i i = false) : ∀ n, n ≤ N →
    2 * tri n (fun i j k => 1 - ix (mono e i j k)) = S n fun v => S n (fun u => ix (e v u)) * ((n : Int) - 1 - S n (fun u => ix (e v u)))
  | 0, _ => rfl
  | n + 1, hn => by
    have ih := twice sym irr n (by omega)
    have key : 2 * S n (fun j => S j fun i => 1 - ix (mono e i j n)) = S n (fun v => S n fun u => ix (e v u) + ix (e v n) * (ix (decide (u ≠ v)) - 2 * ix (e v u)) + ix (e v n) * (1 - ix (e u n))) := by
      rw [S_pairs, ← S_mul]
      have z : S n (fun i => ix (e i i) + ix (e i n) * (ix (decide (i ≠ i)) - 2 * ix (e i i)) + ix (e i n) * (1 - ix (e i n))) = 0 := (S_congr fun i hi => by
        rw [irr i (by omega)]
        cases e i n <;> simp [ix]).trans (S_zero n)
      rw [z, Int.add_zero]
      refine S_congr fun j hj => ?_
      rw [← S_mul]
      refine S_congr fun i hi => ?_
      rw [sym j i (by omega) (by omega)]
      have h1 : decide (j ≠ i) = true := decide_eq_true (by omega)
      have h2 : decide (i ≠ j) = true := decide_eq_true (by omega)
      rw [h1, h2]
      unfold mono
      cases e i j <;> cases e i n <;> cases e j n <;> simp [ix]
    have ne : ∀ v, v < n → S n (fun u => ix (decide (u ≠ v))) = (n : Int) - 1 := fun v hv => by
      have q : ∀ m, S m (fun u => ix (decide (u ≠ v))) = (m : Int) - ix (decide (v < m)) := fun m => by
        induction m with
        | zero => simp [S, ix]
        | succ m ihm =>
          show S m (fun u => ix (decide (u ≠ v))) + ix (decide (m ≠ v)) = _
          rw [ihm]
          by_cases h1 : m = v
          · subst h1
            simp [ix]
          · by_cases h2 : v < m
            · have h3 : v < m + 1 := by omega
              simp [ix, h1, h2, h3]
            · have h3 : ¬ v < m + 1 := by omega
              simp [ix, h1, h2, h3]
      rw [q n]
      simp [ix, hv]
    have D : ∀ v, v < n → S n (fun u => ix (e v u) + ix (e v n) * (ix (decide (u ≠ v)) - 2 * ix (e v u)) + ix (e v n) * (1 - ix (e u n))) =
        S n (fun u => ix (e v u)) + ix (e v n) * ((n : Int) - 1 - 2 * S n (fun u => ix (e v u))) + ix (e v n) * ((n : Int) - S n (fun u => ix (e u n))) := fun v hv => by
      rw [S_add, S_add, S_mul, S_mul]
      have e1 : S n (fun u => ix (decide (u ≠ v)) - 2 * ix (e v u)) = (n : Int) - 1 - 2 * S n (fun u => ix (e v u)) := by
        have : (fun u => ix (decide (u ≠ v)) - 2 * ix (e v u)) = fun u => ix (decide (u ≠ v)) + (-2) * ix (e v u) := by
          funext u; omega
        rw [this, S_add, S_mul, ne v hv]
        omega
      have e2 : S n (fun u => 1 - ix (e u n)) = (n : Int) - S n (fun u => ix (e u n)) := by
        have : (fun u => 1 - ix (e u n)) = fun u => 1 + (-1) * ix (e u n) := by
          funext u; omega
        rw [this, S_add, S_mul, S_one]
        omega
      rw [e1, e2]
    show 2 * (tri n (fun i j k => 1 - ix (mono e i j k)) + S n (fun j => S j fun i => 1 - ix (mono e i j n))) = S n (fun v => (S n (fun u => ix (e v u)) + ix (e v n)) * (((n + 1 : Nat) : Int) - 1 - (S n (fun u => ix (e v u)) + ix (e v n)))) +
      (S n (fun u => ix (e n u)) + ix (e n n)) * (((n + 1 : Nat) : Int) - 1 - (S n (fun u => ix (e n u)) + ix (e n n)))
    rw [Int.mul_add, ih, key, S_congr D, irr n (by omega)]
    have en : S n (fun u => ix (e n u)) = S n fun u => ix (e u n) := S_congr fun u hu => by rw [sym n u (by omega) (by omega)]
    rw [en]
    have ste : S n (fun v => (S n (fun u => ix (e v u)) + ix (e v n)) * (((n + 1 : Nat) : Int) - 1 - (S n (fun u => ix (e v u)) + ix (e v n)))) =
        S n (fun v => S n (fun u => ix (e v u)) * ((n : Int) - 1 - S n (fun u => ix (e v u)))) + S n (fun v => S n (fun u => ix (e v u)) + ix (e v n) * ((n : Int) - 1 - 2 * S n (fun u => ix (e v u)))) := (S_congr fun v hv => by
      generalize S n (fun u => ix (e v u)) = d
      have hc : ((n + 1 : Nat) : Int) = (n : Int) + 1 := by omega
      rw [hc]
      cases e v n <;> simp only [ix] <;> grind).trans (S_add _ _ n)
    rw [ste]
    have last : S n (fun v => S n (fun u => ix (e v u)) + ix (e v n) * ((n : Int) - 1 - 2 * S n (fun u => ix (e v u))) + ix (e v n) * ((n : Int) - S n (fun u => ix (e u n)))) =
        S n (fun v => S n (fun u => ix (e v u)) + ix (e v n) * ((n : Int) - 1 - 2 * S n (fun u => ix (e v u)))) + S n (fun v => ix (e v n)) * ((n : Int) - S n (fun u => ix (e u n))) := by
      rw [S_add]
      congr 1
      have : (fun v => ix (e v n) * ((n : Int) - S n (fun u => ix (e u n)))) = fun v => ((n : Int) - S n (fun u => ix (e u n))) * ix (e v n) := by
        funext v; exact Int.mul_comm _ _
      rw [this, S_mul, Int.mul_comm]
    rw [last]
    have hc : ((n + 1 : Nat) : Int) - 1 = n := by omega
    rw [hc]
    have h0 : ix false = 0 := rfl
    rw [h0, Int.add_zero]
    omega
end AK
set_option Elab.async false
set_option linter.all false
namespace AK
theorem S_id : ∀ n : Nat, 2 * S n (fun i => (i : Int)) = (n : Int) * (n - 1)
  | 0 => rfl
  | n + 1 => by
    have ih := S_id n
    show 2 * (S n (fun i => (i : Int)) + n) = _
    have hc : ((n + 1 : Nat) : Int) = (n : Int) + 1 := by omega
    rw [hc]
    generalize S n (fun i => (i : Int)) = a at *
    grind
theorem tri_one : ∀ n : Nat, 6 * tri n (fun _ _ _ => 1) = (n : Int) * (n - 1) * (n - 2)
  | 0 => rfl
  | n + 1 => by
    have ih := tri_one n
    have i2 := S_id n
    show 6 * (tri n (fun _ _ _ => 1) + S n (fun j => S j fun _ => 1)) = _
    have e : S n (fun j => S j fun _ => 1) = S n (fun i => (i : Int)) := S_congr fun j _ => S_one j
    rw [e]
    have hc : ((n + 1 : Nat) : Int) = (n : Int) + 1 := by omega
    rw [hc]
    generalize S n (fun i => (i : Int)) = a at *
    generalize tri n (fun _ _ _ => 1) = b at *
    grind
theorem tri_sub (g : Nat → Nat → Nat → Int) (n : Nat) : tri n (fun i j k => 1 - g i j k) = tri n (fun _ _ _ => 1) - tri n g := by
  have sub : ∀ (f h : Nat → Int) (m : Nat), S m (fun i => f i - h i) = S m f - S m h := fun f h m => by
    have : (fun i => f i - h i) = fun i => f i + (-1) * h i := by
      funext i; omega
    rw [this, S_add, S_mul]
    omega
  unfold tri
  rw [← sub]
  refine S_congr fun k _ => ?_
  rw [← sub]
  refine S_congr fun j _ => ?_
  rw [← sub]
/-- the threes that are alike, by people -/
theorem alike_tri {n : Nat} {e : Nat → Nat → Bool} (sym : ∀ i j, i < n → j < n → e i j = e j i) (irr : ∀ i, i < n → e i i = false) :
    (n : Int) * (n - 1) * (n - 2) / 6 - (S n fun v => S n (fun u => ix (e v u)) * ((n : Int) - 1 - S n (fun u => ix (e v u)))) / 2 = tri n fun i j k => ix (mono e i j k) := by
  rw [← twice sym irr n (Nat.le_refl _), ← tri_one, tri_sub]
  omega
end AK
set_option Elab.async false
set_option linter.all false
namespace AK
theorem sum_range (f : Nat → Int) : ∀ n, ((List.range n).map f).sum = S n f
  | 0 => rfl
  | n + 1 => by
    rw [List.range_succ, List.map_append, List.sum_append, sum_range f n]
    simp [S]
theorem deg_S (p : Nat → Bool) : ∀ n, (deg n p : Int) = S n fun u => ix (p u)
  | 0 => rfl
  | n + 1 => by
    have ih := deg_S p n
    unfold deg at ih ⊢
    rw [List.range_succ, List.filter_append, List.length_append]
    show _ = S n (fun u => ix (p u)) + ix (p n)
    rw [← ih]
    cases h : p n <;> simp [ix, h]
/-- what alike answers is the number of threes that are alike -/
theorem alikeN_tri {n : Nat} {e : Nat → Nat → Bool} (W : IsWeb n e) : alikeN n e = tri n fun i j k => ix (mono e i j k) := by
  have h := alike_tri W.sym W.irr
  unfold alikeN threesN mixedN degs
  rw [List.map_map, sum_range, ← h]
  congr 3
  funext v
  show (deg n (e v) : Int) * ((n : Int) - 1 - (deg n (e v) : Int)) = _
  rw [deg_S]
end AK
set_option Elab.async false
set_option linter.all false
namespace AK
theorem S_le {c : Int} (f : Nat → Int) : ∀ n, (∀ i, i < n → f i ≤ c) → S n f ≤ n * c
  | 0, _ => by simp [S]
  | n + 1, h => by
    have ih := S_le f n fun i hi => h i (by omega)
    have h1 := h n (by omega)
    show S n f + f n ≤ _
    have hc : ((n + 1 : Nat) : Int) * c = n * c + c := by
      have : ((n + 1 : Nat) : Int) = (n : Int) + 1 := by omega
      rw [this, Int.add_mul, Int.one_mul]
    omega
theorem sq_nonneg (a : Int) : 0 ≤ a * a := by
  rcases Int.le_total 0 a with h | h
  · exact Int.mul_nonneg h h
  · have := Int.mul_nonneg (show 0 ≤ -a by omega) (show 0 ≤ -a by omega)
    grind
theorem half_most (m d : Int) : d * (m - d) ≤ m * m / 4 := by
  have h : 4 * (d * (m - d)) ≤ m * m := by
    have := sq_nonneg (m - 2 * d)
    grind
  omega
/-- fewest is no greater than what alike answers -/
theorem fewest_le (n : Nat) (e : Nat → Nat → Bool) : fewestN n ≤ alikeN n e := by
  have h : mixedN n e ≤ n * (((n : Int) - 1) * ((n : Int) - 1) / 4) := by
    unfold mixedN degs
    rw [List.map_map, sum_range]
    exact S_le _ _ fun i _ => half_most _ _
  unfold fewestN alikeN
  omega
/-! ### the two ways in which three are alike -/
def both (e : Nat → Nat → Bool) (c : Bool) (i j k : Nat) : Bool := decide (e i j = c ∧ e i k = c ∧ e j k = c)
theorem ix_mono (e : Nat → Nat → Bool) (i j k : Nat) : ix (mono e i j k) = ix (both e true i j k) + ix (both e false i j k) := by
  unfold mono both
  cases e i j <;> cases e i k <;> cases e j k <;> simp [ix]
theorem tri_add (g h : Nat → Nat → Nat → Int) (n : Nat) : tri n (fun i j k => g i j k + h i j k) = tri n g + tri n h := by
  unfold tri
  rw [← S_add]
  refine S_congr fun k _ => ?_
  rw [← S_add]
  refine S_congr fun j _ => ?_
  rw [← S_add]
theorem alike_both {n : Nat} {e : Nat → Nat → Bool} (W : IsWeb n e) : alikeN n e = tri n (fun i j k => ix (both e true i j k)) + tri n fun i j k => ix (both e false i j k) := by
  rw [alikeN_tri W, ← tri_add]
  unfold tri
  refine S_congr fun k _ => S_congr fun j _ => S_congr fun i _ => ix_mono _ _ _ _
/-- the web turned -/
def turnE (e : Nat → Nat → Bool) : Nat → Nat → Bool := fun i j => !(e i j) && decide (i ≠ j)
theorem turn_web {n : Nat} {e : Nat → Nat → Bool} (W : IsWeb n e) : IsWeb n (turnE e) where
  sym := fun i j hi hj => by
    unfold turnE
    rw [W.sym i j hi hj]
    by_cases h : i = j
    · simp [h]
    · simp [h, Ne.symm h]
  irr := fun i _ => by simp [turnE]
theorem turn_both (n : Nat) (e : Nat → Nat → Bool) (c : Bool) : tri n (fun i j k => ix (both (turnE e) c i j k)) = tri n fun i j k => ix (both e (!c) i j k) := by
  unfold tri
  refine S_congr fun k _ => S_congr fun j hj => S_congr fun i hi => ?_
  have h1 : decide (i ≠ j) = true := decide_eq_true (by omega)
  have h2 : decide (i ≠ k) = true := decide_eq_true (by omega)
  have h3 : decide (j ≠ k) = true := decide_eq_true (by omega)
  show ix (decide ((!(e i j) && decide (i ≠ j)) = c ∧ (!(e i k) && decide (i ≠ k)) = c ∧ (!(e j k) && decide (j ≠ k)) = c)) = ix (decide (e i j = !c ∧ e i k = !c ∧ e j k = !c))
  rw [h1, h2, h3]
  cases e i j <;> cases e i k <;> cases e j k <;> cases c <;> simp [ix]
/-- the web turned has as many -/
theorem alike_turn {n : Nat} {e : Nat → Nat → Bool} (W : IsWeb n e) : alikeN n (turnE e) = alikeN n e := by
  rw [alike_both W, alike_both (turn_web W), turn_both, turn_both]
  simp only [Bool.not_true, Bool.not_false]
  omega
end AK
set_option Elab.async false
set_option linter.all false
namespace AK
theorem S_nonneg {f : Nat → Int} : ∀ {n : Nat}, (∀ i, i < n → 0 ≤ f i) → 0 ≤ S n f
  | 0, _ => Int.le_refl 0
  | n + 1, h => by
    have ih := S_nonneg (f := f) (n := n) fun i hi => h i (by omega)
    have h1 := h n (by omega)
    show 0 ≤ S n f + f n
    omega
theorem S_pos {f : Nat → Int} : ∀ {n k : Nat}, k < n → 0 < f k → (∀ i, i < n → 0 ≤ f i) → 0 < S n f
  | n + 1, k, hk, h1, h => by
    show 0 < S n f + f n
    by_cases e : k = n
    · subst e
      have := S_nonneg (f := f) (n := k) fun i hi => h i (by omega)
      omega
    · have := S_pos (f := f) (n := n) (k := k) (by omega) h1 fun i hi => h i (by omega)
      have h2 := h n (by omega)
      omega
theorem ix_nonneg (b : Bool) : 0 ≤ ix b := by cases b <;> simp [ix]
theorem tri_zero {n : Nat} {e : Nat → Nat → Bool} (h : ∀ i j k, i < j → j < k → k < n → ¬ Mono e i j k) : tri n (fun i j k => ix (mono e i j k)) = 0 := by
  unfold tri
  refine (S_congr fun k hk => (S_congr fun j hj => (S_congr fun i hi => ?_).trans (S_zero j)).trans (S_zero k)).trans (S_zero n)
  have q : mono e i j k = false := decide_eq_false (h i j k hi hj hk)
  show ix (mono e i j k) = 0
  rw [q]
  rfl
theorem tri_pos {n i j k : Nat} {e : Nat → Nat → Bool} (hij : i < j) (hjk : j < k) (hk : k < n) (h : Mono e i j k) : 0 < tri n fun i j k => ix (mono e i j k) := by
  have nn : ∀ k j, 0 ≤ S j fun i => ix (mono e i j k) := fun k j => S_nonneg fun i _ => ix_nonneg _
  refine S_pos hk (S_pos hjk (S_pos hij ?_ fun i _ => ix_nonneg _) fun j _ => nn k j) fun k _ => S_nonneg fun j _ => nn k j
  have q : mono e i j k = true := decide_eq_true h
  show 0 < ix (mono e i j k)
  rw [q]
  decide
/-- alike is 0 just where no three are alike -/
theorem alike_zero {n : Nat} {e : Nat → Nat → Bool} (W : IsWeb n e) (h : ∀ i j k, i < j → j < k → k < min n 6 → ¬ Mono e i j k) : alikeN n e = 0 := by
  rw [alikeN_tri W]
  exact tri_zero (none_three h)
theorem alike_pos {n i j k : Nat} {e : Nat → Nat → Bool} (W : IsWeb n e) (hij : i < j) (hjk : j < k) (hk : k < n) (h : Mono e i j k) : 0 < alikeN n e := by
  rw [alikeN_tri W]
  exact tri_pos hij hjk hk h
/-- the three as people of an answer -/
theorem pairs_three {n i j k : Nat} {e : Nat → Nat → Bool} (hij : i < j) (hjk : j < k) (h : Mono e i j k) : Pairs e (e i j) [i, j, k] := by
  obtain ⟨h1, h2⟩ := h
  intro x y hxy hy
  have h3 : y < 3 := hy
  have c : (x = 0 ∧ y = 1) ∨ (x = 0 ∧ y = 2) ∨ (x = 1 ∧ y = 2) := by omega
  rcases c with ⟨rfl, rfl⟩ | ⟨rfl, rfl⟩ | ⟨rfl, rfl⟩
  · rfl
  · exact h1.symm
  · exact (h1.trans h2).symm
theorem rising_three {i j k n : Nat} (hij : i < j) (hjk : j < k) (hk : k < n) : rising n (-1) [(i : Int), (j : Int), (k : Int)] = true := by
  simp [rising]
  omega
end AK
set_option Elab.async false
set_option linter.all false
set_option maxRecDepth 100000
set_option maxHeartbeats 2000000
namespace AK
open PySem PySem.Spec PyProof.Rows L2
/-- names of a frame: its own by m, the module's by mg, the built-ins' by mb -/
structure FrN (env : Env) (m mg mb : Str → Option Value) (s : Shared) : Prop where
  ns : s.heap.Ns env.locals m
  gl : s.heap.Ns env.globals mg
  bl : s.heap.Ns env.builtins mb
theorem frN_stays {env : Env} {m mg mb : Str → Option Value} : Stays (FrN env m mg mb) := fun s s' F ⟨h', t', e, kp⟩ => by
  subst e
  exact ⟨F.ns.keeps kp, F.gl.keeps kp, F.bl.keeps kp⟩
section
variable {prog : Program} {w : World} {A : Around} {env : Env} {m mg mb : Str → Option Value} {Pre : Shared → Prop} {a b c : Expr} {pos p p2 : Pos} {i j k : Int} {v x y : V} {u : Value} {nm : Str}
theorem pk_own (hk : env.scope.kind = .function) (hx : env.kindOf nm = some .local) (h : m nm = some u) (r : RelV v u) (hd : (nm == ("__debug__" : Str)) = false := by decide) (hcd : (nm == ("__classdict__" : Str)) = false := by decide) : Pk prog w A env (FrN env m mg mb) (.Name nm pos) v :=
  pk_nm hk (fun s F => ⟨u, r, .inl ⟨hx, m, F.ns, h⟩⟩) hd hcd
theorem pk_bl {b : Bool} {n : Nat} : Pk prog w A env Pre (.Constant (.bool b) n pos) (.bl b) := ⟨fun E s _ => Constant_bool ⟨rfl, kp_tok s s.toks⟩⟩
/-- f(a), f(a, b), f a built-in -/
theorem pk_b1 {id : String} {pf : Pos} (hk : env.scope.kind = .function) (hf : env.kindOf nm = some .globalImplicit) (hm : mg nm = none) (hv : mb nm = some (.builtin id)) (ha : Pk prog w A env (FrN env m mg mb) a x)
    (rule : ∀ (E : Value → Shared → Prop) (s : Shared) (u : Value), RelV x u → wpAny (model prog w) A (call (.builtin id) [u]) (fun r s' => RelV v r ∧ Keeps s s') E s) (he : starEach [a] env = (false, eval a env) :: starEach [] env) (hd : (nm == ("__debug__" : Str)) = false := by decide) :
    Pk prog w A env (FrN env m mg mb) (.Call (.Name nm pf) [a] [] pos) v := ⟨fun E s F => by
  refine wpAny_Call_Name_kw (Calls.Name_function_global hk hf (Calls.loadGlobal_builtin F.gl hm F.bl hv ?_) hd)
  refine callWith_builtin1 ?_ he rfl
  rw [he]
  show wpAny _ _ (spliced ((false, eval a env) :: backTo pos (starEach [] env))) _ _ s
  refine Calls.spliced_cons (thn (ha.run E s F) fun u s1 ⟨r1, k1⟩ => Calls.spliced_nil (thn (rule E s1 u r1) fun q s2 ⟨r2, k2⟩ => ⟨r2, kp_trans k1 k2⟩))⟩
theorem pk_b2 {id : String} {pf : Pos} (hk : env.scope.kind = .function) (hf : env.kindOf nm = some .globalImplicit) (hm : mg nm = none) (hv : mb nm = some (.builtin id)) (ha : Pk prog w A env (FrN env m mg mb) a x) (hb : Pk prog w A env (FrN env m mg mb) b y)
    (rule : ∀ (E : Value → Shared → Prop) (s : Shared) (u u' : Value), RelV x u → RelV y u' → wpAny (model prog w) A (call (.builtin id) [u, u']) (fun r s' => RelV v r ∧ Keeps s s') E s) (he : starEach [a, b] env = (false, eval a env) :: starEach [b] env) (he2 : starEach [b] env = (false, eval b env) :: starEach [] env) (hd : (nm == ("__debug__" : Str)) = false := by decide) :
    Pk prog w A env (FrN env m mg mb) (.Call (.Name nm pf) [a, b] [] pos) v := ⟨fun E s F => by
  refine wpAny_Call_Name_kw (Calls.Name_function_global hk hf (Calls.loadGlobal_builtin F.gl hm F.bl hv ?_) hd)
  refine callWith_builtin1 ?_ he (by rw [he2] <;> rfl)
  rw [he, he2]
  show wpAny _ _ (spliced ((false, eval a env) :: (false, eval b env) :: backTo pos (starEach [] env))) _ _ s
  refine Calls.spliced_cons (thn (ha.run E s F) fun u s1 ⟨r1, k1⟩ => Calls.spliced_cons (thn (hb.run E s1 (frN_stays s s1 F k1)) fun u' s2 ⟨r2, k2⟩ => Calls.spliced_nil (thn (rule E s2 u u' r1 r2) fun q s3 ⟨r3, k3⟩ => ⟨r3, kp_trans (kp_trans k1 k2) k3⟩)))⟩
theorem r_abs (E : Value → Shared → Prop) (s : Shared) (u : Value) (h : RelV (.int i) u) : wpAny (model prog w) A (call (.builtin "abs") [u]) (fun r s' => RelV (.int (if i < 0 then -i else i)) r ∧ Keeps s s') E s := by
  obtain ⟨t, rfl⟩ := h
  exact call_abs_int fun u tk => ⟨⟨_, rfl⟩, kp_tok s tk⟩
theorem r_min (hh : A.handled = none) (E : Value → Shared → Prop) (s : Shared) (u u' : Value) (h : RelV (.int i) u) (h' : RelV (.int j) u') : wpAny (model prog w) A (call (.builtin "min") [u, u']) (fun r s' => RelV (.int (if j < i then j else i)) r ∧ Keeps s s') E s := by
  obtain ⟨t, rfl⟩ := h
  obtain ⟨t', rfl⟩ := h'
  refine min_two_ints hh fun h' tk k => ⟨?_, h', tk, rfl, k⟩
  by_cases hj : j < i
  · rw [if_pos hj, if_pos hj]; exact ⟨_, rfl⟩
  · rw [if_neg hj, if_neg hj]; exact ⟨_, rfl⟩
theorem pk_fdiv (hst : Stays Pre) (ha : Pk prog w A env Pre a (.int i)) (hb : Pk prog w A env Pre b (.int j)) (h1 : 0 < j) (h2 : j < 1073741824) : Pk prog w A env Pre (.BinOp a .FloorDiv b pos) (.int (i / j)) := ⟨fun E s hp => by
  refine wpAny_BinOp (pk_two hst ha hb hp fun u v s' ⟨t, e1⟩ ⟨t', e2⟩ k => ?_)
  subst e1 e2
  exact floordiv_int (by omega) (by rw [Int.fdiv_eq_ediv_of_nonneg i (by omega)]; exact ⟨⟨_, rfl⟩, kp_trans k (kp_tok _ _)⟩) (.inl (PyProof.noPylong_small (by omega)))⟩
theorem pk_mod (hst : Stays Pre) (ha : Pk prog w A env Pre a (.int i)) (hb : Pk prog w A env Pre b (.int j)) (h1 : 0 < j) : Pk prog w A env Pre (.BinOp a .Mod b pos) (.int (i % j)) := ⟨fun E s hp => by
  refine wpAny_BinOp (pk_two hst ha hb hp fun u v s' ⟨t, e1⟩ ⟨t', e2⟩ k => ?_)
  subst e1 e2
  exact mod_int' (by omega) (by rw [Int.fmod_eq_emod_of_nonneg i (by omega)]; exact ⟨⟨_, rfl⟩, kp_trans k (kp_tok _ _)⟩)⟩
theorem pk_eqI (hst : Stays Pre) (ha : Pk prog w A env Pre a (.int i)) (hb : Pk prog w A env Pre b (.int j)) (hm : behindInMarks .Eq b = false) : Pk prog w A env Pre (.Compare a [.Eq] [b] pos) (.bl (decide (i = j))) := ⟨fun E s hp => by
  refine wpAny_Compare1 (pk_two hst ha hb hp fun u v s' ⟨t, e1⟩ ⟨t', e2⟩ k => ?_) hm
  subst e1 e2
  exact eq_int (by rw [Bool.beq_eq_decide_eq]; exact ⟨rfl, k⟩)⟩
/-- a in (b, c), three ints -/
theorem pk_in2 {n : Nat} {pt : Pos} (hst : Stays Pre) (ha : Pk prog w A env Pre a (.int i)) (hb : Pk prog w A env Pre b (.int j)) (hc : Pk prog w A env Pre c (.int k)) (hm : behindInMarks .In (.Tuple [b, c] n pt) = false)
    (he : starEach [b, c] env = (false, eval b env) :: starEach [c] env) (he2 : starEach [c] env = (false, eval c env) :: starEach [] env) : Pk prog w A env Pre (.Compare a [.In] [.Tuple [b, c] n pt] pos) (.bl (decide (i = j) || decide (i = k))) := ⟨fun E s hp => by
  refine wpAny_Compare1 (thn (ha.run E s hp) fun u s1 ⟨r1, k1⟩ => ?_) hm
  have hp1 := hst _ _ hp k1
  refine wpAny_Tuple_spliced ?_
  rw [he, he2]
  show wpAny _ _ (spliced ((false, eval b env) :: (false, eval c env) :: backTo pt (starEach [] env))) _ _ s1
  refine Calls.spliced_cons (thn (hb.run E s1 hp1) fun u1 s2 ⟨r2, k2⟩ => Calls.spliced_cons (thn (hc.run E s2 (hst _ _ hp1 k2)) fun u2 s3 ⟨r3, k3⟩ => Calls.spliced_nil ⟨?_, ?_⟩))
  · exact (show 2 ≤ sizeLine by decide)
  · have rr : Vals [.int j, .int k] [u1, u2] := .cons r2 (.cons r3 .nil)
    refine SeqAt.in_tupleAt (items := #[u1, u2]) (eqU (.int i)) ?_ (fun w hw => mem_eqAt r1 rfl rr rfl w (by simpa using hw)) ?_
    · exact ⟨_, Heap.get?_push_size _ rfl, rfl, _, rfl⟩
    · rw [show [u1, u2].toArray.any (eqU (.int i)) = [u1, u2].any (eqU (.int i)) by simp, any_eqU rr rfl]
      refine ⟨?_, kp_trans k1 (kp_trans k2 (kp_trans k3 ⟨_, s3.toks, rfl, fun b o e => Heap.get?_push_of_some _ e⟩))⟩
      show Value.bool _ = .bool _
      congr 1
      simp [eqV, Bool.beq_eq_decide_eq, eq_comm]⟩
end
end AK
set_option Elab.async false
set_option linter.all false
set_option maxRecDepth 100000
set_option maxHeartbeats 2000000
namespace AK
open PySem PySem.Spec PyProof.Rows L2
def apartI (i j : Int) : Int := if i - j < 0 then -(i - j) else i - j
def knowI (i j n : Int) : Bool :=
  (decide (1 ≤ (if n - apartI i j < apartI i j then n - apartI i j else apartI i j)) && decide ((if n - apartI i j < apartI i j then n - apartI i j else apartI i j) ≤ (n - 1) / 4)) || ((decide (n % 4 = 0) || decide (n % 4 = 3)) && decide (apartI i j = n / 2))
section
variable {prog : Program} {w : World} {A : Around} {env : Env} {Pre : Shared → Prop} {a b c : Expr} {pos p p2 : Pos} {i j k : Int} {x y : Bool}
theorem pk_and (hst : Stays Pre) (ha : Pk prog w A env Pre a (.bl x)) (hb : Pk prog w A env Pre b (.bl y)) : Pk prog w A env Pre (.BoolOp .And [a, b] pos) (.bl (x && y)) := ⟨fun E s hp => by
  refine PyProof.Rows.BoolOp_and (thn (ha.run E s hp) fun u s1 ⟨r1, k1⟩ => ?_)
  obtain rfl : u = Value.bool x := r1
  refine wpAny_truthy_bool ?_
  cases x with
  | true => exact PyProof.Rows.BoolOp_one (thn (hb.run E s1 (hst _ _ hp k1)) fun u s2 ⟨r2, k2⟩ => ⟨r2, kp_trans k1 k2⟩)
  | false => exact ⟨rfl, k1⟩⟩
/-- a <= b <= c of ints, as a test -/
theorem tk_chain {whole : Sem Value} (hst : Stays Pre) (ha : Pk prog w A env Pre a (.int i)) (hb : Pk prog w A env Pre b (.int j)) (hc : Pk prog w A env Pre c (.int k)) {E : Value → Shared → Prop} {s : Shared} {Q : Bool → Shared → Prop} (hp : Pre s)
    (h : ∀ s', Keeps s s' → Q (decide (i ≤ j) && decide (j ≤ k)) s') (hm : lastMarks [.LtE, .LtE] [b, c] = false := by with_unfolding_all rfl) :
    wpAny (model prog w) A (isTrue (.Compare a [.LtE, .LtE] [b, c] pos) env whole) Q E s := by
  refine PyProof.Rows.isTrue_chain ?_ hm
  refine thn (ha.run E s hp) fun u s1 ⟨⟨t, e1⟩, k1⟩ => ?_
  subst e1
  have hp1 := hst _ _ hp k1
  refine PyProof.Rows.test_link (thn (hb.run E s1 hp1) fun u s2 ⟨⟨t2, e2⟩, k2⟩ => ?_)
  subst e2
  refine PyProof.Rows.le_int (wpAny_truthy_bool ?_)
  cases hd : decide (i ≤ j) with
  | false =>
    rw [hd, Bool.false_and] at h
    exact h _ (kp_trans k1 k2)
  | true =>
    rw [hd, Bool.true_and] at h
    refine PyProof.Rows.test_last (thn (hc.run E s2 (hst _ _ hp1 k2)) fun u s3 ⟨⟨t3, e3⟩, k3⟩ => ?_)
    subst e3
    exact PyProof.Rows.le_int (wpAny_truthy_bool (h _ (kp_trans k1 (kp_trans k2 k3))))
end
section
variable {P : Program} {w : World} {K : PySem.W.Frag} {mg : Str → Option Value} {base : Heap}
theorem scKnow : FnScope ["one", "other", "size", "apart"] ["one", "other", "size"] (defScope sKnow) := ⟨rfl, rfl, rfl, by decide +kernel, rfl, by decide +kernel, by decide +kernel⟩
theorem know_call {f : Addr} {fd : FuncData} (F : Fun K "_know_in_ring" "_know_in_ring" sKnow f fd) (Md : Mod K mg base) (B : Bl mg) {A : Around} (hh : A.handled = none) (hd : A.depth < recursionLimit) {s : Shared} (hb : ∀ b o, base.get? b = some o → s.heap.get? b = some o)
    {i j n : Int} {u1 u2 u3 : Value} (r1 : RelV (.int i) u1) (r2 : RelV (.int j) u2) (r3 : RelV (.int n) u3) {E : Value → Shared → Prop} : wpAny (model P w) A (call (.ref f) [u1, u2, u3]) (fun r s' => r = .bool (knowI i j n) ∧ Keeps s s') E s := by
  obtain ⟨oc, od, kV, doc, pm, an, cdv, ct, osl, rfl, lk, hcd⟩ := F.ex
  have KX : K.In s.heap := Md.kin.keeps hb
  have lim : s.heap.NoLimit := Md.nolimit.keeps hb
  obtain ⟨mb, hmb, hbb⟩ := Md.blt
  refine wpAny_call ?_
  refine codeAny_call_function hd (KX _ _ lk) rfl scKnow.co scKnow.gen rfl (PySem.W.codeRec_of KX hcd) ?_
  have hbn : bindArgs (PySem.W.fnOf "_know_in_ring" "_know_in_ring" (defArgs sKnow) (defBody sKnow) (defScope sKnow) Value.none kV doc pm an cdv ct) ⟨[u1, u2, u3], []⟩ = pure ((["one", "other", "size"] : List Str).zip [u1, u2, u3]) := by rfl
  rw [hbn]
  refine wpAny_pure ?_
  refine wpAny_newFunctionEnv_cells scKnow.kind (fun ⟨n, v⟩ hy => .inl ?_) fun env he s1 x => ?_
  · rcases scKnow.par n (List.of_mem_zip hy).1 with q | q
    · exact q
    · have : n ∈ (["one", "other", "size"] : List Str) := (List.of_mem_zip hy).1
      simp only [List.mem_cons, List.not_mem_nil, or_false] at this
      rcases this with rfl | rfl | rfl <;> rfl
  subst he
  refine ⟨lim.keeps x.toInCall.keep, codeAny_func ?_⟩
  have hk1 : (envOfC "_know_in_ring" (defScope sKnow) s.heap.objs.size f cdv).scope.kind = .function := scKnow.kind
  obtain ⟨h1, tk1, rfl, kp1⟩ := x.done
  have kf : ∀ y : Str, (envOfC "_know_in_ring" (defScope sKnow) s.heap.objs.size f cdv).kindOf y = (defScope sKnow).names.lookup y := fun _ => rfl
  -- the frame
  have ns1 : h1.Ns s.heap.objs.size (bindL (envOfC "_know_in_ring" (defScope sKnow) s.heap.objs.size f cdv).kindOf ((["one", "other", "size"] : List Str).zip [u1, u2, u3]) fun _ => none) := x.toInCall.ns
  have nd : (["one", "other", "size"] : List Str).Nodup := by decide +kernel
  have g1 : bindL (envOfC "_know_in_ring" (defScope sKnow) s.heap.objs.size f cdv).kindOf ((["one", "other", "size"] : List Str).zip [u1, u2, u3]) (fun _ => none) "one" = some u1 := bindL_get (i := 0) nd rfl rfl rfl
  have g2 : bindL (envOfC "_know_in_ring" (defScope sKnow) s.heap.objs.size f cdv).kindOf ((["one", "other", "size"] : List Str).zip [u1, u2, u3]) (fun _ => none) "other" = some u2 := bindL_get (i := 1) nd rfl rfl rfl
  have g3 : bindL (envOfC "_know_in_ring" (defScope sKnow) s.heap.objs.size f cdv).kindOf ((["one", "other", "size"] : List Str).zip [u1, u2, u3]) (fun _ => none) "size" = some u3 := bindL_get (i := 2) nd rfl rfl rfl
  have F1 : FrN (envOfC "_know_in_ring" (defScope sKnow) s.heap.objs.size f cdv) (bindL (envOfC "_know_in_ring" (defScope sKnow) s.heap.objs.size f cdv).kindOf ((["one", "other", "size"] : List Str).zip [u1, u2, u3]) fun _ => none) mg mb { s with heap := h1, toks := tk1 } :=
    ⟨ns1, Md.glob.keeps fun b o e => kp1 b o (hb b o e), hmb.keeps fun b o e => kp1 b o (hb b o e)⟩
  generalize bindL (envOfC "_know_in_ring" (defScope sKnow) s.heap.objs.size f cdv).kindOf ((["one", "other", "size"] : List Str).zip [u1, u2, u3]) (fun _ => none) = m at *
  have mab : mb "abs" = some (.builtin "abs") := by rw [hbb _ (by decide)]; decide +kernel
  have mmi : mb "min" = some (.builtin "min") := by rw [hbb _ (by decide)]; decide +kernel
  refine wpAny_execs_cons (wpAny_Assign_Name ?_ (by rfl))
  have one1 : ∀ {A' : Around} {p : Pos}, Pk P w A' (envOfC "_know_in_ring" (defScope sKnow) s.heap.objs.size f cdv) (FrN (envOfC "_know_in_ring" (defScope sKnow) s.heap.objs.size f cdv) m mg mb) (.Name "one" p) (.int i) := pk_own hk1 rfl g1 r1
  have oth1 : ∀ {A' : Around} {p : Pos}, Pk P w A' (envOfC "_know_in_ring" (defScope sKnow) s.heap.objs.size f cdv) (FrN (envOfC "_know_in_ring" (defScope sKnow) s.heap.objs.size f cdv) m mg mb) (.Name "other" p) (.int j) := pk_own hk1 rfl g2 r2
  refine thn ((pk_b1 (v := .int (apartI i j)) hk1 rfl B.abs mab (pk_sub frN_stays one1 oth1) (fun E s u h => r_abs E s u h) rfl).run _ _ F1) fun u s2 ⟨⟨t4, e4⟩, h2, tk2, e2, kp2⟩ => ?_
  subst e4 e2
  refine wpAny_storeName_local (m := m) rfl (ns1.keeps kp2) (fun h3 ns3 sb3 => ?_)
  have kp3 : ∀ b o, s.heap.get? b = some o → h3.get? b = some o := fun b o e => by
    have hlt := Heap.lt_size e
    have ne : b ≠ s.heap.objs.size := fun z => by rw [z] at hlt; exact absurd hlt (Nat.lt_irrefl _)
    rw [sb3.2 b ne]
    exact kp2 b o (kp1 b o e)
  have F3 : FrN (envOfC "_know_in_ring" (defScope sKnow) s.heap.objs.size f cdv) (fun x => if x = "apart" then some (.int (apartI i j) t4) else m x) mg mb { s with heap := h3, toks := tk2 + 1 } :=
    ⟨ns3, Md.glob.keeps fun b o e => kp3 b o (hb b o e), hmb.keeps fun b o e => kp3 b o (hb b o e)⟩
  have ap : ∀ {A' : Around} {p : Pos}, Pk P w A' (envOfC "_know_in_ring" (defScope sKnow) s.heap.objs.size f cdv) (FrN (envOfC "_know_in_ring" (defScope sKnow) s.heap.objs.size f cdv) (fun x => if x = "apart" then some (.int (apartI i j) t4) else m x) mg mb) (.Name "apart" p) (.int (apartI i j)) := pk_own hk1 rfl (if_pos rfl) ⟨_, rfl⟩
  have sz : ∀ {A' : Around} {p : Pos}, Pk P w A' (envOfC "_know_in_ring" (defScope sKnow) s.heap.objs.size f cdv) (FrN (envOfC "_know_in_ring" (defScope sKnow) s.heap.objs.size f cdv) (fun x => if x = "apart" then some (.int (apartI i j) t4) else m x) mg mb) (.Name "size" p) (.int n) := pk_own hk1 rfl ((if_neg (by decide)).trans g3) r3
  refine wpAny_execs_cons (wpAny_If (tk_chain frN_stays pk_int (pk_b2 (v := .int (if n - apartI i j < apartI i j then n - apartI i j else apartI i j)) hk1 rfl B.min mmi ap (pk_sub frN_stays sz ap) (fun E s u u' h h' => r_min (by exact hh) E s u u' h h') rfl rfl) (pk_fdiv frN_stays (pk_sub frN_stays sz pk_int) pk_int (by decide) (by decide)) F3 (fun s4 k4 => ?_)))
  have kend : ∀ s', Keeps s4 s' → Keeps s s' := fun s' k => kp_trans (kp_trans ⟨h3, tk2 + 1, rfl, kp3⟩ k4) k
  have F4 := frN_stays _ _ F3 k4
  unfold knowI
  generalize (decide (1 ≤ if n - apartI i j < apartI i j then n - apartI i j else apartI i j) && decide ((if n - apartI i j < apartI i j then n - apartI i j else apartI i j) ≤ (n - 1) / 4)) = q1
  cases q1 with
  | true =>
    refine wpAny_execs_cons (wpAny_Return_some (thn (pk_bl.run _ _ F4) fun u s5 ⟨r5, k5⟩ => ⟨?_, kend _ k5⟩))
    rw [Bool.true_or]
    exact r5
  | false =>
    refine wpAny_execs_nil ?_
    refine wpAny_execs_cons (wpAny_Return_some (thn ((pk_and frN_stays (pk_in2 frN_stays (pk_mod frN_stays sz pk_int (by decide)) pk_int pk_int (by rfl) rfl rfl) (pk_eqI frN_stays ap (pk_fdiv frN_stays sz pk_int (by decide) (by decide)) (by rfl))).run _ _ F4) fun u s5 ⟨r5, k5⟩ => ⟨?_, kend _ k5⟩))
    rw [Bool.false_or]
    exact r5
end
end AK
set_option Elab.async false
set_option linter.all false
set_option maxRecDepth 100000
set_option maxHeartbeats 2000000
namespace AK
open PySem PySem.Spec PyProof.Rows L2
section
variable {X : Cx} {pins : List (Addr × Obj)} {σ : L2.St} {H : Hp} {s : Shared}
/-- a range as a source -/
theorem src_rng {P : Addr} {n : Nat} (I : Inv X pins σ H s) (hcs : ∃ ps, H P = some (.tbl ps)) :
    SrcAt X P s { s with heap := s.heap.push { cls := .type "range_iterator", data := .fields #[rawInt 0, rawInt (Builtin.Range.rangeSize 0 (n : Int) 1), rawInt 1] } } (.ref s.heap.objs.size) n (fun i v => i < n ∧ ∃ t, v = .int (i : Nat) t) := by
  obtain ⟨ps, hP⟩ := hcs
  have hPs : s.heap.get? P = some { cls := .none, data := .fields ps } := I.hok P _ hP
  have hPlt := Heap.lt_size hPs
  refine ⟨s.heap.objs.size, [s.heap.objs.size], [s.heap.objs.size], fun i h => IsRangeIter h s.heap.objs.size (0 + (i : Nat) * 1) ((n : Int) - (i : Nat)) 1, rfl, fun A' hA => ?_, ?_, fun b hb => ?_, fun b hb => ?_, ⟨_, s.toks, rfl⟩, fun b o e => Heap.get?_push_of_some _ e, ?_⟩
  · have W := Walks.range (prog := X.prog) (w := X.w) hA s.heap.objs.size 0 1 n
    exact W.mono_item fun i v hi ⟨t, e⟩ => ⟨hi, t, by rw [e, Int.mul_one, Int.zero_add]⟩
  · show IsRangeIter _ _ (0 + ((0 : Nat) : Int) * 1) ((n : Int) - ((0 : Nat) : Int)) 1
    have e2 : (n : Int) - ((0 : Nat) : Int) = Builtin.Range.rangeSize 0 n 1 := by rw [rangeSize_one]; split <;> omega
    rw [e2]
    exact Heap.get?_push_size _ rfl
  · rw [Heap.size_push]
    rw [List.mem_singleton.mp hb]; exact ⟨Nat.lt_succ_self _, Nat.ne_of_gt hPlt⟩
  · rw [List.mem_singleton.mp hb]; exact Nat.le_refl _
  · rw [Heap.size_push]; exact Nat.le_succ _
/-- the element: of a place below n the text f, all objects stand -/
def ElI (X : Cx) (P : Addr) (scope : Scope) (x : Str) (elt : Expr) (σ : L2.St) (n : Nat) (f : Nat → Str) : Prop :=
  ∀ (pins : List (Addr × Obj)) (s0 : Shared) (H1 : Hp), Inv X pins σ H1 s0 → (∃ ps, H1 P = some (.tbl ps)) → ∀ (cenv : Env) (A' : Around) (E' : Value → Shared → Prop) (i : Nat) (u : Value) (s3 : Shared) (m : Str → Option Value), EltAt X P s0 scope cenv A' s3 → i < n → RelV (.int i) u → s3.heap.Ns cenv.locals m → m x = some u →
    wpAny (model X.prog X.w) A' (eval elt cenv) (fun y s4 => (∃ t, y = .str (f i) t) ∧ Keeps s3 s4) E' s3
/-- sep.join(elt for x in range(e)) -/
def tJoinR (X : Cx) (P : Addr) (scope : Scope) (x : Str) (elt : Expr) (to : TE) (tr : L2.St → Hp → (Int → Int → Hp → Prop) → Prop) : TE := fun σ H Q => to σ H fun v H1 => ∃ sep : Str, v = .str sep ∧ tr σ H1 fun a b H2 => ∃ (n : Nat) (f : Nat → Str), a = 0 ∧ b = n ∧ n ≤ 16777216 ∧ GxR.TabG H2 P ∧
  ElI X P scope x elt σ n f ∧ JoinOk sep ((List.range n).map f) = true ∧ ∀ H3, GxR.Tabbed P H2 H3 → Q (.str (Txt.join sep ((List.range n).map f))) H3
theorem pe_joinR {c P : Addr} {o elt iter : Expr} {x : Str} {px apos cpos gpos : Pos} {scope : Scope} {to : TE} {tr : L2.St → Hp → (Int → Int → Hp → Prop) → Prop} {k : Nat}
    (hr : Room k X.A) (TB : GxR.TabB X.base X.mg c P) (hcode : X.env.code = .ref c) (S : GxR.GenS X.env scope x) (ho : PE X o to) (hi : PRg X iter tr)
    (hs : ∀ v, genFold iter X.env v = pure v) (hc : X.calm = true) (hbase : attributeBase o "join" X.env (eval o X.env) = eval o X.env := by rfl)
    (hfew : ((backTo cpos (starEach [.GeneratorExp elt [⟨.Name x px, iter, [], 0⟩] scope gpos] X.env)).all (fun x => !x.1) && (backToKw cpos (keywordEach [] X.env)).all (fun x => x.1.isSome)
      && decide (([.GeneratorExp elt [⟨.Name x px, iter, [], 0⟩] scope gpos] : List Expr).length + ([] : List Keyword).length + (if ([] : List Keyword).isEmpty then 0 else 1) < 30)) = true := by rfl)
    (hline : (apos.endLine == cpos.line) = true := by rfl)
    (he : starEach [.GeneratorExp elt [⟨.Name x px, iter, [], 0⟩] scope gpos] X.env = (false, eval (.GeneratorExp elt [⟨.Name x px, iter, [], 0⟩] scope gpos) X.env) :: starEach [] X.env := by rfl)
    (hplain : (backTo cpos (starEach [] X.env)).any (·.1) = false := by rfl) :
    PE X (.Call (.Attribute o "join" apos) [.GeneratorExp elt [⟨.Name x px, iter, [], 0⟩] scope gpos] [] cpos) (tJoinR X P scope x elt to tr) := by
  refine ⟨fun pins s σ H Q I h => ?_⟩
  refine wpAny_Call_method_late hbase hfew hline rfl (thn (ho.run pins s σ H _ I h) fun v s1 ⟨x', H1, I1, r1, sep, ex, q1⟩ => ?_)
  subst ex
  obtain ⟨tk, rfl⟩ := (show ∃ t, v = Value.str sep t from r1)
  refine ⟨"str", _, PySem.F.plainAttrs_str, PySem.F.slot_str_join, PySem.F.type_str_join, typeIs_str _ _ _, (fun _ e => nomatch e), ?_⟩
  rw [he]
  refine Calls.callWith_builtin (by show (false || (backTo cpos (starEach [] X.env)).any (·.1)) = false; rw [hplain] <;> rfl) (Calls.evalArgs_plain ?_)
  show wpAny _ _ (spliced ((false, eval (.GeneratorExp elt [⟨.Name x px, iter, [], 0⟩] scope gpos) X.env) :: backTo cpos (starEach [] X.env))) _ _ s1
  refine Calls.spliced_cons (gen_mk (σ := σ) (pins := pins) hr TB hcode S hs hc I1.ok (thn (hi pins s1 σ H1 _ I1 q1) fun xv s2 ⟨r, a, b, t, u, v, H2, ex2, hIR, I2, q2⟩ => ?_))
  subst ex2
  obtain ⟨n, f, rfl, rfl, hn, hT, hel, jok, hq⟩ := q2
  obtain ⟨ps, hP, ht⟩ := id hT
  refine wpAny_pyIter_range hIR (small_one (by omega) (by omega) (by omega) (by omega)) ⟨s2, H2, n, _, fun i y => ∃ t, y = .str (f i) t, I2, hT, src_rng I2 ⟨ps, hP⟩, fun cenv A' E' i v s3 m ea hv hn hm => ?_, fun g s5 hG => ?_⟩
  · obtain ⟨hi3, t3, rfl⟩ := hv
    exact hel pins s2 H2 I2 ⟨ps, hP⟩ cenv A' E' i _ s3 m ea hi3 ⟨_, rfl⟩ hn hm
  · refine Calls.spliced_nil ?_
    obtain ⟨fp, wr, G, St, W, hst, hfp, hgf, hTy, hinv⟩ := hG
    refine PySem.SC.joinGen W.in4_2 hTy hst hfp hgf (fun i v hv => let ⟨t, e⟩ := hv; ⟨_, t, e⟩) (fun s' l hm hio => ?_) (show n ≤ sizeLine from Nat.le_trans hn (by decide))
    have hl0 : l.length = n := by
      have e0 := hio.1
      rw [List.size_toArray] at e0
      unfold strValues at e0
      rw [List.length_map] at e0
      exact e0
    have e : l.map (·.1) = (List.range n).map f := by
      refine List.ext_getElem? fun j => ?_
      rw [List.getElem?_map, List.getElem?_map]
      cases hj : l[j]? with
      | none =>
        have h1 : (List.range n)[j]? = none := by
          rw [List.getElem?_eq_none_iff] at hj ⊢
          rw [List.length_range]
          omega
        rw [h1] <;> rfl
      | some p =>
        have hjn : j < n := by
          have := (List.getElem?_eq_some_iff.mp hj).1
          omega
        have h2 : (strValues l).toArray[j]? = some (.str p.1 p.2) := by
          show (strValues l).toArray[j]? = _
          rw [List.getElem?_toArray]
          unfold strValues
          rw [List.getElem?_map, hj] <;> rfl
        obtain ⟨t, ev⟩ := hio.2 j _ h2
        have e1 : p.1 = f j := by injection ev
        rw [List.getElem?_range hjn]
        show some p.1 = some (f j)
        rw [e1]
    obtain ⟨H3, ht3, J⟩ := hinv s' hm
    rw [e]
    exact ⟨jok, fun t' k' => ⟨.str _, H3, J.tok k', ⟨t', rfl⟩, hq H3 ht3⟩⟩
end
end AK
set_option Elab.async false
set_option linter.all false
set_option maxRecDepth 100000
set_option maxHeartbeats 4000000
namespace AK
open PySem PySem.Spec PyProof.Rows L2
def ringS (n i j : Nat) : Str := if knowI i j n = true then "x" else "-"
theorem el_ring {X : Cx} {Pt fK : Addr} {fdK : FuncData} {σ : L2.St} {scope : Scope} {i n k : Nat} {p1 p2 p3 p4 p5 p6 p7 p8 : Pos} (hr : Room k X.A) (FK : Fun X.K "_know_in_ring" "_know_in_ring" sKnow fK fdK) (gK : X.mg "_know_in_ring" = some (.ref fK)) (B : Bl X.mg) (C : Cn X.mg)
    (hN0 : X.N[0]? = some ("place" : Str)) (h0 : σ[0]? = some (some (.int i))) (hk0 : X.env.scope.names.lookup ("place" : Str) = some NameKind.cell) (hN1 : X.N[1]? = some ("size" : Str)) (h1 : σ[1]? = some (some (.int n))) (hk1 : X.env.scope.names.lookup ("size" : Str) = some NameKind.cell)
    (hclo0 : ∀ (cells : List (Str × Addr)) (c : Addr), cells.lookup ("place" : Str) = some c → (cloFrom cells scope.names []).lookup ("place" : Str) = some c)
    (hclo1 : ∀ (cells : List (Str × Addr)) (c : Addr), cells.lookup ("size" : Str) = some c → (cloFrom cells scope.names []).lookup ("size" : Str) = some c)
    (hsk : scope.kind = .function) (hl : scope.names.lookup ("other" : Str) = some NameKind.local) (hf0 : scope.names.lookup ("place" : Str) = some NameKind.free) (hf1 : scope.names.lookup ("size" : Str) = some NameKind.free)
    (hg1 : scope.names.lookup ("_know_in_ring" : Str) = some NameKind.globalImplicit) (hg2 : scope.names.lookup ("KNOWS" : Str) = some NameKind.globalImplicit) (hg3 : scope.names.lookup ("APART" : Str) = some NameKind.globalImplicit) :
    ElI X Pt scope "other" (.IfExp (.Call (.Name "_know_in_ring" p1) [.Name "place" p2, .Name "other" p3, .Name "size" p4] [] p5) (.Name "KNOWS" p6) (.Name "APART" p7) p8) σ n (ringS n i) := by
  intro pins s0 H1 I hP cenv A' E' j u s3 m ea hj rj hn hm
  obtain ⟨ps, hP⟩ := hP
  have hPn : H1 Pt ≠ none := by rw [hP]; exact fun z => nomatch z
  obtain ⟨u0, c0, r0, hc0, _, _, hcell0⟩ := cap_at I hPn ea hN0 h0 hk0 hclo0
  obtain ⟨u1, c1, r1, hc1, _, _, hcell1⟩ := cap_at I hPn ea hN1 h1 hk1 hclo1
  obtain ⟨tk, gk⟩ := C.knows
  obtain ⟨ta, ga⟩ := C.apart
  have kk : cenv.scope.kind = .function := by rw [ea.sc]; exact hsk
  have kof : ∀ y, cenv.kindOf y = scope.names.lookup y := fun y => by show cenv.scope.names.lookup y = _; rw [ea.sc]
  have old : ∀ b o, X.base.get? b = some o → s3.heap.get? b = some o := fun b o e => ea.old b o (fun z => by have := (I.bs b o e).2; rw [z, hP] at this; cases this) (I.bk b o e)
  have glob : s3.heap.Ns cenv.globals X.mg := by rw [ea.glob, I.ok.glob]; exact I.mod.glob.keeps old
  have KX : X.K.In s3.heap := I.mod.kin.keeps old
  have hd3 : A'.depth < recursionLimit := by have := hr.dp; have := ea.dp; omega
  refine PyProof.Rows.IfExp_ (isTrue_plain ?_ rfl)
  refine wpAny_Call_Name_kw (Calls.Name_function_global kk (by rw [kof]; exact hg1) (Calls.loadGlobal_global glob gK ?_))
  refine PySem.W.callWith_K (h₀ := X.base) I.mod.kin FK.kp ?_ rfl rfl
  show wpAny _ _ (spliced ((false, eval (.Name "place" p2) cenv) :: (false, eval (.Name "other" p3) cenv) :: (false, eval (.Name "size" p4) cenv) :: [])) _ _ s3
  refine Calls.spliced_cons (wpAny_Name (wpAny_loadName_free kk (by rw [kof]; exact hf0) hc0 hcell0 ?_ rfl) rfl)
  refine Calls.spliced_cons (wpAny_Name (wpAny_loadName_local kk (by rw [kof]; exact hl) hn hm ?_) rfl)
  refine Calls.spliced_cons (wpAny_Name (wpAny_loadName_free kk (by rw [kof]; exact hf1) hc1 hcell1 ?_ rfl) rfl)
  refine Calls.spliced_nil ⟨KX, ?_⟩
  refine thn (know_call FK I.mod B ea.hd hd3 old r0 rj r1) fun q s4 ⟨e4, k4⟩ => ?_
  subst e4
  refine wpAny_truthy_bool ?_
  obtain ⟨h4, t4, rfl, kp4⟩ := k4
  have glob4 : h4.Ns cenv.globals X.mg := glob.keeps kp4
  unfold ringS
  cases knowI (↑i) (↑j) (↑n) with
  | true => exact Calls.Name_function_global kk (by rw [kof]; exact hg2) (Calls.loadGlobal_global glob4 gk ⟨⟨_, rfl⟩, h4, t4, rfl, kp4⟩)
  | false => exact Calls.Name_function_global kk (by rw [kof]; exact hg3) (Calls.loadGlobal_global glob4 ga ⟨⟨_, rfl⟩, h4, t4, rfl, kp4⟩)
end AK
set_option Elab.async false
set_option linter.all false
set_option maxRecDepth 100000
set_option maxHeartbeats 4000000
namespace AK
open PySem PySem.Spec PyProof.Rows L2
theorem ring_join (n i : Nat) : Txt.join (Str.ofString "") ((List.range n).map (ringS n i)) = row n (fun j => knowI i j n) := by
  have e : (List.range n).map (ringS n i) = ((List.range n).map fun (j : Nat) => sg (knowI i j n)).map fun c => (⟨#[c]⟩ : Str) := by
    rw [List.map_map]
    refine List.map_congr_left fun j _ => ?_
    unfold ringS
    show _ = (⟨#[sg _]⟩ : Str)
    cases knowI (↑i) (↑j) (↑n) <;> rfl
  rw [e, join_signs] <;> rfl
theorem ring_ok {n i : Nat} (hn : n ≤ 200) : JoinOk (Str.ofString "") ((List.range n).map (ringS n i)) = true := by
  refine joinOk_of_weight ?_ (by decide)
  have e1 : (((List.range n).map (ringS n i)).map (·.length)).sum = n := by
    have : ∀ l : List Nat, ((l.map (ringS n i)).map (·.length)).sum = l.length := by
      intro l
      induction l with
      | nil => rfl
      | cons b l ih =>
        rw [List.map_cons, List.map_cons, List.sum_cons, ih, List.length_cons]
        have : (ringS n i b).length = 1 := by unfold ringS; split <;> rfl
        omega
    rw [this, List.length_range]
  rw [e1, List.length_map, List.length_range]
  omega
section
variable {P : Program} {w : World} {K : PySem.W.Frag} {mg : Str → Option Value} {base : Heap}
/-! ### _ring_row -/
theorem scRing : FnScope ["place", "size"] ["place", "size"] (defScope sRing) := ⟨rfl, rfl, rfl, by decide +kernel, rfl, by decide +kernel, by decide +kernel⟩
def spRing (K : PySem.W.Frag) (Ts : List Addr) : Sp := fun vs H Q _ => ∃ i n : Nat, vs = [.int i, .int n] ∧ n ≤ 200 ∧ Tb Ts H ∧ ∀ H', SmT Ts H H' → Q (.str (row n (fun j => knowI i j n))) H'
theorem ok_ring {c f fK Pt : Addr} {fd fdK : FuncData} {Ts : List Addr} (F : FunR K "_ring_row" "_ring_row" sRing c f fd) (TB : GxR.TabB base mg c Pt) (hPt : Pt ∈ Ts) (FK : Fun K "_know_in_ring" "_know_in_ring" sKnow fK fdK) (gK : mg "_know_in_ring" = some (.ref fK)) (B : Bl mg) (C : Cn mg) : FnOk P w K mg base CX0 1 f fd ["place", "size"] (spRing K Ts) := by
  refine F.ok scRing (fun vs H Q E h => ?_) (fun A outer s H vs Q E hr h => ?_)
  · obtain ⟨i, n, rfl, _⟩ := h
    rfl
  · obtain ⟨i, n, rfl, hn, hT, q⟩ := h
    refine ⟨_, pss_one (ps_ret (pe_joinR hr TB rfl (genS_of rfl rfl (by decide +kernel) rfl rfl (by decide +kernel)) pe_str (prg_1 (by rfl) B.range (pv 1)) (fun _ => rfl) rfl)), ?_⟩
    refine ⟨_, rfl, _, rfl, _, rfl, n, ringS n i, rfl, rfl, by omega, hT Pt hPt, ?_, ring_ok hn, fun H2 t2 => ?_⟩
    · exact el_ring hr FK gK B C rfl rfl rfl rfl rfl rfl (fun cells c h => by
        show List.lookup _ [((Str.ofString "size"), (cells.lookup (Str.ofString "size")).getD 0), ((Str.ofString "place"), (cells.lookup (Str.ofString "place")).getD 0)] = _
        rw [h] <;> rfl) (fun cells c h => by
        show List.lookup _ [((Str.ofString "size"), (cells.lookup (Str.ofString "size")).getD 0), ((Str.ofString "place"), (cells.lookup (Str.ofString "place")).getD 0)] = _
        rw [h] <;> rfl) rfl rfl rfl rfl rfl rfl rfl
    · rw [ring_join]
      exact q H2 (SmT.tab hPt t2)
/-! ### web_of -/
def ringE (n i j : Nat) : Bool := knowI i j n
theorem scWebOf : FnScope ["size", "place"] ["size"] (defScope sWebOf) := ⟨rfl, rfl, rfl, by decide +kernel, rfl, by decide +kernel, by decide +kernel⟩
def spWebOf (K : PySem.W.Frag) (Ts : List Addr) : Sp := fun vs H Q _ => ∃ n : Nat, vs = [.int n] ∧ n ≤ 200 ∧ Tb Ts H ∧ ∀ H' p, SmT Ts H H' → H p = none → H' p = some (.lst ((web n (ringE n)).map V.str)) → Q (.ref p) H'
theorem SmT.upd {Ts : List Addr} {H H1 : Hp} {D : Addr} {o : HO} {u : HO} (s : SmT Ts H H1) (nD : H D = none) (eD : H1 D = some u) (hu : ∀ ps, u ≠ .tbl ps) : SmT Ts H (L2.upd H1 D o) :=
  ⟨fun b p hb e => by rw [upd_ne (ne_of_none e nD)]; exact s.1 b p hb e, fun h => (s.2 h).put eD hu⟩
theorem ok_webOf {f fC fR : Addr} {fd fdC fdR : FuncData} {c : Addr} {Ts : List Addr} (F : Fun K "web_of" "web_of" sWebOf f fd) (GC : FnOk P w K mg base CX0 2 fC fdC ["value", "least", "most"] (spCount K)) (FC : FunC K fC fdC) (bC : Binds K fdC ["value", "least", "most"] []) (gC : mg "check_count" = some (.ref fC))
    (GR : FnOk P w K mg base CX0 1 fR fdR ["place", "size"] (spRing K Ts)) (FR : FunR K "_ring_row" "_ring_row" sRing c fR fdR) (bR : Binds K fdR ["place", "size"] []) (gR : mg "_ring_row" = some (.ref fR)) (B : Bl mg) (C : Cn mg) : FnOk P w K mg base CX0 3 f fd ["size"] (spWebOf K Ts) := by
  obtain ⟨tm, gm⟩ := C.most
  refine F.ok scWebOf (fun vs H Q E h => ?_) (fun cdv A outer s H vs Q E hr h => ?_)
  · obtain ⟨n, rfl, _⟩ := h
    rfl
  · obtain ⟨n, rfl, hn, hT, q⟩ := h
    refine ⟨_, pss_cons (ps_expr (pe_call GC hr (by rfl) gC FC.kp bC .nil pass0 (pa_cons (pv 0) (pa_cons pe_int (pa_cons (pe_glob (v := .int 200) rfl gm ⟨_, rfl⟩) pa_nil)))))
      (pss_one (ps_ret (pe_lc (own := [("place", 1)]) (g := gName 1) (tt := tYes) rfl scWebOf.nd (pi_range1 (by rfl) B.range (pa_cons (pv 0) pa_nil)) (blkOk_by (N := ["size", "place"]) (sc := defScope sWebOf) (by decide +kernel)) (fun _ _ _ _ _ => pg_name (i := 1) scWebOf.nd rfl (Or.inl rfl)) (fun _ _ _ _ _ => pts_nil)
        (fun _ _ _ _ _ => pe_call GR (hr.mono (by decide)) (by rfl) gR FR.kp bR .nil pass0 (pa_cons (pv 1) (pa_cons (pv 0) pa_nil)))))), ?_⟩
    refine ⟨_, rfl, (n : Int), 0, .int 200, rfl, by omega, .inr ⟨200, rfl, by omega⟩, ?_⟩
    refine ⟨_, rfl, (n : Int), rfl, by omega, by omega, fun D nD => lc_range (fun i H2 => SmT Ts H H2 ∧ H2 D = some (.lst (((web n (ringE n)).take i).map V.str))) ⟨SmT.of (same_upd nD), upd_same⟩ ?_ ?_⟩
    · rintro i H2 hi ⟨s2, e2⟩
      have hi : i < n := by omega
      have hT2 := s2.2 hT
      refine ⟨rfl, _, rfl, _, rfl, i, n, ?_, hn, hT2, fun H4 s4 => ?_⟩
      · rw [Int.zero_add]
        rfl
      · have e4 := s4.lst hT2 e2
        refine ⟨_, e4, ?_, (s2.trans s4).upd nD e4 (fun _ z => nomatch z), ?_⟩
        · rw [List.length_map, List.length_take, web_len]
          exact small1000 (by omega)
        · have et : ((web n (ringE n)).take (i + 1)).map V.str = ((web n (ringE n)).take i).map V.str ++ [V.str (row n (fun j => knowI i j n))] := by
            rw [List.take_add_one, web_at hi, List.map_append] <;> rfl
          rw [upd_same, et]
    · rintro H2 ⟨s2, e2⟩
      have en : (n : Int).toNat = n := by omega
      rw [en, List.take_of_length_le (by rw [web_len]; exact Nat.le_refl _)] at e2
      exact q H2 D s2 nD e2
end
end AK
set_option Elab.async false
set_option linter.all false
set_option maxRecDepth 100000
set_option maxHeartbeats 4000000
namespace AK
open PySem PySem.Spec PyProof.Rows L2
theorem know_iff {n i j : Nat} : knowI i j n = true ↔ (1 ≤ min (apartI i j) ((n : Int) - apartI i j) ∧ min (apartI i j) ((n : Int) - apartI i j) ≤ ((n : Int) - 1) / 4) ∨ (((n : Int) % 4 = 0 ∨ (n : Int) % 4 = 3) ∧ apartI i j = (n : Int) / 2) := by
  unfold knowI
  simp only [Bool.or_eq_true, Bool.and_eq_true, decide_eq_true_eq]
  have e : (if (n : Int) - apartI i j < apartI i j then (n : Int) - apartI i j else apartI i j) = min (apartI i j) ((n : Int) - apartI i j) := by
    split <;> omega
  rw [e]
theorem deg_succ (k : Nat) (e : Nat → Bool) : deg (k + 1) e = deg k e + if e k = true then 1 else 0 := by
  unfold deg
  rw [List.range_succ, List.filter_append, List.length_append]
  by_cases h : e k = true
  · rw [if_pos h, List.filter_cons_of_pos h] <;> rfl
  · rw [if_neg h, List.filter_cons_of_neg h] <;> rfl
def ivl (a b j : Nat) : Bool := decide (a ≤ j) && decide (j < b)
theorem ivl_iff {a b j : Nat} : ivl a b j = true ↔ a ≤ j ∧ j < b := by
  unfold ivl
  simp only [Bool.and_eq_true, decide_eq_true_eq]
theorem deg_ivl (a b : Nat) : ∀ k, deg k (ivl a b) = min k b - a
  | 0 => by show 0 = _; omega
  | k + 1 => by
    rw [deg_succ, deg_ivl a b k]
    by_cases h : ivl a b k = true
    · rw [if_pos h]
      rw [ivl_iff] at h
      omega
    · rw [if_neg h]
      rw [ivl_iff] at h
      omega
theorem deg_or {p q r : Nat → Bool} : ∀ k, (∀ j, j < k → (r j = true ↔ p j = true ∨ q j = true)) → (∀ j, j < k → p j = true → q j = true → False) → deg k r = deg k p + deg k q
  | 0, _, _ => rfl
  | k + 1, h, d => by
    rw [deg_succ, deg_succ, deg_succ, deg_or k (fun j hj => h j (by omega)) fun j hj => d j (by omega)]
    have h1 := h k (by omega)
    have d1 := d k (by omega)
    cases hp : p k <;> cases hq : q k <;> cases hr : r k <;> simp_all <;> omega
def nearN (n i j : Nat) : Bool := ((ivl (i - (n - 1) / 4) i j || ivl (i + 1) (i + (n - 1) / 4 + 1) j) || ivl 0 (i + (n - 1) / 4 + 1 - n) j) || ivl (i + n - (n - 1) / 4) n j
theorem near_deg {n i : Nat} (hn : 1 ≤ n) (hi : i < n) : deg n (nearN n i) = 2 * ((n - 1) / 4) := by
  unfold nearN
  rw [deg_or (p := fun j => (ivl (i - (n - 1) / 4) i j || ivl (i + 1) (i + (n - 1) / 4 + 1) j) || ivl 0 (i + (n - 1) / 4 + 1 - n) j) (q := ivl (i + n - (n - 1) / 4) n) n (fun j _ => by rw [Bool.or_eq_true]) (fun j hj h1 h2 => by
    simp only [Bool.or_eq_true, ivl_iff] at h1 h2; omega)]
  rw [deg_or (p := fun j => (ivl (i - (n - 1) / 4) i j || ivl (i + 1) (i + (n - 1) / 4 + 1) j)) (q := ivl 0 (i + (n - 1) / 4 + 1 - n)) n (fun j _ => by rw [Bool.or_eq_true]) (fun j hj h1 h2 => by
    simp only [Bool.or_eq_true, ivl_iff] at h1 h2; omega)]
  rw [deg_or (p := ivl (i - (n - 1) / 4) i) (q := ivl (i + 1) (i + (n - 1) / 4 + 1)) n (fun j _ => by rw [Bool.or_eq_true]) (fun j hj h1 h2 => by
    simp only [ivl_iff] at h1 h2; omega)]
  rw [deg_ivl, deg_ivl, deg_ivl, deg_ivl]
  omega
theorem near_iff {n i j : Nat} (hi : i < n) (hj : j < n) : nearN n i j = true ↔ (1 ≤ min (apartI i j) ((n : Int) - apartI i j) ∧ min (apartI i j) ((n : Int) - apartI i j) ≤ ((n : Int) - 1) / 4) := by
  unfold nearN
  simp only [Bool.or_eq_true, ivl_iff]
  unfold apartI
  split <;> omega
def halfN (n i j : Nat) : Bool := ivl (i + n / 2) (i + n / 2 + 1) j || ivl (i - n / 2) (i + 1 - n / 2) j
theorem half_deg {n i : Nat} (hn : 2 ≤ n) (hi : i < n) : deg n (halfN n i) = (min n (i + n / 2 + 1) - (i + n / 2)) + (i + 1 - n / 2 - (i - n / 2)) := by
  unfold halfN
  rw [deg_or (p := ivl (i + n / 2) (i + n / 2 + 1)) (q := ivl (i - n / 2) (i + 1 - n / 2)) n (fun j _ => by rw [Bool.or_eq_true]) (fun j hj h1 h2 => by
    simp only [ivl_iff] at h1 h2; omega)]
  rw [deg_ivl, deg_ivl]
  omega
theorem half_iff {n i j : Nat} (hi : i < n) (hj : j < n) (hn : 2 ≤ n) : halfN n i j = true ↔ apartI i j = (n : Int) / 2 := by
  unfold halfN
  simp only [Bool.or_eq_true, ivl_iff]
  unfold apartI
  split <;> omega
theorem ring_deg0 {n i : Nat} (hn : 1 ≤ n) (hi : i < n) (hr : n % 4 = 1 ∨ n % 4 = 2) : deg n (ringE n i) = 2 * ((n - 1) / 4) := by
  rw [← near_deg hn hi]
  have := deg_or (p := nearN n i) (q := fun _ => false) (r := ringE n i) n (fun j hj => by
    show knowI i j n = true ↔ _
    rw [know_iff, near_iff hi hj]
    constructor
    · rintro (h | h)
      · exact .inl h
      · omega
    · rintro (h | h)
      · exact .inl h
      · cases h) (fun _ _ _ h => by cases h)
  rw [this]
  have e : ∀ k, deg k (fun _ => false) = 0 := fun k => by
    induction k with
    | zero => rfl
    | succ k ih => rw [deg_succ, ih] <;> rfl
  rw [e, Nat.add_zero]
theorem ring_deg1 {n i : Nat} (hn : 3 ≤ n) (hi : i < n) (hr : n % 4 = 0 ∨ n % 4 = 3) : deg n (ringE n i) = 2 * ((n - 1) / 4) + ((min n (i + n / 2 + 1) - (i + n / 2)) + (i + 1 - n / 2 - (i - n / 2))) := by
  rw [← near_deg (by omega) hi, ← half_deg (by omega) hi]
  refine deg_or n (fun j hj => ?_) (fun j hj h1 h2 => ?_)
  · show knowI i j n = true ↔ _
    rw [know_iff, near_iff hi hj, half_iff hi hj (by omega)]
    constructor
    · rintro (h | h)
      · exact .inl h
      · exact .inr h.2
    · rintro (h | h)
      · exact .inl h
      · exact .inr ⟨by omega, h⟩
  · rw [near_iff hi hj] at h1
    rw [half_iff hi hj (by omega)] at h2
    omega
theorem sum_const (c : Int) (f : Nat → Int) (x : Nat) (d : Int) : ∀ k, (∀ i, i < k → f i = if i = x then d else c) → ((List.range k).map f).sum = k * c + if x < k then d - c else 0
  | 0, _ => by simp
  | k + 1, h => by
    rw [List.range_succ, List.map_append, List.sum_append, sum_const c f x d k fun i hi => h i (by omega), List.map_singleton, List.sum_singleton, h k (by omega)]
    have e : ((k + 1 : Nat) : Int) * c = k * c + c := by rw [Int.natCast_add, Int.add_mul]; omega
    rw [e]
    by_cases h1 : k = x
    · rw [if_pos h1, if_neg (by omega), if_pos (by omega)]; omega
    · rw [if_neg h1]
      by_cases h2 : x < k
      · rw [if_pos h2, if_pos (by omega)]; omega
      · rw [if_neg h2, if_neg (by omega)]; omega
theorem ring_web (n : Nat) : IsWeb n (ringE n) := by
  refine ⟨fun i j _ _ => ?_, fun i hi => ?_⟩
  · unfold ringE
    have e : apartI (i : Int) j = apartI j i := by unfold apartI; split <;> split <;> omega
    unfold knowI
    rw [e]
  · unfold ringE
    cases h : knowI i i n with
    | false => rfl
    | true =>
      rw [know_iff] at h
      unfold apartI at h
      split at h <;> omega
theorem mixed_ring (n : Nat) : mixedN n (ringE n) / 2 = (n : Int) * (((n : Int) - 1) * ((n : Int) - 1) / 4) / 2 := by
  by_cases h0 : n = 0
  · subst h0; decide
  have hn : 1 ≤ n := by omega
  unfold mixedN degs
  rw [List.map_map]
  obtain ⟨m, hm⟩ : ∃ m, n = 4 * m + n % 4 := ⟨n / 4, by omega⟩
  have hr : n % 4 = 0 ∨ n % 4 = 1 ∨ n % 4 = 2 ∨ n % 4 = 3 := by omega
  rcases hr with hr | hr | hr | hr
  · have ed : ∀ i, i < n → ((deg n (ringE n i) : Nat) : Int) = 2 * m - 1 := fun i hi => by
      rw [ring_deg1 (by omega) hi (.inl hr)]; omega
    rw [sum_const ((2 * m - 1) * (2 * m)) _ n 0 n fun i hi => by
      rw [if_neg (by omega)]
      show ((deg n (ringE n i) : Nat) : Int) * ((n : Int) - 1 - (deg n (ringE n i) : Nat)) = _
      rw [ed i hi]
      congr 1
      omega]
    rw [if_neg (Nat.lt_irrefl _)]
    have e1 : (n : Int) = 4 * m := by omega
    rw [e1]
    have e2 : (4 * (m : Int) - 1) * (4 * m - 1) = 4 * ((2 * m - 1) * (2 * m)) + 1 := by grind
    rw [e2]
    have e3 : (4 * ((2 * (m : Int) - 1) * (2 * m)) + 1) / 4 = (2 * m - 1) * (2 * m) := by omega
    rw [e3, Int.add_zero]
  · have ed : ∀ i, i < n → ((deg n (ringE n i) : Nat) : Int) = 2 * m := fun i hi => by
      rw [ring_deg0 hn hi (by omega)]; omega
    rw [sum_const ((2 * m) * (2 * m)) _ n 0 n fun i hi => by
      rw [if_neg (by omega)]
      show ((deg n (ringE n i) : Nat) : Int) * ((n : Int) - 1 - (deg n (ringE n i) : Nat)) = _
      rw [ed i hi]
      congr 1
      omega]
    rw [if_neg (Nat.lt_irrefl _)]
    have e1 : (n : Int) = 4 * m + 1 := by omega
    rw [e1]
    have e2 : (4 * (m : Int) + 1 - 1) * (4 * m + 1 - 1) = 4 * ((2 * m) * (2 * m)) := by grind
    rw [e2]
    have e3 : (4 * ((2 * (m : Int)) * (2 * m))) / 4 = (2 * m) * (2 * m) := by omega
    rw [e3, Int.add_zero]
  · have ed : ∀ i, i < n → ((deg n (ringE n i) : Nat) : Int) = 2 * m := fun i hi => by
      rw [ring_deg0 hn hi (by omega)]; omega
    rw [sum_const ((2 * m) * (2 * m + 1)) _ n 0 n fun i hi => by
      rw [if_neg (by omega)]
      show ((deg n (ringE n i) : Nat) : Int) * ((n : Int) - 1 - (deg n (ringE n i) : Nat)) = _
      rw [ed i hi]
      congr 1
      omega]
    rw [if_neg (Nat.lt_irrefl _)]
    have e1 : (n : Int) = 4 * m + 2 := by omega
    rw [e1]
    have e2 : (4 * (m : Int) + 2 - 1) * (4 * m + 2 - 1) = 4 * ((2 * m) * (2 * m + 1)) + 1 := by grind
    rw [e2]
    have e3 : (4 * ((2 * (m : Int)) * (2 * m + 1)) + 1) / 4 = (2 * m) * (2 * m + 1) := by omega
    rw [e3, Int.add_zero]
  · have ed : ∀ i, i < n → ((deg n (ringE n i) : Nat) : Int) = if i = 2 * m + 1 then 2 * m + 2 else 2 * m + 1 := fun i hi => by
      rw [ring_deg1 (by omega) hi (.inr hr)]
      by_cases hx : i = 2 * m + 1
      · rw [if_pos hx]; omega
      · rw [if_neg hx]; omega
    have e1 : (n : Int) = 4 * m + 3 := by omega
    rw [sum_const ((2 * m + 1) * (2 * m + 1)) _ (2 * m + 1) ((2 * m + 2) * (2 * m)) n fun i hi => by
      show ((deg n (ringE n i) : Nat) : Int) * ((n : Int) - 1 - (deg n (ringE n i) : Nat)) = _
      rw [ed i hi]
      by_cases hx : i = 2 * m + 1
      · rw [if_pos hx, if_pos hx]
        congr 1
        omega
      · rw [if_neg hx, if_neg hx]
        congr 1
        omega]
    rw [if_pos (by omega), e1]
    have e2 : (4 * (m : Int) + 3 - 1) * (4 * m + 3 - 1) = 4 * ((2 * m + 1) * (2 * m + 1)) := by grind
    rw [e2]
    have e3 : (4 * ((2 * (m : Int) + 1) * (2 * m + 1))) / 4 = (2 * m + 1) * (2 * m + 1) := by omega
    rw [e3]
    have e4 : (4 * (m : Int) + 3) * ((2 * m + 1) * (2 * m + 1)) = 2 * (8 * (m * m * m) + 14 * (m * m) + 8 * m + 1) + 1 := by grind
    have e5 : (2 * (m : Int) + 2) * (2 * m) - (2 * m + 1) * (2 * m + 1) = -1 := by grind
    rw [e4, e5]
    omega
theorem alike_ring (n : Nat) : alikeN n (ringE n) = fewestN n := by
  unfold alikeN fewestN
  rw [mixed_ring]
theorem mixed_sum_le (n : Int) : ∀ ds : List Int, (ds.map fun d => d * (n - 1 - d)).sum ≤ ds.length * ((n - 1) * (n - 1) / 4)
  | [] => by simp
  | d :: ds => by
    rw [List.map_cons, List.sum_cons, List.length_cons]
    have ih := mixed_sum_le n ds
    have e : ((ds.length + 1 : Nat) : Int) * ((n - 1) * (n - 1) / 4) = ds.length * ((n - 1) * (n - 1) / 4) + (n - 1) * (n - 1) / 4 := by rw [Int.natCast_add, Int.add_mul]; omega
    rw [e]
    have h1 : 4 * (d * (n - 1 - d)) = (n - 1) * (n - 1) - (n - 1 - 2 * d) * (n - 1 - 2 * d) := by grind
    have h2 : 0 ≤ (n - 1 - 2 * d) * (n - 1 - 2 * d) := by
      rw [← Int.natAbs_mul_self' (n - 1 - 2 * d)]
      exact Int.natCast_nonneg _
    omega
theorem alike_ge (n : Nat) (e : Nat → Nat → Bool) : fewestN n ≤ alikeN n e := by
  unfold alikeN fewestN mixedN
  have h := mixed_sum_le n (degs n e)
  rw [degs_len] at h
  omega
end AK
set_option Elab.async false
set_option linter.all false
set_option maxRecDepth 100000
set_option maxHeartbeats 4000000
namespace AK
open PySem PySem.Spec PyProof.Rows L2
/-- who isn't known -/
def offE (i : Nat) (e : Nat → Bool) (j : Nat) : Bool := !(e j) && decide (i ≠ j)
def offS (i : Nat) (e : Nat → Bool) (j : Nat) : Str := ⟨#[sg (offE i e j)]⟩
theorem off_join (n i : Nat) (e : Nat → Bool) : Txt.join (Str.ofString "") ((List.range n).map (offS i e)) = row n (offE i e) := by
  have h := join_signs ((List.range n).map fun j => sg (offE i e j))
  rw [List.map_map] at h
  exact h
theorem off_ok {n i : Nat} {e : Nat → Bool} (hn : n ≤ 200) : JoinOk (Str.ofString "") ((List.range n).map (offS i e)) = true := by
  refine joinOk_of_weight ?_ (by decide)
  have e1 : ∀ l : List Nat, ((l.map (offS i e)).map (·.length)).sum = l.length := fun l => by
    induction l with
    | nil => rfl
    | cons b l ih =>
      rw [List.map_cons, List.map_cons, List.sum_cons, ih, List.length_cons]
      show 1 + l.length = _
      omega
  rw [e1, List.length_map, List.length_range]
  omega
theorem el_off {X : Cx} {Pt : Addr} {σ : L2.St} {scope : Scope} {i n : Nat} {e : Nat → Bool} {p1 p2 p3 p4 p5 p6 p7 p8 p9 pg : Pos} (C : Cn X.mg) (hi : i < n)
    (hN : X.N[1]? = some ("place" : Str)) (h1 : σ[1]? = some (some (.int i))) (hk : X.env.scope.names.lookup ("place" : Str) = some NameKind.cell)
    (hclo : ∀ (cells : List (Str × Addr)) (c : Addr), cells.lookup ("place" : Str) = some c → (cloFrom cells scope.names []).lookup ("place" : Str) = some c)
    (hsk : scope.kind = .function) (hl0 : scope.names.lookup ("at" : Str) = some NameKind.local) (hl1 : scope.names.lookup ("sign" : Str) = some NameKind.local) (hf : scope.names.lookup ("place" : Str) = some NameKind.free)
    (hg2 : scope.names.lookup ("KNOWS" : Str) = some NameKind.globalImplicit) (hg3 : scope.names.lookup ("APART" : Str) = some NameKind.globalImplicit) :
    ElE X Pt scope "at" "sign" (.IfExp (.BoolOp .And [.Compare (.Name "sign" p1) [.Eq] [.Name "APART" p2] p3, .Compare (.Name "at" p4) [.NotEq] [.Name "place" p5] p6] p7) (.Name "KNOWS" p8) (.Name "APART" p9) pg) σ (row n e) (offS i e) := by
  intro pins s0 H1 I hP cenv A' E' j c u v s3 m ea hc ru rv hn hm1 hm2
  obtain ⟨ps, hP⟩ := hP
  obtain ⟨u0, c0, r0, hc0, _, _, hcell0⟩ := cap_at I (by rw [hP]; exact fun z => nomatch z) ea hN h1 hk hclo
  obtain ⟨tk, gk⟩ := C.knows
  obtain ⟨ta, ga⟩ := C.apart
  have hj : j < n := by
    have := (Array.getElem?_eq_some_iff.mp hc).1
    rw [row_size] at this
    exact this
  rw [row_at hj] at hc
  have ec : sg (e j) = c := Option.some.inj hc
  subst ec
  have kk : cenv.scope.kind = .function := by rw [ea.sc]; exact hsk
  have kof : ∀ y, cenv.kindOf y = scope.names.lookup y := fun y => by show cenv.scope.names.lookup y = _; rw [ea.sc]
  have old : ∀ b o, X.base.get? b = some o → s3.heap.get? b = some o := fun b o e => ea.old b o (fun z => by have := (I.bs b o e).2; rw [z, hP] at this; cases this) (I.bk b o e)
  have glob : s3.heap.Ns cenv.globals X.mg := by rw [ea.glob, I.ok.glob]; exact I.mod.glob.keeps old
  have G : ∀ y, scope.names.lookup y = some NameKind.globalImplicit → cenv.kindOf y = some NameKind.globalImplicit := fun y h => by rw [kof]; exact h
  have hst : Stays fun s => (∃ m, s.heap.Ns cenv.locals m ∧ m ("at" : Str) = some u ∧ m ("sign" : Str) = some v) ∧ s.heap.IsCell c0 (some u0) ∧ s.heap.Ns cenv.globals X.mg := fun s s' ⟨⟨m, q1, q2⟩, ⟨o, q3, q4⟩, q5⟩ ⟨h', t', e, kp⟩ => by
    subst e
    exact ⟨⟨m, q1.keeps kp, q2⟩, ⟨o, kp _ _ q3, q4⟩, q5.keeps kp⟩
  have st3 : (∃ m, s3.heap.Ns cenv.locals m ∧ m ("at" : Str) = some u ∧ m ("sign" : Str) = some v) ∧ s3.heap.IsCell c0 (some u0) ∧ s3.heap.Ns cenv.globals X.mg := ⟨⟨m, hn, hm1, hm2⟩, hcell0, glob⟩
  generalize hPre : (fun s : Shared => (∃ m, s.heap.Ns cenv.locals m ∧ m ("at" : Str) = some u ∧ m ("sign" : Str) = some v) ∧ s.heap.IsCell c0 (some u0) ∧ s.heap.Ns cenv.globals X.mg) = Pre at hst
  have st3' : Pre s3 := by rw [← hPre]; exact st3
  have n1 : ∀ {p : Pos}, Pk X.prog X.w A' cenv Pre (.Name "at" p) (.int j) := pk_nm kk fun s h => by
    rw [← hPre] at h
    obtain ⟨⟨m, q1, q2, q3⟩, _⟩ := h
    exact ⟨u, ru, .inl ⟨by rw [kof]; exact hl0, m, q1, q2⟩⟩
  have n2 : ∀ {p : Pos}, Pk X.prog X.w A' cenv Pre (.Name "sign" p) (.str ⟨#[sg (e j)]⟩) := pk_nm kk fun s h => by
    rw [← hPre] at h
    obtain ⟨⟨m, q1, q2, q3⟩, _⟩ := h
    exact ⟨v, rv, .inl ⟨by rw [kof]; exact hl1, m, q1, q3⟩⟩
  have n3 : ∀ {p : Pos}, Pk X.prog X.w A' cenv Pre (.Name "place" p) (.int i) := pk_nm kk fun s h => by
    rw [← hPre] at h
    obtain ⟨_, q, _⟩ := h
    exact ⟨u0, r0, .inr (.inl ⟨by rw [kof]; exact hf, c0, hc0, q⟩)⟩
  have n4 : ∀ {p : Pos}, Pk X.prog X.w A' cenv Pre (.Name "KNOWS" p) (.str "x") := pk_nm kk fun s h => by
    rw [← hPre] at h
    exact ⟨_, ⟨tk, rfl⟩, .inr (.inr ⟨by rw [kof]; exact hg2, X.mg, h.2.2, gk⟩)⟩
  have n5 : ∀ {p : Pos}, Pk X.prog X.w A' cenv Pre (.Name "APART" p) (.str "-") := pk_nm kk fun s h => by
    rw [← hPre] at h
    exact ⟨_, ⟨ta, rfl⟩, .inr (.inr ⟨by rw [kof]; exact hg3, X.mg, h.2.2, ga⟩)⟩
  have fin : ∀ (b : Bool) (s4 : Shared), Keeps s3 s4 → b = offE i e j → wpAny (model X.prog X.w) A' (if b = true then eval (.Name "KNOWS" p8) cenv else eval (.Name "APART" p9) cenv) (fun z s5 => (∃ t, z = .str (offS i e j) t) ∧ Keeps s3 s5) E' s4 := fun b s4 k4 hb => by
    have p4 := hst s3 s4 st3' k4
    unfold offS
    rw [← hb]
    cases b with
    | true => exact thn (n4.run E' s4 p4) fun z s5 ⟨⟨t, r⟩, k5⟩ => ⟨⟨t, r⟩, kp_trans k4 k5⟩
    | false => exact thn (n5.run E' s4 p4) fun z s5 ⟨⟨t, r⟩, k5⟩ => ⟨⟨t, r⟩, kp_trans k4 k5⟩
  refine PyProof.Rows.IfExp_ (PyProof.Rows.isTrue_and (wpAny_isTrue_Compare1 (pk_two hst n2 n5 st3' fun a b s4 ⟨t1, ra⟩ ⟨t2, rb⟩ k4 => ?_)))
  subst ra rb
  have ex : ((⟨#[sg (e j)]⟩ : Str) == ("-" : Str)) = !e j := by cases e j <;> rfl
  refine PyProof.Rows.eq_str (wpAny_truthy_bool ?_)
  rw [ex]
  cases hb : e j with
  | true => exact fin false s4 k4 (by unfold offE; rw [hb]; rfl)
  | false =>
    refine PyProof.Rows.isTrue_and (wpAny_isTrue_Compare1 (pk_two hst n1 n3 (hst _ _ st3' k4) fun a b s5 ⟨t1, ra⟩ ⟨t2, rb⟩ k5 => ?_))
    subst ra rb
    refine PyProof.Rows.ne_int (wpAny_truthy_bool ?_)
    have k6 := kp_trans k4 k5
    by_cases hji : j = i
    · rw [show ((j : Int) != (i : Int)) = false by rw [hji]; simp]
      exact fin false s5 k6 (by unfold offE; rw [decide_eq_false (fun z : i ≠ j => z hji.symm)]; simp)
    · rw [show ((j : Int) != (i : Int)) = true by simp; omega]
      exact PyProof.Rows.isTrue_and_nil (fin true s5 k6 (by unfold offE; rw [decide_eq_true (Ne.symm hji), hb]; rfl))
section
variable {P : Program} {w : World} {K : PySem.W.Frag} {mg : Str → Option Value} {base : Heap}
/-! ### _turned_row -/
theorem scTRow : FnScope ["row", "place"] ["row", "place"] (defScope sTurnedRow) := ⟨rfl, rfl, rfl, by decide +kernel, rfl, by decide +kernel, by decide +kernel⟩
def spTRow (K : PySem.W.Frag) (Ts : List Addr) : Sp := fun vs H Q _ => ∃ (n i : Nat) (e : Nat → Bool), vs = [.str (row n e), .int i] ∧ i < n ∧ n ≤ 200 ∧ Tb Ts H ∧ ∀ H', SmT Ts H H' → Q (.str (row n (offE i e))) H'
theorem ok_tRow {c f Pt : Addr} {fd : FuncData} {Ts : List Addr} (F : FunR K "_turned_row" "_turned_row" sTurnedRow c f fd) (TB : GxR.TabB base mg c Pt) (hPt : Pt ∈ Ts) (B : Bl mg) (C : Cn mg) : FnOk P w K mg base CX0 1 f fd ["row", "place"] (spTRow K Ts) := by
  refine F.ok scTRow (fun vs H Q E h => ?_) (fun A outer s H vs Q E hr h => ?_)
  · obtain ⟨n, i, e, rfl, _⟩ := h
    rfl
  · obtain ⟨n, i, e, rfl, hi, hn, hT, q⟩ := h
    refine ⟨_, pss_one (ps_ret (pe_joinE hr TB rfl (genS_of rfl rfl (by decide +kernel) rfl rfl (by decide +kernel)) rfl (by decide +kernel) pe_str (by rfl) B.enumerate (pv 0) (fun _ => rfl) rfl)), ?_⟩
    refine ⟨_, rfl, _, rfl, row n e, offS i e, rfl, by rw [row_size]; omega, hT Pt hPt, ?_, by rw [row_size]; exact off_ok hn, fun H2 t2 => ?_⟩
    · exact el_off C hi rfl rfl rfl (fun cells c h => by
        show List.lookup _ [((Str.ofString "place"), (cells.lookup (Str.ofString "place")).getD 0)] = _
        rw [h] <;> rfl) rfl rfl rfl rfl rfl rfl
    · rw [row_size, off_join]
      exact q H2 (SmT.tab hPt t2)
/-! ### turned -/
theorem scTurned : FnScope ["web", "place", "row"] ["web"] (defScope sTurned) := ⟨rfl, rfl, rfl, by decide +kernel, rfl, by decide +kernel, by decide +kernel⟩
def spTurned (K : PySem.W.Frag) (Ts : List Addr) : Sp := fun vs H Q _ => ∃ (a : Addr) (n : Nat) (e : Nat → Nat → Bool), vs = [.ref a] ∧ WebAt K H a n e ∧ Tb Ts H ∧ ∀ H' p, SmT Ts H H' → H p = none → H' p = some (.lst ((web n (turnE e)).map V.str)) → Q (.ref p) H'
theorem SmT.upd1 {Ts : List Addr} {H H1 : Hp} {D : Addr} {o : HO} {u : HO} (s : SmT Ts H H1) (nD : H D = none) (eD : H1 D = some u) (hu : ∀ ps, u ≠ .tbl ps) : SmT Ts H (L2.upd H1 D o) :=
  ⟨fun b p hb e => by rw [upd_ne (ne_of_none e nD)]; exact s.1 b p hb e, fun h => (s.2 h).put eD hu⟩
theorem ok_turned {c f fW fR : Addr} {fd fdW fdR : FuncData} {Ts : List Addr} (F : Fun K "turned" "turned" sTurned f fd) (GW : FnOk P w K mg base CX0 2 fW fdW ["web"] (spWeb K)) (FW : Fun K "check_web" "check_web" sWeb fW fdW) (bW : Binds K fdW ["web"] []) (gW : mg "check_web" = some (.ref fW))
    (GR : FnOk P w K mg base CX0 1 fR fdR ["row", "place"] (spTRow K Ts)) (FR : FunR K "_turned_row" "_turned_row" sTurnedRow c fR fdR) (bR : Binds K fdR ["row", "place"] []) (gR : mg "_turned_row" = some (.ref fR)) (B : Bl mg) : FnOk P w K mg base CX0 3 f fd ["web"] (spTurned K Ts) := by
  refine F.ok scTurned (fun vs H Q E h => ?_) (fun cdv A outer s H vs Q E hr h => ?_)
  · obtain ⟨a, n, e, rfl, _⟩ := h
    rfl
  · obtain ⟨a, n, e, rfl, hA, hT, q⟩ := h
    obtain ⟨hS, hn, hW⟩ := id hA
    refine ⟨_, pss_cons (ps_expr (pe_call GW hr (by rfl) gW FW.kp bW .nil pass0 (pa_cons (pv 0) pa_nil)))
      (pss_one (ps_ret (pe_lc (own := [("place", 1), ("row", 2)]) (g := gTup K 2 (gCons (gName 1) (gCons (gName 2) gNil))) (tt := tYes) rfl scTurned.nd (pi_enum (by rfl) B.enumerate (pa_cons (pv 0) pa_nil)) (blkOk_by (N := ["web", "place", "row"]) (sc := defScope sTurned) (by decide +kernel))
        (fun _ _ _ _ _ => pg_tupN K rfl rfl (pgs_cons (pg_name (i := 1) scTurned.nd rfl (.inl rfl)) (pgs_cons (pg_name (i := 2) scTurned.nd rfl (.inl rfl)) pgs_nil))) (fun _ _ _ _ _ => pts_nil)
        (fun _ _ _ _ _ => pe_call GR (hr.mono (by decide)) (by rfl) gR FR.kp bR .nil pass0 (pa_cons (pv 2) (pa_cons (pv 1) pa_nil)))))), ?_⟩
    refine ⟨.ref a, rfl, a, n, e, rfl, hA, fun H1 s1 => ?_⟩
    have hT1 : Tb Ts H1 := (SmT.of s1).2 hT
    refine ⟨.ref a, rfl, a, _, rfl, s1.seq hS, fun D nD => lc_en (K := K) (xs := (web n e).map V.str) (fun i H2 => SmT Ts H1 H2 ∧ H2 D = some (.lst (((web n (turnE e)).take i).map V.str))) ⟨SmT.of (same_upd nD), upd_same⟩ (fun i H2 _ ⟨s2, _⟩ => s2.seq hT1 (s1.seq hS)) ?_ ?_⟩
    · rintro i x H2 T hx ⟨s2, e2⟩ nT
      obtain ⟨hi, rfl⟩ := webV_at hx
      have s3 : SmT Ts H2 (L2.upd H2 T (.tup [.int (i : Nat), .str (row n (e i))])) := SmT.of (same_upd nT)
      have hT2 := s2.2 hT1
      refine ⟨T, _, rfl, SqT.of upd_same, rfl, _, _, rfl, _, _, rfl, rfl, rfl, ?_⟩
      refine ⟨_, rfl, _, rfl, n, i, e i, rfl, hi, hn, s3.2 hT2, fun H4 s4 => ?_⟩
      have s5 := s3.trans s4
      have e4 := s5.lst hT2 e2
      refine ⟨_, e4, ?_, (s2.trans s5).upd1 nD e4 (fun _ z => nomatch z), ?_⟩
      · rw [List.length_map, List.length_take, web_len]
        exact small1000 (by omega)
      · have et : ((web n (turnE e)).take (i + 1)).map V.str = ((web n (turnE e)).take i).map V.str ++ [V.str (row n (offE i (e i)))] := by
          rw [List.take_add_one, web_at hi, List.map_append] <;> rfl
        rw [upd_same, et]
    · rintro H2 ⟨s2, e2⟩
      rw [List.length_map, web_len, List.take_of_length_le (by rw [web_len]; exact Nat.le_refl _)] at e2
      exact q H2 D ((SmT.of s1).trans s2) (s1.free nD) e2
end
end AK
set_option Elab.async false
set_option linter.all false
set_option maxRecDepth 100000
set_option maxHeartbeats 4000000
namespace AK
open PySem PySem.Spec PyProof.Rows L2
/-! ### the law's own look at people -/
theorem rising_iff {n : Int} : ∀ {ps : List Int} {last : Int}, rising n last ps = true ↔ ps.Pairwise (· < ·) ∧ ∀ p ∈ ps, last < p ∧ p < n
  | [], last => by simp [rising]
  | p :: ps, last => by
    have ih := @rising_iff n ps p
    simp only [rising, Bool.and_eq_true, decide_eq_true_eq, List.pairwise_cons, List.forall_mem_cons]
    constructor
    · rintro ⟨h1, h2, h3⟩
      obtain ⟨h4, h5⟩ := ih.mp h3
      exact ⟨⟨fun q hq => (h5 q hq).1, h4⟩, ⟨h1, h2⟩, fun q hq => ⟨by have := (h5 q hq).1; omega, (h5 q hq).2⟩⟩
    · rintro ⟨⟨h1, h2⟩, ⟨h3, h4⟩, h5⟩
      exact ⟨h3, h4, ih.mpr ⟨h2, fun q hq => ⟨h1 q hq, (h5 q hq).2⟩⟩⟩
theorem pw_unique : ∀ {as bs : List Int}, as.Pairwise (· < ·) → bs.Pairwise (· < ·) → (∀ k, k ∈ as ↔ k ∈ bs) → as = bs
  | [], [], _, _, _ => rfl
  | [], b :: bs, _, _, h => absurd ((h b).mpr (List.mem_cons_self ..)) List.not_mem_nil
  | a :: as, [], _, _, h => absurd ((h a).mp (List.mem_cons_self ..)) List.not_mem_nil
  | a :: as, b :: bs, ha, hb, h => by
    obtain ⟨a1, a2⟩ := List.pairwise_cons.mp ha
    obtain ⟨b1, b2⟩ := List.pairwise_cons.mp hb
    have e : a = b := by
      rcases List.mem_cons.mp ((h a).mp (List.mem_cons_self ..)) with z | z
      · exact z
      · rcases List.mem_cons.mp ((h b).mpr (List.mem_cons_self ..)) with y | y
        · exact y.symm
        · have := a1 b y
          have := b1 a z
          omega
    subst e
    rw [pw_unique a2 b2 fun k => ?_]
    have hk := h k
    rw [List.mem_cons, List.mem_cons] at hk
    constructor
    · intro z
      rcases hk.mp (.inr z) with y | y
      · have := a1 k z; omega
      · exact y
    · intro z
      rcases hk.mpr (.inr z) with y | y
      · have := b1 k z; omega
      · exact y
theorem pe_isiK {X : Cx} {e : Expr} {es : List Expr} {t : TA} {p pos : Pos} (K : PySem.W.Frag) (hK : X.K = K) (hg : Gl X "isinstance") (hm : X.mg "isinstance" = none) (ha : PA X (e :: es) t)
    (he : starEach (e :: es) X.env = (false, eval e X.env) :: starEach es X.env := by rfl) (hpl : (backTo pos (starEach es X.env)).any (·.1) = false := by rfl) : PE X (.Call (.Name "isinstance" p) (e :: es) [] pos) (tCB (rIsi K) t) := by
  subst hK
  exact pe_callB call_isi hg hm (by decide +kernel) ha (he := he) (hpl := hpl)
end AK
set_option Elab.async false
set_option linter.all false
set_option maxRecDepth 100000
set_option maxHeartbeats 4000000
/-! _apart: the greedy choice by few ties -/
namespace AK
open PySem PySem.Spec PyProof.Rows L2
/-- one more person -/
def pick (e : Nat → Nat → Bool) (ch : List Nat) (p : Nat) : List Nat := if ch.all (fun q => !e p q) = true then ch ++ [p] else ch
/-- the greedy choice in an order -/
def greedy (e : Nat → Nat → Bool) (ord : List Nat) : List Nat := ord.foldl (pick e) []
theorem greedy_snoc (e : Nat → Nat → Bool) (ord : List Nat) (p : Nat) : greedy e (ord ++ [p]) = pick e (greedy e ord) p := by
  unfold greedy
  rw [List.foldl_append] <;> rfl
theorem greedy_sub (e : Nat → Nat → Bool) (ord : List Nat) : ∀ p ∈ greedy e ord, p ∈ ord := by
  have key : ∀ (l ch : List Nat), ∀ p ∈ l.foldl (pick e) ch, p ∈ ch ∨ p ∈ l := by
    intro l
    induction l with
    | nil => intro ch p h; exact .inl h
    | cons a l ih =>
      intro ch p h
      rcases ih (pick e ch a) p h with z | z
      · unfold pick at z
        split at z
        · rcases List.mem_append.mp z with z | z
          · exact .inl z
          · exact .inr (by rw [List.mem_singleton.mp z]; exact List.mem_cons_self ..)
        · exact .inl z
      · exact .inr (List.mem_cons_of_mem _ z)
  intro p h
  rcases key ord [] p h with z | z
  · cases z
  · exact z
theorem greedy_len (e : Nat → Nat → Bool) (ord : List Nat) : (greedy e ord).length ≤ ord.length := by
  have key : ∀ (l ch : List Nat), (l.foldl (pick e) ch).length ≤ ch.length + l.length := by
    intro l
    induction l with
    | nil => intro ch; exact Nat.le_refl _
    | cons a l ih =>
      intro ch
      refine Nat.le_trans (ih _) ?_
      unfold pick
      rw [List.length_cons]
      split
      · rw [List.length_append, List.length_singleton]; omega
      · omega
  have := key ord []
  rw [List.length_nil, Nat.zero_add] at this
  exact this
theorem sgx_ne (b : Bool) : ((⟨#[sg b]⟩ : Str) != ("x" : Str)) = !b := by cases b <;> rfl
/-- web[person][other] != KNOWS -/
theorem el_apart {X : Cx} {Pt : Addr} {σ : L2.St} {scope : Scope} {a : Addr} {i n : Nat} {e : Nat → Nat → Bool} {ws : List Int} {H1 : Hp} {p1 p2 p3 p4 p5 p6 p7 : Pos} (C : Cn X.mg) (hi : i < n) (hn : n ≤ 200) (hws : ∀ z ∈ ws, 0 ≤ z ∧ z < n) (hP : ∃ ps, H1 Pt = some (.tbl ps)) (hS : SqL X.K H1 a ((web n e).map V.str))
    (hN0 : X.N[0]? = some ("web" : Str)) (h0 : σ[0]? = some (some (.ref a))) (hk0 : X.env.scope.names.lookup ("web" : Str) = some NameKind.cell)
    (hN3 : X.N[3]? = some ("person" : Str)) (h3 : σ[3]? = some (some (.int i))) (hk3 : X.env.scope.names.lookup ("person" : Str) = some NameKind.cell)
    (hclo0 : ∀ (cells : List (Str × Addr)) (c : Addr), cells.lookup ("web" : Str) = some c → (cloFrom cells scope.names []).lookup ("web" : Str) = some c)
    (hclo3 : ∀ (cells : List (Str × Addr)) (c : Addr), cells.lookup ("person" : Str) = some c → (cloFrom cells scope.names []).lookup ("person" : Str) = some c)
    (hsk : scope.kind = .function) (hl0 : scope.names.lookup ("other" : Str) = some NameKind.local) (hf0 : scope.names.lookup ("web" : Str) = some NameKind.free) (hf3 : scope.names.lookup ("person" : Str) = some NameKind.free)
    (hg2 : scope.names.lookup ("KNOWS" : Str) = some NameKind.globalImplicit) :
    ElW X Pt scope "other" (.Compare (.Subscript (.Subscript (.Name "web" p1) (.Name "person" p2) p3) (.Name "other" p4) p5) [.NotEq] [.Name "KNOWS" p6] p7) σ H1 ws (fun z => !e i z.toNat) := by
  intro pins s0 I cenv A' E' z u s3 m ea hz ru hn' hm
  obtain ⟨ps, hP⟩ := hP
  have hP' : H1 Pt ≠ none := by rw [hP]; exact fun z => nomatch z
  obtain ⟨u0, c0, r0, hc0, _, _, hcell0⟩ := cap_at I hP' ea hN0 h0 hk0 hclo0
  obtain ⟨u3, c3, r3, hc3, _, _, hcell3⟩ := cap_at I hP' ea hN3 h3 hk3 hclo3
  obtain rfl : u0 = Value.ref a := r0
  obtain ⟨t3, rfl⟩ := r3
  obtain ⟨tz, rfl⟩ := ru
  obtain ⟨tk, gk⟩ := C.knows
  obtain ⟨its, rv, pl, hsz⟩ := I.list hS
  obtain ⟨z0, z1⟩ := hws z hz
  have kk : cenv.scope.kind = .function := by rw [ea.sc]; exact hsk
  have kof : ∀ y, cenv.kindOf y = scope.names.lookup y := fun y => by show cenv.scope.names.lookup y = _; rw [ea.sc]
  have old : ∀ b o, X.base.get? b = some o → s3.heap.get? b = some o := fun b o e => ea.old b o (fun z => by have := (I.bs b o e).2; rw [z, hP] at this; cases this) (I.bk b o e)
  have glob : s3.heap.Ns cenv.globals X.mg := by rw [ea.glob, I.ok.glob]; exact I.mod.glob.keeps old
  have hl3 : s3.heap.IsList a its.toArray := by
    obtain ⟨o, ho, r1⟩ := id pl.isList
    refine ⟨o, ea.old a o (fun z => ?_) ho, r1⟩
    have e1 : s0.heap.get? Pt = some { cls := .none, data := .fields ps } := I.hok Pt _ hP
    rw [z, e1] at ho
    cases ho
    obtain ⟨_, _, hd⟩ := r1
    cases hd
  have hrow : ((web n e).map V.str)[i]? = some (V.str (row n (e i))) := by rw [List.getElem?_map, web_at hi] <;> rfl
  obtain ⟨w1, ew, tr, rfl⟩ := rv.get hrow
  refine wpAny_Compare1 (Subscript_ (Subscript_ ?_))
  refine wpAny_Name (wpAny_loadName_free kk (by rw [kof]; exact hf0) hc0 hcell0 ?_ (by decide)) (by decide)
  refine wpAny_Name (wpAny_loadName_free kk (by rw [kof]; exact hf3) hc3 hcell3 ?_ (by decide)) (by decide)
  refine item_listR (l := a) (items := its.toArray) (x := .str (row n (e i)) tr) hl3 (by omega) (by omega) (by rw [List.getElem?_toArray]; simpa using ew) ?_ (by with_unfolding_all rfl)
  refine wpAny_Name (wpAny_loadName_local kk (by rw [kof]; exact hl0) hn' hm ?_) (by decide)
  have hz2 : z.toNat < n := by omega
  have hix : (seqIndex? z (row n (e i)).length).bind ((row n (e i)).cps[·]?) = some (sg (e i z.toNat)) := by
    rw [row_len, seqIndex_of z0 (by omega)]
    exact row_at hz2
  refine tail_any (typeIs_str _ _ tr) slot_str_getitem.lookup (getItem_str (c := sg (e i z.toNat)) (by
    have e1 : decide (z < -(2 ^ 63 : Int)) = false := decide_eq_false (by omega)
    have e2 : decide (z ≥ 2 ^ 63) = false := decide_eq_false (by omega)
    rw [e1, e2, Bool.or_false]) hix ?_) (by with_unfolding_all rfl)
  refine Calls.Name_function_global kk (by rw [kof]; exact hg2) (Calls.loadGlobal_global (by exact glob) gk ?_) (by decide)
  refine PyProof.Rows.ne_str ?_
  rw [sgx_ne]
  exact ⟨rfl, kp_tok _ _⟩
end AK
set_option Elab.async false
set_option linter.all false
set_option maxRecDepth 100000
set_option maxHeartbeats 4000000
namespace AK
open PySem PySem.Spec PyProof.Rows L2
/-- where the lambda of _apart stands -/
def lposA : Pos := match sApart with
  | .FunctionDef _ _ b _ _ _ _ _ _ _ => (match b.getD 2 (.Pass ⟨0, 0, 0, 0⟩) with
    | .For _ (.Call _ _ [⟨_, .Lambda _ _ _ lp, _⟩] _) _ _ _ => lp
    | _ => ⟨0, 0, 0, 0⟩)
  | _ => ⟨0, 0, 0, 0⟩
def qualA : Str := (Str.ofString "_apart" ++ Str.ofString ".<locals>.") ++ Str.ofString "<lambda>"
theorem TabL.put {H : Hp} {P b : Addr} {pos : Pos} {q : Str} {o u : HO} (t : TabL H P pos q) (h : H b = some o) (h1 : ∀ ps, o ≠ .tbl ps) (h2 : o ≠ LamX.CodeO b q) : TabL (L2.upd H b u) P pos q := by
  obtain ⟨ps, a1, a2, a3⟩ := t
  refine ⟨ps, by rw [upd_ne (fun z => by rw [← z, a1] at h; exact h1 ps (Option.some.inj h).symm)]; exact a1, a2, fun cv hc => ?_⟩
  obtain ⟨c, e1, e2⟩ := a3 cv hc
  exact ⟨c, e1, by rw [upd_ne (fun z => by rw [z, h] at e2; exact h2 (Option.some.inj e2))]; exact e2⟩
section
variable {P : Program} {w : World} {K : PySem.W.Frag} {mg : Str → Option Value} {base : Heap}
abbrev nAp : List Str := ["web", "chosen", "counts", "person"]
theorem scApart : FnScope nAp ["web"] (defScope sApart) := ⟨rfl, rfl, rfl, by decide +kernel, rfl, by decide +kernel, by decide +kernel⟩
abbrev TL (H : Hp) (PA : Addr) : Prop := TabL H PA lposA qualA
def natI (i : Nat) : Int := (i : Int)
def spApart (K : PySem.W.Frag) (PA : Addr) : Sp := fun vs H Q _ => ∃ (a : Addr) (n : Nat) (e : Nat → Nat → Bool), vs = [.ref a] ∧ WebAt K H a n e ∧ TL H PA ∧
  ∀ H' p (ord : List Nat) (ns : List Int), ButP PA H H' → TL H' PA → H p = none → ord.Perm (List.range n) → ord.Pairwise (fun x y => deg n (e x) ≤ deg n (e y)) → ns.Perm ((greedy e ord).map natI) → ns.Pairwise (· ≤ ·) → H' p = some (.lst (ns.map V.int)) → Q (.ref p) H'
theorem ok_apart {c f fI PA : Addr} {fd fdI : FuncData} (F : FunR K "_apart" "_apart" sApart c f fd) (TB : GxR.TabB base mg c PA) (GI : FnOk P w K mg base CX0 3 fI fdI ["web"] (spTies K)) (FI : Fun K "ties" "ties" sTies fI fdI) (bI : Binds K fdI ["web"] []) (gI : mg "ties" = some (.ref fI))
    (B : Bl mg) (C : Cn mg) (hall : mg "all" = none) (hsorted : mg "sorted" = none) : FnOk P w K mg base CX0 4 f fd ["web"] (spApart K PA) := by
  refine F.ok scApart (fun vs H Q E h => ?_) (fun A outer s H vs Q E hr h => ?_)
  · obtain ⟨a, n, e, rfl, _⟩ := h
    rfl
  · obtain ⟨a, n, e, rfl, hA, hT, q⟩ := h
    obtain ⟨hS, hn, hW⟩ := id hA
    refine ⟨_, pss_cons (ps_set (i := 2) scApart.nd rfl (.inr rfl) (pe_call GI hr (by rfl) gI FI.kp bI .nil pass0 (pa_cons (pv 0) pa_nil)))
      (pss_cons (ps_set (i := 1) scApart.nd rfl (.inl rfl) (pe_lst pa_nil))
      (pss_cons (ps_for PassesOwn.never rfl (pi_list (pe_sortKey (j := 2) (x := "place") (xs := "counts") hr TB rfl (prg_1 (by rfl) B.range (pe_callB call_len_seq (by rfl) B.len PySem.boot_len (pa_cons (pv 0) pa_nil))) rfl ⟨rfl, rfl, rfl, by decide +kernel, rfl, rfl⟩ rfl
            (by
              intro y hy hf
              exact cell_has (by
                have q : ([("place", NameKind.local), ("counts", NameKind.free)] : List (Str × NameKind)).all (fun y => decide (y.2 ≠ .free) || decide ((defScope sApart).names.lookup y.1 = some .cell)) = true := by decide +kernel
                have q2 := List.all_eq_true.mp q y hy
                rw [hf] at q2
                simpa using q2)) rfl rfl
            (fun cells c h => by
              show List.lookup _ [((Str.ofString "counts"), (cells.lookup (Str.ofString "counts")).getD 0)] = _
              rw [h] <;> rfl) (fun q cl pm cv ctv v => rfl) (by rfl) hsorted)) (pg_name (i := 3) scApart.nd rfl (.inr rfl))
          (pss_one (ps_if (pt_val (pe_allT hr TB rfl (genS_of rfl rfl (by decide +kernel) rfl rfl (by decide +kernel)) (pv 1) (fun _ => rfl) rfl (by rfl) hall))
            (pss_one (ps_expr (pe_bm PySem.F.plainAttrs_list PySem.F.slot_list_append PySem.F.type_list_append mt_append (pv 1) (pa_cons (pv 3) pa_nil)))) pss_nil)))
      (pss_one (ps_ret (pe_callB cr_sortedI (by rfl) hsorted (by decide +kernel) (pa_cons (pv 1) pa_nil)))))), ?_⟩
    have hlen : ((web n e).map V.str).length = n := by rw [List.length_map, web_len]
    obtain ⟨ps0, hP0, _⟩ := hT.tab
    refine ⟨.ref a, rfl, a, n, e, rfl, hA, fun H1 L s1 nL eL => ?_⟩
    refine ⟨by decide, fun Ch nC => ?_⟩
    have nL0 : H L = none := nL
    have nC0 : H Ch = none := s1.free nC
    have s2 : Same H (L2.upd H1 Ch (.lst [])) := s1.trans (same_upd nC)
    have eL2 : L2.upd H1 Ch (.lst []) L = some (.lst ((degs n e).map V.int)) := same_upd nC _ _ eL
    have eC2 : L2.upd H1 Ch (.lst []) Ch = some (.lst []) := upd_same
    generalize L2.upd H1 Ch (.lst []) = H2 at s2 eL2 eC2 ⊢
    have hT2 : TL H2 PA := hT.keep ((s2 _ _ hP0).trans hP0.symm) fun b o _ _ ee => s2 b o ee
    refine ⟨.ref a, rfl, a, _, rfl, .inl (s2.seq hS), _, rfl, n, L, degs n e, rfl, by rw [hlen], hn, hT2, rfl, SqL.of eL2, degs_len n e, fun H3 D ord b3 t3 nD eD o1 o2 => ?_⟩
    have nD0 : H D = none := s2.free nD
    have neC : Ch ≠ PA := fun z => by rw [z, hP0] at nC0; cases nC0
    have neD : D ≠ PA := fun z => by rw [z, hP0] at nD0; cases nD0
    have neDC : Ch ≠ D := ne_of_none eC2 nD
    have bH : ButP PA H H3 := fun b o hb ee => b3 b o hb (s2 b o ee)
    have eC3 : H3 Ch = some (.lst []) := b3 _ _ neC eC2
    have lt : ∀ p ∈ ord, p < n := fun p hp => List.mem_range.mp (o1.mem_iff.mp hp)
    have hol : ord.length = n := by rw [o1.length_eq, List.length_range]
    refine ⟨D, rfl, ⟨_, SqL.of eD⟩, for_list (K := K) (xs := ord.map fun i => V.int (i : Nat)) (fun i σ Hi => ∃ y3, σ = [some (.ref a), some (.ref Ch), some (.ref L), y3] ∧ ButP PA H Hi ∧ TL Hi PA ∧ Hi Ch = some (.lst (((greedy e (ord.take i)).map natI).map V.int)) ∧ Hi D = some (.lst (ord.map fun i => V.int (i : Nat)))) ⟨none, rfl, bH, t3, eC3, eD⟩ (fun i σ Hi _ ⟨_, _, _, _, _, eD⟩ => SqL.of eD) ?_ ?_⟩
    · rintro i x σ Hi hx ⟨y3, rfl, bi, ti, eC, eD⟩
      obtain ⟨p, hp, rfl⟩ : ∃ p, ord[i]? = some p ∧ x = V.int (p : Nat) := by
        rw [List.getElem?_map] at hx
        obtain ⟨z, hz, rfl⟩ := Option.map_eq_some_iff.mp hx
        exact ⟨z, hz, rfl⟩
      have hpn : p < n := lt p (List.mem_of_getElem? hp)
      have et : greedy e (ord.take (i + 1)) = pick e (greedy e (ord.take i)) p := by
        rw [List.take_add_one, hp]
        exact greedy_snoc e (ord.take i) p
      have hin : ∀ z ∈ (greedy e (ord.take i)).map natI, 0 ≤ z ∧ z < n := fun z hz => by
        obtain ⟨y, hy, rfl⟩ := List.mem_map.mp hz
        have := lt y (List.mem_of_mem_take (greedy_sub e _ y hy))
        unfold natI
        omega
      have hlt : (greedy e (ord.take i)).length ≤ n := by
        have h1 := greedy_len e (ord.take i)
        rw [List.length_take] at h1
        omega
      refine ⟨_, rfl, Ch, (greedy e (ord.take i)).map natI, _, rfl, SqL.of eC, ti.tab, el_apart C hpn hn hin (let ⟨ps, h, _⟩ := ti.tab; ⟨ps, h⟩) (SqL.but bi hT.tab hS) rfl rfl rfl rfl rfl rfl (fun cells c h => by
          show List.lookup _ [((Str.ofString "web"), (cells.lookup (Str.ofString "web")).getD 0), ((Str.ofString "person"), (cells.lookup (Str.ofString "person")).getD 0)] = _
          rw [h] <;> rfl) (fun cells c h => by
          show List.lookup _ [((Str.ofString "web"), (cells.lookup (Str.ofString "web")).getD 0), ((Str.ofString "person"), (cells.lookup (Str.ofString "person")).getD 0)] = _
          rw [h] <;> rfl) rfl rfl rfl rfl rfl, fun H4 g => ?_⟩
      have t4 : TL H4 PA := ti.grow g (by decide +kernel)
      obtain ⟨ps, more, g1, g2, g3, gm, g4⟩ := g
      have b4 : ButP PA H H4 := fun b o hb ee => by rw [g4 b hb]; exact bi b o hb ee
      have eC4 : H4 Ch = some (.lst (((greedy e (ord.take i)).map natI).map V.int)) := by rw [g4 Ch neC]; exact eC
      have eD4 : H4 D = some (.lst (ord.map fun i => V.int (i : Nat))) := by rw [g4 D neD]; exact eD
      have ea : ((greedy e (ord.take i)).map natI).all (fun z => !e p z.toNat) = (greedy e (ord.take i)).all (fun q => !e p q) := by
        rw [List.all_map]
        rfl
      refine ⟨_, rfl, ?_⟩
      rw [ea]
      cases hb : (greedy e (ord.take i)).all (fun q => !e p q) with
      | true =>
        refine iteT ⟨_, rfl, .inl ⟨rfl, _, SqL.of eC4⟩, _, rfl, Ch, _, _, rfl, rfl, eC4, ?_, some (.int (p : Nat)), rfl, fun b o hb ee => ?_, ?_, ?_, ?_⟩
        · rw [List.length_map, List.length_map]
          exact small1000 (by omega)
        · rw [upd_ne (ne_of_none ee nC0)]
          exact b4 b o hb ee
        · exact t4.put eC4 (fun _ z => nomatch z) (fun z => by unfold LamX.CodeO at z; cases z)
        · rw [upd_same, et]
          unfold pick
          rw [if_pos hb, List.map_append, List.map_append] <;> rfl
        · rw [upd_ne neDC.symm]; exact eD4
      | false =>
        refine iteF ⟨some (.int (p : Nat)), rfl, b4, t4, ?_, eD4⟩
        rw [et]
        unfold pick
        rw [if_neg (by rw [hb]; exact fun z => nomatch z)]
        exact eC4
    · rintro σ Hi ⟨y3, rfl, bi, ti, eC, eD⟩
      rw [List.length_map, List.take_of_length_le (Nat.le_refl _)] at eC
      refine ⟨_, rfl, Ch, _, rfl, SqL.of eC, fun ns p h1 h2 np => ?_⟩
      have np0 : H p = none := by
        cases qq : H p with
        | none => rfl
        | some o =>
          by_cases hb : p = PA
          · obtain ⟨ps, h, _⟩ := ti.tab
            rw [hb, h] at np; cases np
          · rw [bi p o hb qq] at np; cases np
      have npA : p ≠ PA := fun z => by rw [z, hP0] at np0; cases np0
      refine q _ p ord ns (fun b o hb ee => by rw [upd_ne (ne_of_none ee np0)]; exact bi b o hb ee) (ti.keep (upd_ne npA.symm) fun b o _ _ ee => by rw [upd_ne (ne_of_none ee np)]; exact ee) np0 o1 (o2.imp_of_mem fun {x y} hx hy h => ?_) h1 h2 upd_same
      have gd : ∀ x, x ∈ ord → (degs n e).getD x 0 = (deg n (e x) : Int) := fun x hx => by
        have := lt x hx
        unfold degs
        rw [List.getD_eq_getElem?_getD, List.getElem?_map, List.getElem?_range this] <;> rfl
      rw [gd x hx, gd y hy] at h
      omega
end
end AK
set_option Elab.async false
set_option linter.all false
set_option maxRecDepth 100000
set_option maxHeartbeats 4000000
namespace AK
open PySem PySem.Spec PyProof.Rows L2
/-- all but the tables stand, the tables are such as they have to be -/
structure But2 (PA : Addr) (Ts : List Addr) (H H' : Hp) : Prop where
  kp : ∀ b o, b ≠ PA → b ∉ Ts → H b = some o → H' b = some o
  tb : Tb Ts H'
  tl : TL H' PA
theorem But2.of {PA : Addr} {Ts : List Addr} {H H1 H' : Hp} (hb : Tb Ts H) (hn : PA ∉ Ts) (s : SmT Ts H H1) (b : ButP PA H1 H') (t : TL H' PA) : But2 PA Ts H H' where
  kp := fun x o h1 h2 e => b x o h1 (s.1 x o h2 e)
  tb := fun p hp => by
    obtain ⟨ps, e, h⟩ := s.2 hb p hp
    exact ⟨ps, b p _ (fun z => hn (by rw [← z]; exact hp)) e, h⟩
  tl := t
theorem TL.smt {PA : Addr} {Ts : List Addr} {H H1 : Hp} (t : TL H PA) (hb : Tb Ts H) (hn : PA ∉ Ts) (s : SmT Ts H H1) : TL H1 PA := by
  obtain ⟨ps, e, _⟩ := id t
  exact t.keep ((s.1 _ _ hn e).trans e.symm) fun b o _ ho e => s.1 b o (hb.no e ho) e
theorem fresh_but {H H1 : Hp} {PA l : Addr} {pos : Pos} {q : Str} (b : ButP PA H H1) (t : TabL H1 PA pos q) (h : H1 l = none) : H l = none := by
  cases qq : H l with
  | none => rfl
  | some o =>
    by_cases hb : l = PA
    · obtain ⟨ps, e, _⟩ := t
      rw [hb, e] at h; cases h
    · rw [b l o hb qq] at h; cases h
section
variable {P : Program} {w : World} {K : PySem.W.Frag} {mg : Str → Option Value} {base : Heap}
theorem scStr : FnScope ["web"] ["web"] (defScope sStrangers) := ⟨rfl, rfl, rfl, by decide +kernel, rfl, by decide +kernel, by decide +kernel⟩
theorem scFri : FnScope ["web"] ["web"] (defScope sFriends) := ⟨rfl, rfl, rfl, by decide +kernel, rfl, by decide +kernel, by decide +kernel⟩
/-- what the greedy choice tells -/
structure Chosen (n : Nat) (e : Nat → Nat → Bool) (ns : List Int) : Prop where
  ex : ∃ ord : List Nat, ord.Perm (List.range n) ∧ ord.Pairwise (fun x y => deg n (e x) ≤ deg n (e y)) ∧ ns.Perm ((greedy e ord).map natI)
  up : ns.Pairwise (· ≤ ·)
def spStr (K : PySem.W.Frag) (PA CU : Addr) : Sp := fun vs H Q _ => ∃ (a : Addr) (n : Nat) (e : Nat → Nat → Bool), vs = [.ref a] ∧ WebAt K H a n e ∧ TL H PA ∧
  ∀ H' p l dx (ns : List Int), ButP PA H H' → TL H' PA → H p = none → H l = none → Chosen n e ns → H' p = some (.ins CU dx [("people", .ref l)]) → H' l = some (.lst (ns.map V.int)) → Q (.ref p) H'
theorem ok_strangers {c f fA fJ PA CU : Addr} {fd fdA fdJ : FuncData} (F : Fun K "strangers" "strangers" sStrangers f fd) (GA : FnOk P w K mg base CX0 4 fA fdA ["web"] (spApart K PA)) (FA : FunR K "_apart" "_apart" sApart c fA fdA) (bA : Binds K fdA ["web"] []) (gA : mg "_apart" = some (.ref fA)) (B : Bl mg)
    (TU : AC K CU) (gU : mg "Unknown" = some (.ref CU)) (MU : Mk K CU fJ) (FJ : Fun K "__init__" "Unknown.__init__" sInitU fJ fdJ) (bJ : Binds K fdJ ["self", "people"] []) : FnOk P w K mg base CX0 5 f fd ["web"] (spStr K PA CU) := by
  have GJ : FnOk P w K mg base CX0 1 fJ fdJ ["self", "people"] (spInit K CU) := ok_initU FJ TU B
  refine F.ok scStr (fun vs H Q E h => ?_) (fun cdv A outer s H vs Q E hr h => ?_)
  · obtain ⟨a, n, e, rfl, _⟩ := h
    rfl
  · obtain ⟨a, n, e, rfl, hA, hT, q⟩ := h
    refine ⟨_, pss_one (ps_ret (pe_make MU GJ (hr.mono (by decide)) (by rfl) gU bJ .nil pass0 (pa_cons (pe_call GA hr (by rfl) gA FA.kp bA .nil pass0 (pa_cons (pv 0) pa_nil)) pa_nil))), ?_⟩
    refine ⟨_, rfl, a, n, e, rfl, hA, hT, fun H1 L ord ns b1 t1 nL o1 o2 h1 h2 eL => ?_⟩
    intro x dx nx ndx nex
    have nx0 : H x = none := fresh_but b1 t1 nx
    have ndx0 : H dx = none := fresh_but b1 t1 ndx
    obtain ⟨ps1, hP1, _⟩ := id t1
    have xP : x ≠ PA := fun z => by rw [z, hP1] at nx; cases nx
    have dP : dx ≠ PA := fun z => by rw [z, hP1] at ndx; cases ndx
    refine ⟨x, L, dx, _, rfl, upd_same, SqL.of (xs := ns.map V.int) ?_, fun l H' nl e1 e2 kp => ⟨rfl, q H' x l dx ns (fun b o hb eb => ?_) ?_ nx0 ?_ ⟨⟨ord, o1, o2, h1⟩, h2⟩ e2 e1⟩⟩
    · rw [upd_ne (ne_of_none eL nx), upd_ne (ne_of_none eL ndx)]
      exact eL
    · have eb3 := b1 b o hb eb
      refine kp b o ?_ (ne_of_none eb3 nx)
      rw [upd_ne (ne_of_none eb3 nx), upd_ne (ne_of_none eb3 ndx)]
      exact eb3
    · have hk : ∀ b o, H1 b = some o → H' b = some o := fun b o eb3 => by
        refine kp b o ?_ (ne_of_none eb3 nx)
        rw [upd_ne (ne_of_none eb3 nx), upd_ne (ne_of_none eb3 ndx)]
        exact eb3
      exact t1.keep ((hk _ _ hP1).trans hP1.symm) fun b o _ _ eb => hk b o eb
    · refine fresh_but b1 t1 ?_
      by_cases h1 : l = x
      · rw [h1]; exact nx
      · by_cases h2 : l = dx
        · rw [h2]; exact ndx
        · rw [upd_ne h1, upd_ne h2] at nl
          exact nl
def spFri (K : PySem.W.Frag) (PA : Addr) (Ts : List Addr) (CK : Addr) : Sp := fun vs H Q _ => ∃ (a : Addr) (n : Nat) (e : Nat → Nat → Bool), vs = [.ref a] ∧ WebAt K H a n e ∧ TL H PA ∧ Tb Ts H ∧
  ∀ H' p l dx (ns : List Int), But2 PA Ts H H' → H p = none → H l = none → Chosen n (turnE e) ns → H' p = some (.ins CK dx [("people", .ref l)]) → H' l = some (.lst (ns.map V.int)) → Q (.ref p) H'
theorem ok_friends {c f fA fI fT PA CK : Addr} {Ts : List Addr} {fd fdA fdI fdT : FuncData} (F : Fun K "friends" "friends" sFriends f fd) (hn : PA ∉ Ts) (GA : FnOk P w K mg base CX0 4 fA fdA ["web"] (spApart K PA)) (FA : FunR K "_apart" "_apart" sApart c fA fdA) (bA : Binds K fdA ["web"] []) (gA : mg "_apart" = some (.ref fA)) (B : Bl mg)
    (GT : FnOk P w K mg base CX0 3 fT fdT ["web"] (spTurned K Ts)) (FT : Fun K "turned" "turned" sTurned fT fdT) (bT : Binds K fdT ["web"] []) (gT : mg "turned" = some (.ref fT))
    (TK : AC K CK) (gK : mg "Known" = some (.ref CK)) (MK : Mk K CK fI) (FI : Fun K "__init__" "Known.__init__" sInitK fI fdI) (bI : Binds K fdI ["self", "people"] []) : FnOk P w K mg base CX0 5 f fd ["web"] (spFri K PA Ts CK) := by
  have GI : FnOk P w K mg base CX0 1 fI fdI ["self", "people"] (spInit K CK) := ok_initK FI TK B
  refine F.ok scFri (fun vs H Q E h => ?_) (fun cdv A outer s H vs Q E hr h => ?_)
  · obtain ⟨a, n, e, rfl, _⟩ := h
    rfl
  · obtain ⟨a, n, e, rfl, hA, hT, hB, q⟩ := h
    refine ⟨_, pss_one (ps_ret (pe_make MK GI (hr.mono (by decide)) (by rfl) gK bI .nil pass0 (pa_cons (pe_call GA hr (by rfl) gA FA.kp bA .nil pass0 (pa_cons (pe_call GT (hr.mono (by decide)) (by rfl) gT FT.kp bT .nil pass0 (pa_cons (pv 0) pa_nil)) pa_nil)) pa_nil))), ?_⟩
    refine ⟨_, rfl, a, n, e, rfl, hA, hB, fun H0 W s0 nW eW => ?_⟩
    have hT0 : TL H0 PA := TL.smt hT hB hn s0
    refine ⟨W, n, turnE e, rfl, ⟨SqL.of eW, hA.2.1, turn_web hA.2.2⟩, hT0, fun H1 L ord ns b1 t1 nL o1 o2 h1 h2 eL => ?_⟩
    intro x dx nx ndx nex
    have nx0 : H x = none := s0.free hB (fresh_but b1 t1 nx)
    have ndx0 : H dx = none := s0.free hB (fresh_but b1 t1 ndx)
    obtain ⟨ps1, hP1, _⟩ := id t1
    refine ⟨x, L, dx, _, rfl, upd_same, SqL.of (xs := ns.map V.int) ?_, fun l H' nl e1 e2 kp => ?_⟩
    · rw [upd_ne (ne_of_none eL nx), upd_ne (ne_of_none eL ndx)]
      exact eL
    have hk : ∀ b o, H1 b = some o → H' b = some o := fun b o eb3 => by
      refine kp b o ?_ (ne_of_none eb3 nx)
      rw [upd_ne (ne_of_none eb3 nx), upd_ne (ne_of_none eb3 ndx)]
      exact eb3
    refine ⟨rfl, q H' x l dx ns (But2.of hB hn s0 (fun b o hb e => hk b o (b1 b o hb e)) (t1.keep ((hk _ _ hP1).trans hP1.symm) fun b o _ _ eb => hk b o eb)) nx0 (s0.free hB (fresh_but b1 t1 ?_)) ⟨⟨ord, o1, o2, h1⟩, h2⟩ e2 e1⟩
    by_cases h1 : l = x
    · rw [h1]; exact nx
    · by_cases h2 : l = dx
      · rw [h2]; exact ndx
      · rw [upd_ne h1, upd_ne h2] at nl
        exact nl
end
end AK
set_option Elab.async false
set_option linter.all false
set_option maxRecDepth 100000
set_option maxHeartbeats 2000000
/-! the mathematics of the promise -/
namespace AK
open PySem
/-- the sum of one by one more than each -/
def fstep (p : Nat × Nat) (d : Nat) : Nat × Nat := (p.1 * (d + 1) + p.2, p.2 * (d + 1))
def frac (ds : List Nat) : Nat × Nat := ds.foldl fstep (0, 1)
/-- in lowest terms -/
def red (p : Nat × Nat) : Nat × Nat := (p.1 / Nat.gcd p.1 p.2, p.2 / Nat.gcd p.1 p.2)
theorem frac_snoc (ds : List Nat) (d : Nat) : frac (ds ++ [d]) = fstep (frac ds) d := by
  unfold frac
  rw [List.foldl_append] <;> rfl
theorem snoc_ind {α : Type} {P : List α → Prop} (h0 : P []) (hs : ∀ l a, P l → P (l ++ [a])) : ∀ l, P l := fun l => by
  have key : ∀ r : List α, P r.reverse := fun r => by
    induction r with
    | nil => exact h0
    | cons a r ih => rw [List.reverse_cons]; exact hs _ _ ih
  have := key l.reverse
  rw [List.reverse_reverse] at this
  exact this
theorem frac_pos (ds : List Nat) : 0 < (frac ds).2 := by
  refine snoc_ind (P := fun ds => 0 < (frac ds).2) (by decide) (fun l a h => ?_) ds
  rw [frac_snoc]
  exact Nat.mul_pos h (Nat.succ_pos _)
theorem frac_bound (ds : List Nat) : (∀ d ∈ ds, d ≤ 200) → (frac ds).2 ≤ 256 ^ ds.length ∧ (frac ds).1 ≤ ds.length * 256 ^ ds.length := by
  refine snoc_ind (P := fun ds => (∀ d ∈ ds, d ≤ 200) → (frac ds).2 ≤ 256 ^ ds.length ∧ (frac ds).1 ≤ ds.length * 256 ^ ds.length) (fun _ => by decide) (fun l a ih h => ?_) ds
  obtain ⟨i1, i2⟩ := ih fun d hd => h d (List.mem_append_left _ hd)
  have ha : a ≤ 200 := h a (by simp)
  rw [frac_snoc, List.length_append, List.length_singleton, Nat.pow_succ]
  unfold fstep
  generalize 256 ^ l.length = z at *
  have h1 : (frac l).2 * (a + 1) ≤ z * 256 := Nat.mul_le_mul i1 (by omega)
  have h2 : (frac l).1 * (a + 1) ≤ (l.length * z) * 256 := Nat.mul_le_mul i2 (by omega)
  refine ⟨h1, ?_⟩
  show (frac l).1 * (a + 1) + (frac l).2 ≤ (l.length + 1) * (z * 256)
  have e : (l.length + 1) * (z * 256) = (l.length * z) * 256 + z * 256 := by rw [Nat.add_mul, Nat.one_mul, Nat.mul_assoc]
  rw [e]
  omega
theorem red_pos {p : Nat × Nat} (h : 0 < p.2) : 0 < (red p).2 := Nat.div_pos (Nat.le_of_dvd h (Nat.gcd_dvd_right _ _)) (Nat.gcd_pos_of_pos_right _ h)
theorem red_le (p : Nat × Nat) : (red p).1 ≤ p.1 ∧ (red p).2 ≤ p.2 := ⟨Nat.div_le_self _ _, Nat.div_le_self _ _⟩
/-- one step on what is reduced already -/
theorem red_step {p : Nat × Nat} (h : 0 < p.2) (d : Nat) : red (fstep (red p) d) = red (fstep p d) := by
  obtain ⟨A, B⟩ := p
  have hg : 0 < Nat.gcd A B := Nat.gcd_pos_of_pos_right _ h
  obtain ⟨x, hx⟩ := Nat.gcd_dvd_left A B
  obtain ⟨y, hy⟩ := Nat.gcd_dvd_right A B
  have ex : A / Nat.gcd A B = x := by rw [Nat.div_eq_of_eq_mul_right hg hx]
  have ey : B / Nat.gcd A B = y := by rw [Nat.div_eq_of_eq_mul_right hg hy]
  have e1 : red (A, B) = (x, y) := by unfold red; rw [ex, ey]
  rw [e1]
  generalize hG : Nat.gcd A B = g at *
  unfold fstep red
  dsimp only
  have a1 : A * (d + 1) + B = g * (x * (d + 1) + y) := by rw [hx, hy]; grind
  have a2 : B * (d + 1) = g * (y * (d + 1)) := by rw [hy]; grind
  rw [a1, a2, Nat.gcd_mul_left, Nat.mul_div_mul_left _ _ hg, Nat.mul_div_mul_left _ _ hg]
/-! ### the sum as a sum of wholes -/
def prodS (ds : List Nat) : Nat := (frac ds).2
theorem prodS_snoc (ds : List Nat) (d : Nat) : prodS (ds ++ [d]) = prodS ds * (d + 1) := by unfold prodS; rw [frac_snoc] <;> rfl
theorem dvd_prodS (ds : List Nat) : ∀ d ∈ ds, (d + 1) ∣ prodS ds := by
  refine snoc_ind (P := fun ds => ∀ d ∈ ds, (d + 1) ∣ prodS ds) (fun d h => absurd h (by simp)) (fun l a ih d h => ?_) ds
  rw [prodS_snoc]
  rcases List.mem_append.mp h with h | h
  · exact Nat.dvd_mul_right_of_dvd (ih d h) _
  · rw [List.mem_singleton.mp h]; exact Nat.dvd_mul_left _ _
theorem frac_sum (ds : List Nat) : (frac ds).1 = (ds.map fun d => prodS ds / (d + 1)).sum := by
  refine snoc_ind (P := fun ds => (frac ds).1 = (ds.map fun d => prodS ds / (d + 1)).sum) rfl (fun l a ih => ?_) ds
  rw [frac_snoc, prodS_snoc, List.map_append, List.sum_append]
  have e1 : (l.map fun d => prodS l * (a + 1) / (d + 1)) = l.map fun d => prodS l / (d + 1) * (a + 1) := List.map_congr_left fun d hd => by
    obtain ⟨k, hk⟩ := dvd_prodS l d hd
    rw [hk, Nat.mul_assoc, Nat.mul_div_cancel_left _ (Nat.succ_pos d), Nat.mul_div_cancel_left _ (Nat.succ_pos d)]
  rw [e1]
  have e2 : ∀ (l2 : List Nat) (f : Nat → Nat) (k : Nat), (l2.map fun d => f d * k).sum = (l2.map f).sum * k := fun l2 f k => by
    induction l2 with
    | nil => simp
    | cons b r ih => rw [List.map_cons, List.sum_cons, ih, List.map_cons, List.sum_cons, Nat.add_mul]
  rw [e2, ← ih]
  show (frac l).1 * (a + 1) + (frac l).2 = _
  rw [List.map_singleton, List.sum_singleton, Nat.mul_div_cancel _ (Nat.succ_pos a)] <;> rfl
end AK
set_option Elab.async false
set_option linter.all false
set_option maxRecDepth 100000
set_option maxHeartbeats 2000000
namespace AK
open PySem
def degN (n : Nat) (e : Nat → Nat → Bool) : List Nat := (List.range n).map fun i => deg n (e i)
theorem pick_sub {e : Nat → Nat → Bool} {ch : List Nat} {p q : Nat} (h : q ∈ ch) : q ∈ pick e ch p := by
  unfold pick
  split
  · exact List.mem_append_left _ h
  · exact h
/-- whom the greedy choice leaves out knows one chosen who knows no more people -/
theorem greedy_dom {e : Nat → Nat → Bool} {d : Nat → Nat} (ord : List Nat) : ord.Pairwise (fun x y => d x ≤ d y) → ∀ p ∈ ord, ∃ c ∈ greedy e ord, (p = c ∨ e p c = true) ∧ d c ≤ d p := by
  refine snoc_ind (P := fun ord => ord.Pairwise (fun x y => d x ≤ d y) → ∀ p ∈ ord, ∃ c ∈ greedy e ord, (p = c ∨ e p c = true) ∧ d c ≤ d p) (fun _ p h => absurd h (by simp)) (fun l a ih hw p hp => ?_) ord
  obtain ⟨w1, _, w3⟩ := List.pairwise_append.mp hw
  rw [greedy_snoc]
  rcases List.mem_append.mp hp with h | h
  · obtain ⟨c, hc, h1, h2⟩ := ih w1 p h
    exact ⟨c, pick_sub hc, h1, h2⟩
  · have hpa : p = a := List.mem_singleton.mp h
    subst hpa
    by_cases hb : (greedy e l).all (fun q => !e p q) = true
    · exact ⟨p, by unfold pick; rw [if_pos hb]; simp, .inl rfl, Nat.le_refl _⟩
    · rw [List.all_eq_true] at hb
      have : ∃ c ∈ greedy e l, e p c = true := by
        refine Classical.byContradiction fun z => hb fun q hq => ?_
        cases hpq : e p q with
        | false => rfl
        | true => exact absurd ⟨q, hq, hpq⟩ z
      obtain ⟨c, hc, h1⟩ := this
      exact ⟨c, pick_sub hc, .inr h1, w3 c (greedy_sub e l c hc) p (by simp)⟩
theorem sum_swap (l ch : List Nat) (f : Nat → Nat → Nat) : (l.map fun p => (ch.map fun c => f p c).sum).sum = (ch.map fun c => (l.map fun p => f p c).sum).sum := by
  induction l with
  | nil =>
    have : ∀ ch : List Nat, (ch.map fun c => (([] : List Nat).map fun p => f p c).sum).sum = 0 := fun ch => by
      induction ch with
      | nil => rfl
      | cons a r ih => rw [List.map_cons, List.sum_cons, ih] <;> rfl
    rw [this] <;> rfl
  | cons a r ih =>
    rw [List.map_cons, List.sum_cons, ih]
    have : ∀ ch : List Nat, (ch.map fun c => f a c).sum + (ch.map fun c => (r.map fun p => f p c).sum).sum = (ch.map fun c => ((a :: r).map fun p => f p c).sum).sum := fun ch => by
      induction ch with
      | nil => rfl
      | cons b s ih2 =>
        rw [List.map_cons, List.sum_cons, List.map_cons, List.sum_cons, List.map_cons, List.sum_cons, ← ih2, List.map_cons, List.sum_cons]
        omega
    exact this ch
theorem sum_le_sum (l : List Nat) (f g : Nat → Nat) (h : ∀ p ∈ l, f p ≤ g p) : (l.map f).sum ≤ (l.map g).sum := by
  induction l with
  | nil => exact Nat.le_refl _
  | cons a r ih =>
    rw [List.map_cons, List.sum_cons, List.map_cons, List.sum_cons]
    have := h a (List.mem_cons_self ..)
    have := ih fun p hp => h p (List.mem_cons_of_mem _ hp)
    omega
theorem le_sum_mem (l : List Nat) (f : Nat → Nat) {c : Nat} (h : c ∈ l) : f c ≤ (l.map f).sum := by
  induction l with
  | nil => cases h
  | cons a r ih =>
    rw [List.map_cons, List.sum_cons]
    rcases List.mem_cons.mp h with rfl | h
    · omega
    · have := ih h; omega
theorem sum_const_if (l : List Nat) (b : Nat → Bool) (k : Nat) : (l.map fun p => if b p = true then k else 0).sum = (l.filter b).length * k := by
  induction l with
  | nil => simp
  | cons a r ih =>
    rw [List.map_cons, List.sum_cons, ih, List.filter_cons]
    split
    · rw [List.length_cons, Nat.succ_mul]; omega
    · omega
theorem sum_le_const (l : List Nat) (f : Nat → Nat) (k : Nat) (h : ∀ p ∈ l, f p ≤ k) : (l.map f).sum ≤ l.length * k := by
  induction l with
  | nil => simp
  | cons a r ih =>
    rw [List.map_cons, List.sum_cons, List.length_cons, Nat.succ_mul]
    have := h a (List.mem_cons_self ..)
    have := ih fun p hp => h p (List.mem_cons_of_mem _ hp)
    omega
/-- one and whom it knows -/
theorem near_count {n c : Nat} {e : Nat → Nat → Bool} (W : IsWeb n e) (hc : c < n) : ((List.range n).filter fun p => decide (p = c) || e p c).length ≤ deg n (e c) + 1 := by
  have key : ∀ l : List Nat, l.Nodup → (∀ p ∈ l, p < n) → (l.filter fun p => decide (p = c) || e p c).length ≤ (l.filter (e c)).length + (if c ∈ l then 1 else 0) := by
    intro l
    induction l with
    | nil => intro _ _; exact Nat.le_refl _
    | cons a r ih =>
      intro nd hl
      obtain ⟨n1, n2⟩ := List.nodup_cons.mp nd
      have i1 := ih n2 fun p hp => hl p (List.mem_cons_of_mem _ hp)
      have ha := hl a (List.mem_cons_self ..)
      rw [List.filter_cons, List.filter_cons]
      by_cases hac : a = c
      · subst hac
        rw [if_neg n1] at i1
        rw [W.irr a hc, if_pos (List.mem_cons_self ..)]
        simp only [decide_true, Bool.true_or, if_true, Bool.false_eq_true, if_false, List.length_cons]
        omega
      · have hm : (c ∈ a :: r) ↔ c ∈ r := by rw [List.mem_cons]; exact ⟨fun h => h.resolve_left (Ne.symm hac), .inr⟩
        simp only [hac, decide_false, Bool.false_or, W.sym a c ha hc, hm]
        split
        · rw [List.length_cons, List.length_cons]; omega
        · exact i1
  have := key (List.range n) List.nodup_range fun p hp => List.mem_range.mp hp
  refine Nat.le_trans this ?_
  unfold deg
  split <;> omega
theorem caro {n : Nat} {e : Nat → Nat → Bool} (W : IsWeb n e) {ord : List Nat} (hp : ord.Perm (List.range n)) (hw : ord.Pairwise fun x y => deg n (e x) ≤ deg n (e y)) : (frac (degN n e)).1 ≤ (greedy e ord).length * (frac (degN n e)).2 := by
  have hdv : ∀ p, p < n → (deg n (e p) + 1) ∣ prodS (degN n e) := fun p h => dvd_prodS _ _ (List.mem_map.mpr ⟨p, List.mem_range.mpr h, rfl⟩)
  rw [frac_sum]
  show _ ≤ (greedy e ord).length * prodS (degN n e)
  generalize prodS (degN n e) = B at *
  unfold degN
  rw [List.map_map]
  show ((List.range n).map fun p => B / (deg n (e p) + 1)).sum ≤ _
  have step : ((List.range n).map fun p => B / (deg n (e p) + 1)).sum ≤ ((List.range n).map fun p => ((greedy e ord).map fun c => if (decide (p = c) || e p c) = true then B / (deg n (e c) + 1) else 0).sum).sum := by
    refine sum_le_sum _ _ _ fun p hpn => ?_
    obtain ⟨c, hc, h1, h2⟩ := greedy_dom (e := e) (d := fun x => deg n (e x)) ord hw p (hp.mem_iff.mpr hpn)
    refine Nat.le_trans ?_ (le_sum_mem (greedy e ord) (fun c => if (decide (p = c) || e p c) = true then B / (deg n (e c) + 1) else 0) hc)
    have hb : (decide (p = c) || e p c) = true := by
      rw [Bool.or_eq_true, decide_eq_true_eq]; exact h1
    show _ ≤ (if (decide (p = c) || e p c) = true then _ else 0)
    rw [if_pos hb]
    exact Nat.div_le_div_left (Nat.succ_le_succ h2) (Nat.succ_pos _)
  refine Nat.le_trans step ?_
  rw [sum_swap]
  refine sum_le_const _ _ _ fun c hc => ?_
  have hcn : c < n := List.mem_range.mp (hp.mem_iff.mp (greedy_sub e ord c hc))
  rw [sum_const_if]
  obtain ⟨k, hk⟩ := hdv c hcn
  have e1 : B / (deg n (e c) + 1) = k := by rw [hk, Nat.mul_div_cancel_left _ (Nat.succ_pos _)]
  rw [e1]
  conv => rhs; rw [hk]
  exact Nat.mul_le_mul_right _ (near_count W hcn)
/-- of the chosen none knows another one -/
theorem greedy_indep {n : Nat} {e : Nat → Nat → Bool} (W : IsWeb n e) (ord : List Nat) : (∀ p ∈ ord, p < n) → (greedy e ord).Pairwise (fun p q => e p q = false ∧ e q p = false) := by
  refine snoc_ind (P := fun ord => (∀ p ∈ ord, p < n) → (greedy e ord).Pairwise (fun p q => e p q = false ∧ e q p = false)) (fun _ => .nil) (fun l a ih h => ?_) ord
  have i1 := ih fun p hp => h p (List.mem_append_left _ hp)
  have ha : a < n := h a (by simp)
  rw [greedy_snoc]
  unfold pick
  split
  · rename_i hb
    rw [List.all_eq_true] at hb
    refine List.pairwise_append.mpr ⟨i1, List.pairwise_singleton _ _, fun p hp q hq => ?_⟩
    rw [List.mem_singleton.mp hq]
    have hpn := h p (List.mem_append_left _ (greedy_sub e l p hp))
    have h1 : e a p = false := by simpa using hb p hp
    exact ⟨by rw [W.sym p a hpn ha]; exact h1, h1⟩
  · exact i1
theorem greedy_nodup {e : Nat → Nat → Bool} (ord : List Nat) : ord.Nodup → (greedy e ord).Nodup := by
  refine snoc_ind (P := fun ord => ord.Nodup → (greedy e ord).Nodup) (fun _ => .nil) (fun l a ih h => ?_) ord
  obtain ⟨n1, _, n3⟩ := List.nodup_append.mp h
  have i1 := ih n1
  rw [greedy_snoc]
  unfold pick
  split
  · refine List.nodup_append.mpr ⟨i1, (by simp), fun p hp q hq => ?_⟩
    exact n3 p (greedy_sub e l p hp) q hq
  · exact i1
end AK
set_option Elab.async false
set_option linter.all false
set_option maxRecDepth 100000
set_option maxHeartbeats 2000000
namespace AK
open PySem
theorem nats_natI (l : List Nat) : nats (l.map natI) = l := by
  unfold nats
  rw [List.map_map]
  induction l with
  | nil => rfl
  | cons c l ih => rw [List.map_cons, ih] <;> rfl
theorem pairs_of {e : Nat → Nat → Bool} {c : Bool} {ps : List Nat} (h : ps.Pairwise fun p q => e p q = c) : Pairs e c ps := fun i j hij hj => by
  have := List.pairwise_iff_getElem.mp h i j (by omega) hj hij
  rw [List.getD_eq_getElem?_getD, List.getD_eq_getElem?_getD, List.getElem?_eq_getElem (by omega), List.getElem?_eq_getElem hj]
  exact this
/-- what is asked of people who are told -/
structure Good (n : Nat) (e : Nat → Nat → Bool) (ns : List Int) : Prop where
  rise : rising n (-1) ns = true
  prs : Pairs e false (nats ns)
  many : (frac (degN n e)).1 ≤ ns.length * (frac (degN n e)).2
  few : ns.length ≤ n
theorem Chosen.good {n : Nat} {e : Nat → Nat → Bool} {ns : List Int} (W : IsWeb n e) (c : Chosen n e ns) : Good n e ns := by
  obtain ⟨ord, o1, o2, o3⟩ := c.ex
  have lt : ∀ p ∈ ord, p < n := fun p hp => List.mem_range.mp (o1.mem_iff.mp hp)
  have pn : (nats ns).Perm (greedy e ord) := by
    have := o3.map Int.toNat
    have e1 : ((greedy e ord).map natI).map Int.toNat = greedy e ord := nats_natI _
    rw [e1] at this
    exact this
  have nd : (greedy e ord).Nodup := greedy_nodup ord (o1.nodup_iff.mpr List.nodup_range)
  have ndn : ns.Nodup := o3.nodup_iff.mpr (List.Pairwise.map natI (fun a b h z => h (by unfold natI at z; omega)) nd)
  refine ⟨rising_iff.mpr ⟨?_, fun p hp => ?_⟩, pairs_of ?_, ?_, ?_⟩
  · have : ns.Pairwise (fun a b => a ≤ b ∧ a ≠ b) := List.Pairwise.and c.up ndn
    exact this.imp fun {a b} h => by omega
  · obtain ⟨q, hq, rfl⟩ := List.mem_map.mp (o3.mem_iff.mp hp)
    have := lt q (greedy_sub e ord q hq)
    unfold natI
    omega
  · have h := greedy_indep W ord lt
    have := (pn.pairwise_iff (R := fun p q => e p q = false ∧ e q p = false) (fun h => ⟨h.2, h.1⟩)).mpr h
    exact this.imp fun h => h.1
  · rw [o3.length_eq, List.length_map]
    exact caro W o1 o2
  · rw [o3.length_eq, List.length_map]
    have := greedy_len e ord
    rw [o1.length_eq, List.length_range] at this
    exact this
end AK
set_option Elab.async false
set_option linter.all false
set_option maxRecDepth 100000
set_option maxHeartbeats 4000000
namespace AK
open PySem PySem.Spec PyProof.Rows L2
theorem degs_degN (n : Nat) (e : Nat → Nat → Bool) : degs n e = (degN n e).map fun d : Nat => (d : Int) := by
  unfold degs degN
  rw [List.map_map] <;> rfl
theorem degN_len (n : Nat) (e : Nat → Nat → Bool) : (degN n e).length = n := by unfold degN; rw [List.length_map, List.length_range]
theorem degN_le {n : Nat} {e : Nat → Nat → Bool} : ∀ d ∈ degN n e, d ≤ n := fun d hd => by
  obtain ⟨i, _, rfl⟩ := List.mem_map.mp hd
  exact deg_le _ _
/-- bounds of what is reckoned with -/
theorem frac_bits {ds : List Nat} (hl : ds.length ≤ 200) (hd : ∀ d ∈ ds, d ≤ 200) : (frac ds).2 < 2 ^ 1601 ∧ (frac ds).1 < 2 ^ 1620 := by
  obtain ⟨h1, h2⟩ := frac_bound ds hd
  have e1 : (256 : Nat) ^ ds.length ≤ 256 ^ 200 := Nat.pow_le_pow_right (by decide) hl
  have e2 : (256 : Nat) ^ 200 = 2 ^ 1600 := by
    have : (256 : Nat) = 2 ^ 8 := by decide
    rw [this, ← Nat.pow_mul]
  rw [e2] at e1
  have h3 : ds.length * 256 ^ ds.length ≤ 200 * 2 ^ 1600 := Nat.mul_le_mul hl e1
  have e3 : (2 : Nat) ^ 1601 = 2 * 2 ^ 1600 := by rw [Nat.pow_succ, Nat.mul_comm]
  have e4 : (2 : Nat) ^ 1620 = 1048576 * 2 ^ 1600 := by
    have : (1620 : Nat) = 1600 + 20 := rfl
    rw [this, Nat.pow_add, Nat.mul_comm] <;> rfl
  have hp : 0 < (2 : Nat) ^ 1600 := Nat.two_pow_pos _
  rw [e3, e4]
  generalize (2 : Nat) ^ 1600 = z at *
  constructor
  · omega
  · omega
section
variable {P : Program} {w : World} {K : PySem.W.Frag} {mg : Str → Option Value} {base : Heap}
abbrev nPr : List Str := ["web", "above", "below", "many", "shared"]
theorem scProm : FnScope nPr ["web"] (defScope sPromised) := ⟨rfl, rfl, rfl, by decide +kernel, rfl, by decide +kernel, by decide +kernel⟩
/-- the promise's pair -/
def prV (n : Nat) (e : Nat → Nat → Bool) : List V := [.int ((red (frac (degN n e))).1 : Nat), .int ((red (frac (degN n e))).2 : Nat)]
def spProm (K : PySem.W.Frag) : Sp := fun vs H Q _ => ∃ (a : Addr) (n : Nat) (e : Nat → Nat → Bool), vs = [.ref a] ∧ WebAt K H a n e ∧ ∀ H' t, Same H H' → H t = none → H' t = some (.tup (prV n e)) → Q (.ref t) H'
theorem ok_promised {f fI : Addr} {fd fdI : FuncData} (F : Fun K "promised" "promised" sPromised f fd) (GI : FnOk P w K mg base CX0 3 fI fdI ["web"] (spTies K)) (FI : Fun K "ties" "ties" sTies fI fdI) (bI : Binds K fdI ["web"] []) (gI : mg "ties" = some (.ref fI)) (gg : mg "gcd" = some (.builtin "math.gcd")) : FnOk P w K mg base CX0 4 f fd ["web"] (spProm K) := by
  refine F.ok scProm (fun vs H Q E h => ?_) (fun cdv A outer s H vs Q E hr h => ?_)
  · obtain ⟨a, n, e, rfl, _⟩ := h
    rfl
  · obtain ⟨a, n, e, rfl, hA, q⟩ := h
    have hn := hA.2.1
    refine ⟨_, pss_cons (ps_set (i := 1) scProm.nd rfl (.inl rfl) pe_int) (pss_cons (ps_set (i := 2) scProm.nd rfl (.inl rfl) pe_int)
      (pss_cons (ps_for PassesOwn.never rfl (pi_list (pe_call GI hr (by rfl) gI FI.kp bI .nil pass0 (pa_cons (pv 0) pa_nil))) (pg_name (i := 3) scProm.nd rfl (.inl rfl))
        (pss_cons (ps_set (i := 1) scProm.nd rfl (.inl rfl) (pe_op op_add (pe_op op_mulW (pv 1) (pe_op op_add (pv 3) pe_int)) (pv 2)))
          (pss_one (ps_set (i := 2) scProm.nd rfl (.inl rfl) (pe_op op_mulW (pv 2) (pe_op op_add (pv 3) pe_int))))))
      (pss_cons (ps_set (i := 4) scProm.nd rfl (.inl rfl) (pe_callBfun cr_gcd (by rfl) gg (pa_cons (pv 1) (pa_cons (pv 2) pa_nil))))
      (pss_one (ps_ret (pe_tup (pa_cons (pe_op op_fdivW (pv 1) (pv 4)) (pa_cons (pe_op op_fdivW (pv 2) (pv 4)) pa_nil)))))))), ?_⟩
    refine ⟨_, rfl, a, n, e, rfl, hA, fun H1 p s1 np e1 => ?_⟩
    have bd : ∀ i, (frac ((degN n e).take i)).2 < 2 ^ 1601 ∧ (frac ((degN n e).take i)).1 < 2 ^ 1620 := fun i => frac_bits (by rw [List.length_take, degN_len]; omega) fun d hd => Nat.le_trans (degN_le d (List.mem_of_mem_take hd)) hn
    refine ⟨p, rfl, ⟨_, SqL.of e1⟩, for_list (K := K) (xs := (degs n e).map V.int) (fun i σ H2 => ∃ y3, σ = [some (.ref a), some (.int ((frac ((degN n e).take i)).1 : Nat)), some (.int ((frac ((degN n e).take i)).2 : Nat)), y3, none] ∧ H2 = H1) ⟨none, rfl, rfl⟩ (fun i σ H2 _ ⟨_, _, h2⟩ => by rw [h2]; exact SqL.of e1) ?_ ?_⟩
    · rintro i x σ H2 hx ⟨y3, rfl, rfl⟩
      obtain ⟨d, hd, rfl⟩ : ∃ d, (degN n e)[i]? = some d ∧ x = V.int (d : Nat) := by
        rw [degs_degN, List.map_map, List.getElem?_map] at hx
        obtain ⟨z, hz, rfl⟩ := Option.map_eq_some_iff.mp hx
        exact ⟨z, hz, rfl⟩
      have hdn : d ≤ 200 := Nat.le_trans (degN_le d (List.mem_of_getElem? hd)) hn
      have et : frac ((degN n e).take (i + 1)) = fstep (frac ((degN n e).take i)) d := by
        rw [List.take_add_one, hd]
        exact frac_snoc _ _
      obtain ⟨b1, b2⟩ := bd i
      have hm : ((d : Int) + 1).natAbs < 2 ^ 8 := by show _ < 256; omega
      refine ⟨_, rfl, _, rfl, _, _, rfl, rfl, _, _, rfl, rfl, wide_mul (a := 1620) (b := 8) (by simpa using b2) hm (by decide) (by decide) (by decide), _, rfl, _, _, rfl, rfl, ?_⟩
      refine ⟨_, rfl, _, rfl, _, _, rfl, rfl, _, _, rfl, rfl, wide_mul (a := 1601) (b := 8) (by simpa using b1) hm (by decide) (by decide) (by decide), ?_⟩
      refine ⟨some (.int (d : Nat)), ?_, rfl⟩
      rw [et]
      rfl
    · rintro σ H2 ⟨y3, rfl, rfl⟩
      have el : (degN n e).take ((degs n e).map V.int).length = degN n e := List.take_of_length_le (by rw [List.length_map, degs_len, degN_len]; exact Nat.le_refl _)
      have b := bd ((degs n e).map V.int).length
      rw [el] at b ⊢
      obtain ⟨b1, b2⟩ := b
      have hp := frac_pos (degN n e)
      have hq := q
      unfold prV red at hq
      generalize frac (degN n e) = z at *
      refine ⟨_, rfl, _, rfl, _, _, rfl, ?_⟩
      have hg : 0 < Nat.gcd z.1 z.2 := Nat.gcd_pos_of_pos_right _ hp
      have hgl : Nat.gcd z.1 z.2 < 2 ^ 1601 := Nat.lt_of_le_of_lt (Nat.le_of_dvd hp (Nat.gcd_dvd_right _ _)) b1
      have hdiv : CDivW (z.1 : Int) ((Nat.gcd z.1 z.2 : Nat) : Int) := wide_div (b := 1601) (by omega) (by simpa using hgl) (by decide) (by decide)
      have hdiv2 : CDivW (z.2 : Int) ((Nat.gcd z.1 z.2 : Nat) : Int) := wide_div (b := 1601) (by omega) (by simpa using hgl) (by decide) (by decide)
      refine ⟨_, rfl, _, rfl, _, _, rfl, rfl, hdiv, _, rfl, _, rfl, _, _, rfl, rfl, hdiv2, (by decide : (2 : Nat) ≤ sizeLine), fun t nt => ?_⟩
      exact hq _ t (s1.trans (same_upd nt)) (s1.free nt) upd_same
end
end AK
set_option Elab.async false
set_option linter.all false
set_option maxRecDepth 100000
set_option maxHeartbeats 4000000
namespace AK
open PySem PySem.Spec PyProof.Rows L2
theorem cut_headN (xs : List V) (k : Nat) : cutV xs none (some (k : Int)) = xs.take k := by
  unfold cutV
  rw [HT.sIx_none, HT.sIx_nat, List.drop_zero, Nat.sub_zero, Nat.min_def]
  split
  · rfl
  · rename_i h
    rw [List.take_of_length_le (Nat.le_refl _), List.take_of_length_le (by omega)]
theorem pe_ixKK {X : Cx} {a b : Expr} {ta tb : TE} {pos : Pos} (K : PySem.W.Frag) (hK : X.K = K) (ha : PE X a ta) (hb : PE X b tb) (hs : PlainIx b) : PE X (.Subscript a b pos) (tOp (rIxL K) ta tb) := by
  subst hK
  exact pe_ix ix_list ha hb hs
end AK
set_option Elab.async false
set_option linter.all false
set_option maxRecDepth 100000
set_option maxHeartbeats 4000000
namespace AK
open PySem PySem.Spec PyProof.Rows L2
theorem sgS_dec (b : Bool) : decide (V.str ⟨#[sg b]⟩ = V.str (Str.ofString "x")) = b := by
  cases b
  · exact decide_eq_false (by decide)
  · exact decide_eq_true rfl
theorem joinW (n : Nat) (e : Nat → Bool) : ((List.range n).map fun j => (⟨#[sg (e j)]⟩ : Str)).map (·.length) = List.replicate n 1 := by
  rw [List.map_map]
  have : ∀ l : List Nat, l.map ((fun x : Str => x.length) ∘ fun j => (⟨#[sg (e j)]⟩ : Str)) = List.replicate l.length 1 := fun l => by
    induction l with
    | nil => rfl
    | cons c l ih => rw [List.map_cons, ih, List.length_cons, List.replicate_succ] <;> rfl
  rw [this, List.length_range]
theorem joinR {n : Nat} (e : Nat → Bool) (hn : n ≤ 200) : (((List.range n).map fun j => (⟨#[sg (e j)]⟩ : Str)).map (·.length)).sum + ((List.range n).map fun j => (⟨#[sg (e j)]⟩ : Str)).length * (Str.ofString "").length ≤ 16777216 := by
  rw [joinW, List.sum_replicate_nat, List.length_map, List.length_range]
  show n * 1 + n * 0 ≤ _
  omega
theorem sgn_join (n : Nat) (e : Nat → Bool) : Txt.join (Str.ofString "") ((List.range n).map fun j => (⟨#[sg (e j)]⟩ : Str)) = row n e := by
  have h := join_signs ((List.range n).map fun j => sg (e j))
  rw [List.map_map] at h
  exact h
end AK
set_option Elab.async false
set_option linter.all false
set_option maxRecDepth 100000
set_option maxHeartbeats 4000000
namespace AK
open PySem PySem.Spec PyProof.Rows L2
/-- f(e, ..), f a built-in function that the module imports -/
theorem pe_callI {X : Cx} {id : String} {r : List V → Hp → VK → Prop} {x : Str} {e : Expr} {es : List Expr} {t : TA} {p pos : Pos} (hc : CallR X (.builtin id) r) (hg : Gl X x) (hm : X.mg x = some (.builtin id)) (ha : PA X (e :: es) t) (hdb : (x == ("__debug__" : Str)) = false := by decide)
    (he : starEach (e :: es) X.env = (false, eval e X.env) :: starEach es X.env := by rfl) (hpl : (backTo pos (starEach es X.env)).any (·.1) = false := by rfl) : PE X (.Call (.Name x p) (e :: es) [] pos) (tCB r t) := by
  refine ⟨fun pins s σ H Q I h => ?_⟩
  refine wpAny_Call_Name_kw (ld_glob I hg hm ?_ hdb)
  exact PyProof.Rows.callWith_builtin1 (thn (ha.run pos pins s σ H _ I h) fun us s1 ⟨vs, H1, I1, r1, q1⟩ => hc pins s1 σ H1 vs us Q I1 r1 q1) he hpl
def rComb : List V → Hp → VK → Prop := fun vs H Q => ∃ a b : Int, vs = [.int a, .int b] ∧ 0 ≤ a ∧ 0 ≤ b ∧ a ≤ 1000 ∧ Q (.int (PySem.W.mcComb a b)) H
theorem call_comb {X : Cx} : CallR X (.builtin "math.comb") rComb := by
  intro pins s σ H xs us Q I r h
  obtain ⟨a, b, rfl, h0, h1, h2, q⟩ := h
  obtain ⟨u1, u2, rfl, ⟨t1, rfl⟩, ⟨t2, rfl⟩⟩ := vals2 r
  exact PySem.W.mc_comb h0 h1 (by omega) (.inr (by omega)) fun _ => ⟨.int _, H, I.tok _, ⟨_, rfl⟩, q⟩
section
variable {P : Program} {w : World} {K : PySem.W.Frag} {mg : Str → Option Value} {base : Heap}
theorem scSure : FnScope ["known", "unknown"] ["known", "unknown"] (defScope sSure) := ⟨rfl, rfl, rfl, by decide +kernel, rfl, by decide +kernel, by decide +kernel⟩
def spSure (K : PySem.W.Frag) : Sp := fun vs H Q _ => ∃ k u : Int, vs = [.int k, .int u] ∧ 1 ≤ k ∧ k ≤ 200 ∧ 1 ≤ u ∧ u ≤ 200 ∧ Q (.int (sureN (k - 1).toNat (u - 1).toNat : Nat)) H
theorem ok_sure {f fC : Addr} {fd fdC : FuncData} (F : Fun K "sure" "sure" sSure f fd) (GC : FnOk P w K mg base CX0 2 fC fdC ["value", "least", "most"] (spCount K)) (FC : FunC K fC fdC) (bC : L2.Binds K fdC ["value", "least", "most"] []) (gC : mg "check_count" = some (.ref fC)) (gz : ∃ t, mg "MOST_SIZE" = some (.int 200 t)) (gm : mg "comb" = some (.builtin "math.comb")) :
    FnOk P w K mg base CX0 3 f fd ["known", "unknown"] (spSure K) := by
  obtain ⟨tm, gz⟩ := gz
  refine F.ok scSure (fun vs H Q E h => ?_) (fun cdv A outer s H vs Q E hr h => ?_)
  · obtain ⟨k, u, rfl, _⟩ := h
    rfl
  · obtain ⟨k, u, rfl, k1, k2, u1, u2, q⟩ := h
    refine ⟨_, pss_cons (ps_expr (pe_call GC hr (by rfl) gC FC.kp bC .nil pass0 (pa_cons (pv 0) (pa_cons pe_int (pa_cons (pe_glob (v := .int 200) rfl gz ⟨_, rfl⟩) pa_nil)))))
      (pss_cons (ps_expr (pe_call GC hr (by rfl) gC FC.kp bC .nil pass0 (pa_cons (pv 1) (pa_cons pe_int (pa_cons (pe_glob (v := .int 200) rfl gz ⟨_, rfl⟩) pa_nil)))))
      (pss_one (ps_ret (pe_callI call_comb (by rfl) gm (pa_cons (pe_op op_sub (pe_op op_add (pv 0) (pv 1)) pe_int) (pa_cons (pe_op op_sub (pv 0) pe_int) pa_nil)))))), ?_⟩
    refine ⟨_, rfl, k, 1, .int 200, rfl, k1, .inr ⟨200, rfl, k2⟩, ?_⟩
    refine ⟨_, rfl, u, 1, .int 200, rfl, u1, .inr ⟨200, rfl, u2⟩, ?_⟩
    refine ⟨_, rfl, _, rfl, _, _, rfl, rfl, _, _, rfl, rfl, _, rfl, _, _, rfl, rfl, k + u - 2, k - 1, rfl, by omega, by omega, by omega, ?_⟩
    rw [comb_sure k1 u1]
    exact q
end
end AK
set_option Elab.async false
set_option linter.all false
namespace AK
open PySem PySem.Spec PyProof.Rows L2
/-- who rises and agrees -/
def Agree (e : Nat → Nat → Bool) (c : Bool) (a b : Nat) : Prop := a < b ∧ e a b = c
structure FI (e : Nat → Nat → Bool) (n i j k u : Nat) (left ins outs : List Nat) : Prop where
  k1 : 1 ≤ k
  u1 : 1 ≤ u
  up : left.Pairwise (· < ·)
  lt : ∀ x ∈ left, x < n
  li : ins.length + k = i
  lo : outs.length + u = j
  pI : ins.Pairwise (Agree e true)
  pO : outs.Pairwise (Agree e false)
  cI : ∀ a ∈ ins, ∀ b ∈ left, Agree e true a b
  cO : ∀ a ∈ outs, ∀ b ∈ left, Agree e false a b
  R : sureN (k - 1) (u - 1) ≤ left.length
  ti : ∀ a ∈ ins, a < n
  to : ∀ a ∈ outs, a < n
theorem FI.left {e : Nat → Nat → Bool} {n i j k u : Nat} {left ins outs : List Nat} (h : FI e n i j k u left ins outs) : ∃ x rest, left = x :: rest := by
  have := h.R
  have := sure_pos (k - 1) (u - 1)
  match left with
  | [] => simp at this; omega
  | x :: rest => exact ⟨x, rest, rfl⟩
theorem filt_len (p : Nat → Bool) : ∀ l : List Nat, (l.filter p).length + (l.filter fun y => !p y).length = l.length
  | [] => rfl
  | a :: l => by
    have := filt_len p l
    rw [List.filter_cons, List.filter_cons]
    cases h : p a <;> simp <;> omega
theorem FI.near {e : Nat → Nat → Bool} {n i j k u x : Nat} {rest ins outs : List Nat} (h : FI e n i j k u (x :: rest) ins outs) (hk : 1 < k) (hR : sureN (k - 1 - 1) (u - 1) ≤ (rest.filter (e x)).length) : FI e n i j (k - 1) u (rest.filter (e x)) (ins ++ [x]) outs where
  k1 := by omega
  u1 := h.u1
  up := (List.pairwise_cons.mp h.up).2.filter _
  lt := fun y hy => h.lt y (List.mem_cons_of_mem _ (List.mem_filter.mp hy).1)
  li := by have := h.li; rw [List.length_append, List.length_singleton]; omega
  lo := h.lo
  pI := by
    rw [List.pairwise_append]
    refine ⟨h.pI, List.pairwise_singleton .., fun a ha b hb => ?_⟩
    rw [List.mem_singleton.mp hb]
    exact h.cI a ha x (List.mem_cons_self ..)
  pO := h.pO
  cI := fun a ha b hb => by
    obtain ⟨h1, h2⟩ := List.mem_filter.mp hb
    rcases List.mem_append.mp ha with z | z
    · exact h.cI a z b (List.mem_cons_of_mem _ h1)
    · rw [List.mem_singleton.mp z]
      exact ⟨(List.pairwise_cons.mp h.up).1 b h1, h2⟩
  cO := fun a ha b hb => h.cO a ha b (List.mem_cons_of_mem _ (List.mem_filter.mp hb).1)
  R := hR
  ti := fun a ha => by
    rcases List.mem_append.mp ha with z | z
    · exact h.ti a z
    · rw [List.mem_singleton.mp z]
      exact h.lt x (List.mem_cons_self ..)
  to := h.to
theorem FI.far {e : Nat → Nat → Bool} {n i j k u x : Nat} {rest ins outs : List Nat} (h : FI e n i j k u (x :: rest) ins outs) (hk : 1 < k) (hu : 1 < u) (hR : ¬ sureN (k - 1 - 1) (u - 1) ≤ (rest.filter (e x)).length) : FI e n i j k (u - 1) (rest.filter fun y => !e x y) ins (outs ++ [x]) where
  k1 := h.k1
  u1 := by omega
  up := (List.pairwise_cons.mp h.up).2.filter _
  lt := fun y hy => h.lt y (List.mem_cons_of_mem _ (List.mem_filter.mp hy).1)
  li := h.li
  lo := by have := h.lo; rw [List.length_append, List.length_singleton]; omega
  pI := h.pI
  pO := by
    rw [List.pairwise_append]
    refine ⟨h.pO, List.pairwise_singleton .., fun a ha b hb => ?_⟩
    rw [List.mem_singleton.mp hb]
    exact h.cO a ha x (List.mem_cons_self ..)
  cI := fun a ha b hb => h.cI a ha b (List.mem_cons_of_mem _ (List.mem_filter.mp hb).1)
  cO := fun a ha b hb => by
    obtain ⟨h1, h2⟩ := List.mem_filter.mp hb
    rcases List.mem_append.mp ha with z | z
    · exact h.cO a z b (List.mem_cons_of_mem _ h1)
    · rw [List.mem_singleton.mp z]
      exact ⟨(List.pairwise_cons.mp h.up).1 b h1, by simpa using h2⟩
  R := by
    have h1 := h.R
    have h2 := filt_len (e x) rest
    have h3 := sure_next (k - 1 - 1) (u - 1 - 1)
    have e1 : k - 1 - 1 + 1 = k - 1 := by omega
    have e2 : u - 1 - 1 + 1 = u - 1 := by omega
    rw [e1, e2] at h3
    rw [List.length_cons] at h1
    omega
  ti := h.ti
  to := fun a ha => by
    rcases List.mem_append.mp ha with z | z
    · exact h.to a z
    · rw [List.mem_singleton.mp z]
      exact h.lt x (List.mem_cons_self ..)
/-- what is told at the end -/
structure Told (e : Nat → Nat → Bool) (n : Nat) (c : Bool) (ps : List Nat) : Prop where
  pw : ps.Pairwise (Agree e c)
  lt : ∀ p ∈ ps, p < n
theorem FI.endK {e : Nat → Nat → Bool} {n i j u : Nat} {left ins outs : List Nat} (h : FI e n i j 1 u left ins outs) : Told e n true (ins ++ left.take 1) ∧ (ins ++ left.take 1).length = i := by
  obtain ⟨x, rest, rfl⟩ := h.left
  refine ⟨⟨?_, fun p hp => ?_⟩, ?_⟩
  · rw [List.pairwise_append]
    refine ⟨h.pI, List.pairwise_singleton .., fun a ha b hb => ?_⟩
    rw [List.mem_singleton.mp hb]
    exact h.cI a ha x (List.mem_cons_self ..)
  · rcases List.mem_append.mp hp with z | z
    · exact h.ti p z
    · rw [List.mem_singleton.mp z]
      exact h.lt x (List.mem_cons_self ..)
  · have := h.li
    rw [List.length_append]
    simpa using this
theorem FI.endU {e : Nat → Nat → Bool} {n i j k : Nat} {left ins outs : List Nat} (h : FI e n i j k 1 left ins outs) : Told e n false (outs ++ left.take 1) ∧ (outs ++ left.take 1).length = j := by
  obtain ⟨x, rest, rfl⟩ := h.left
  refine ⟨⟨?_, fun p hp => ?_⟩, ?_⟩
  · rw [List.pairwise_append]
    refine ⟨h.pO, List.pairwise_singleton .., fun a ha b hb => ?_⟩
    rw [List.mem_singleton.mp hb]
    exact h.cO a ha x (List.mem_cons_self ..)
  · rcases List.mem_append.mp hp with z | z
    · exact h.to p z
    · rw [List.mem_singleton.mp z]
      exact h.lt x (List.mem_cons_self ..)
  · have := h.lo
    rw [List.length_append]
    simpa using this
theorem FI.start {e : Nat → Nat → Bool} {n i j : Nat} (hi : 1 ≤ i) (hj : 1 ≤ j) (h : sureN (i - 1) (j - 1) ≤ n) : FI e n i j i j (List.range n) [] [] where
  k1 := hi
  u1 := hj
  up := List.pairwise_lt_range
  lt := fun x hx => List.mem_range.mp hx
  li := by simp
  lo := by simp
  pI := .nil
  pO := .nil
  cI := fun a ha => absurd ha List.not_mem_nil
  cO := fun a ha => absurd ha List.not_mem_nil
  R := by rw [List.length_range]; exact h
  ti := fun a ha => absurd ha List.not_mem_nil
  to := fun a ha => absurd ha List.not_mem_nil
theorem Told.pairs {e : Nat → Nat → Bool} {n : Nat} {c : Bool} {ps : List Nat} (h : Told e n c ps) : Pairs e c ps := fun i j hij hj => by
  have := List.pairwise_iff_getElem.mp h.pw i j (by omega) hj hij
  rw [List.getD_eq_getElem?_getD, List.getElem?_eq_getElem (by omega), List.getD_eq_getElem?_getD, List.getElem?_eq_getElem hj]
  exact this.2
theorem rise_of {n : Nat} : ∀ {ps : List Nat} {last : Int}, ps.Pairwise (· < ·) → (∀ p ∈ ps, last < (p : Int) ∧ p < n) → rising n last (ps.map fun p : Nat => (p : Int)) = true
  | [], _, _, _ => rfl
  | p :: ps, last, hp, hl => by
    obtain ⟨h1, h2⟩ := List.pairwise_cons.mp hp
    obtain ⟨h3, h4⟩ := hl p (List.mem_cons_self ..)
    rw [List.map_cons]
    simp only [rising, Bool.and_eq_true, decide_eq_true_eq]
    exact ⟨h3, by omega, rise_of h2 fun q hq => ⟨by have := h1 q hq; omega, (hl q (List.mem_cons_of_mem _ hq)).2⟩⟩
theorem Told.rise {e : Nat → Nat → Bool} {n : Nat} {c : Bool} {ps : List Nat} (h : Told e n c ps) : rising n (-1) (ps.map fun p : Nat => (p : Int)) = true := rise_of (h.pw.imp fun z => z.1) fun p hp => ⟨by omega, h.lt p hp⟩
/-- no more than there are -/
theorem up_len : ∀ (n : Nat) (ps : List Nat), ps.Pairwise (· < ·) → (∀ p ∈ ps, p < n) → ps.length ≤ n := fun n ps hp hl => by
  have key : ∀ (ps : List Nat) (a : Nat), ps.Pairwise (· < ·) → (∀ p ∈ ps, a ≤ p ∧ p < n) → ps.length ≤ n - a := by
    intro ps
    induction ps with
    | nil => intro a _ _; simp
    | cons p ps ih =>
      intro a hp hl
      obtain ⟨h1, h2⟩ := List.pairwise_cons.mp hp
      obtain ⟨h3, h4⟩ := hl p (List.mem_cons_self ..)
      have := ih (p + 1) h2 fun q hq => ⟨h1 q hq, (hl q (List.mem_cons_of_mem _ hq)).2⟩
      rw [List.length_cons]
      omega
  have := key ps 0 hp fun p h => ⟨Nat.zero_le _, hl p h⟩
  omega
theorem Told.len {e : Nat → Nat → Bool} {n : Nat} {c : Bool} {ps : List Nat} (h : Told e n c ps) : ps.length ≤ n := up_len n ps (h.pw.imp fun z => z.1) h.lt
end AK
set_option Elab.async false
set_option linter.all false
set_option maxRecDepth 100000
set_option maxHeartbeats 8000000
namespace AK
open PySem PySem.Spec PyProof.Rows L2
abbrev natV (p : Nat) : V := V.int p
theorem cut_tail1 (xs : List V) : cutV xs (some 1) none = xs.drop 1 := by
  unfold cutV
  have h1 : HT.sIx xs.length 0 (some 1) = min 1 xs.length := HT.sIx_nat xs.length 0 1
  rw [h1, HT.sIx_none]
  cases xs with
  | nil => rfl
  | cons x xs =>
    have : min 1 (x :: xs).length = 1 := by simp
    rw [this]
    exact List.take_of_length_le (by rw [List.length_drop]; exact Nat.le_refl _)
theorem rgV_nat (n : Nat) : rgV 0 (n : Int) = (List.range n).map natV := by
  have e : ((n : Int) - 0).toNat = n := by omega
  unfold rgV
  rw [e]
  refine List.map_congr_left fun i _ => ?_
  show V.int (0 + (i : Int)) = _
  rw [Int.zero_add]
section
variable {P : Program} {w : World} {K : PySem.W.Frag} {mg : Str → Option Value} {base : Heap}
abbrev nFo : List Str := ["web", "known", "unknown", "left", "inside", "outside", "person", "near", "other"]
theorem scFound : FnScope nFo ["web", "known", "unknown"] (defScope sFound) := ⟨rfl, rfl, rfl, by decide +kernel, rfl, by decide +kernel, by decide +kernel⟩
def spFound (K : PySem.W.Frag) (CK CU : Addr) : Sp := fun vs H Q _ => ∃ (a : Addr) (n i j : Nat) (e : Nat → Nat → Bool), vs = [.ref a, .int i, .int j] ∧ WebAt K H a n e ∧ 1 ≤ i ∧ i ≤ 200 ∧ 1 ≤ j ∧ j ≤ 200 ∧ sureN (i - 1) (j - 1) ≤ n ∧
  ∀ H' p l dx (c : Bool) (ps : List Nat), Told e n c ps → ps.length = (if c = true then i else j) → Same H H' → H l = none → H' p = some (.ins (if c = true then CK else CU) dx [("people", .ref l)]) → H' l = some (.lst (ps.map natV)) → Q (.ref p) H'
/-- after the loop -/
def RF (H : Hp) (a : Addr) (n i j : Nat) (e : Nat → Nat → Bool) (σ : L2.St) (H3 : Hp) : Prop := ∃ (k u : Nat) (left ins outs : List Nat) (L I O : Addr) (y6 y7 : Option V), (k = 1 ∨ u = 1) ∧ σ = [some (.ref a), some (.int k), some (.int u), some (.ref L), some (.ref I), some (.ref O), y6, y7, none] ∧ FI e n i j k u left ins outs ∧ Same H H3 ∧ H3 L = some (.lst (left.map natV)) ∧ H3 I = some (.lst (ins.map natV)) ∧ H3 O = some (.lst (outs.map natV))
theorem ok_found {f fW fS fI fJ CK CU : Addr} {fd fdW fdS fdI fdJ : FuncData} (F : Fun K "found" "found" sFound f fd) (GW : FnOk P w K mg base CX0 2 fW fdW ["web"] (spWeb K)) (FW : Fun K "check_web" "check_web" sWeb fW fdW) (bW : Binds K fdW ["web"] []) (gW : mg "check_web" = some (.ref fW)) (B : Bl mg) (Cc : Cn mg)
    (GS : FnOk P w K mg base CX0 3 fS fdS ["known", "unknown"] (spSure K)) (FS : Fun K "sure" "sure" sSure fS fdS) (bS : Binds K fdS ["known", "unknown"] []) (gS : mg "sure" = some (.ref fS))
    (TK : AC K CK) (gK : mg "Known" = some (.ref CK)) (MK : Mk K CK fI) (FI' : Fun K "__init__" "Known.__init__" sInitK fI fdI) (bI : Binds K fdI ["self", "people"] [])
    (TU : AC K CU) (gU : mg "Unknown" = some (.ref CU)) (MU : Mk K CU fJ) (FJ : Fun K "__init__" "Unknown.__init__" sInitU fJ fdJ) (bJ : Binds K fdJ ["self", "people"] []) :
    FnOk P w K mg base CX0 4 f fd ["web", "known", "unknown"] (spFound K CK CU) := by
  have GI : FnOk P w K mg base CX0 1 fI fdI ["self", "people"] (spInit K CK) := ok_initK FI' TK B
  have GJ : FnOk P w K mg base CX0 1 fJ fdJ ["self", "people"] (spInit K CU) := ok_initU FJ TU B
  obtain ⟨tk, gk⟩ := Cc.knows
  refine F.ok scFound (fun vs H Q E h => ?_) (fun cdv A outer s H vs Q E hr h => ?_)
  · obtain ⟨a, n, i, j, e, rfl, _⟩ := h
    rfl
  · obtain ⟨a, n, i, j, e, rfl, hA, i1, i2, j1, j2, hR, q⟩ := h
    have r2 := hr.mono (j := 2) (by decide)
    have r1 := hr.mono (j := 1) (by decide)
    have hlen : ((web n e).map V.str).length = n := by rw [List.length_map, web_len]
    refine ⟨_, pss_cons (ps_expr (pe_call GW r2 (by rfl) gW FW.kp bW .nil pass0 (pa_cons (pv 0) pa_nil)))
      (pss_cons (ps_if (pt_cmpR op_lt (pe_callB call_len_seq (by rfl) B.len PySem.boot_len (pa_cons (pv 0) pa_nil)) (pe_call GS hr (by rfl) gS FS.kp bS .nil pass0 (pa_cons (pv 1) (pa_cons (pv 2) pa_nil))) (nomark _)) (pss_one ps_never) pss_nil)
      (pss_cons (ps_set (i := 3) scFound.nd rfl (.inl rfl) (pe_listRg rfl (by rfl) B.list (prg_1 (by rfl) B.range (pe_callB call_len_seq (by rfl) B.len PySem.boot_len (pa_cons (pv 0) pa_nil)))))
      (pss_cons (ps_set (i := 4) scFound.nd rfl (.inl rfl) (pe_lst pa_nil))
      (pss_cons (ps_set (i := 5) scFound.nd rfl (.inl rfl) (pe_lst pa_nil))
      (pss_cut (RF H a n i j e) (ps_while PassesOwn.never (PW.pt (pw_and (pt_cmpR op_gt (pv 1) pe_int (nomark _)) (pw_and1 (pt_cmpR op_gt (pv 2) pe_int (nomark _)))))
        (pss_cons (ps_set (i := 6) scFound.nd rfl (.inr rfl) (pe_ix ix_list (pv 3) pe_int (fun _ _ => rfl)))
        (pss_cons (ps_setLc (i := 7) (own := [("other", 8)]) (g := gName 8) rfl scFound.nd rfl rfl (sw_true rfl rfl rfl (by decide +kernel)) (pi_list (pe_slice sl_list (pv 3) (po_some pe_int) po_none)) (blkOk_by (N := nFo) (sc := defScope sFound) (by decide +kernel)) (fun _ _ _ _ _ => pg_name (i := 8) scFound.nd rfl (Or.inl rfl))
            (fun _ _ _ _ _ => pts_one (pt_cmpR op_eq (pe_ix ix_str (pe_ixKK K rfl (pv 0) (pv 6) (fun _ _ => rfl)) (pv 8) (fun _ _ => rfl)) (pe_glob (v := .str "x") rfl gk ⟨_, rfl⟩) (nomark _))) (fun _ _ _ _ _ => pv 8))
        (pss_one (ps_if (pt_cmpR op_ge (pe_callB call_len_seq (by rfl) B.len PySem.boot_len (pa_cons (pv 7) pa_nil)) (pe_call GS hr (by rfl) gS FS.kp bS .nil pass0 (pa_cons (pe_op op_sub (pv 1) pe_int) (pa_cons (pv 2) pa_nil))) (nomark _))
          (pss_cons (ps_expr (pe_bm PySem.F.plainAttrs_list PySem.F.slot_list_append PySem.F.type_list_append mt_append (pv 4) (pa_cons (pv 6) pa_nil)))
          (pss_cons (ps_set (i := 3) scFound.nd rfl (.inl rfl) (pv 7))
          (pss_one (ps_aug (i := 1) scFound.nd rfl (.inl rfl) pe_int ip_sub))))
          (pss_cons (ps_expr (pe_bm PySem.F.plainAttrs_list PySem.F.slot_list_append PySem.F.type_list_append mt_append (pv 5) (pa_cons (pv 6) pa_nil)))
          (pss_cons (ps_setLc (i := 3) (own := [("other", 8)]) (g := gName 8) rfl scFound.nd rfl rfl (sw_true rfl rfl rfl (by decide +kernel)) (pi_list (pe_slice sl_list (pv 3) (po_some pe_int) po_none)) (blkOk_by (N := nFo) (sc := defScope sFound) (by decide +kernel)) (fun _ _ _ _ _ => pg_name (i := 8) scFound.nd rfl (Or.inl rfl))
            (fun _ _ _ _ _ => pts_one (pt_cmpR op_ne (pe_ix ix_str (pe_ixKK K rfl (pv 0) (pv 6) (fun _ _ => rfl)) (pv 8) (fun _ _ => rfl)) (pe_glob (v := .str "x") rfl gk ⟨_, rfl⟩) (nomark _))) (fun _ _ _ _ _ => pv 8))
          (pss_one (ps_aug (i := 2) scFound.nd rfl (.inl rfl) pe_int ip_sub)))))))))
      (pss_one (ps_ret (pe_ifExp (pt_cmpR op_eq (pv 1) pe_int (nomark _)) (pe_make MK GI r2 (by rfl) gK bI .nil pass0 (pa_cons (pe_op op_cat (pv 4) (pe_slice sl_list (pv 3) po_none (po_some pe_int))) pa_nil)) (pe_make MU GJ r2 (by rfl) gU bJ .nil pass0 (pa_cons (pe_op op_cat (pv 5) (pe_slice sl_list (pv 3) po_none (po_some pe_int))) pa_nil)))))))))), ?_⟩
    refine ⟨.ref a, rfl, a, n, e, rfl, hA, fun H1 s1 => ?_⟩
    have hS := s1.seq hA.1
    refine ⟨.ref a, rfl, a, _, rfl, .inl hS, _, rfl, _, rfl, (i : Int), (j : Int), rfl, by omega, by omega, by omega, by omega, _, _, rfl, rfl, _, rfl, ?_⟩
    have ei : ((i : Int) - 1).toNat = i - 1 := by omega
    have ej : ((j : Int) - 1).toNat = j - 1 := by omega
    rw [hlen, ei, ej, decide_eq_false (show ¬ ((n : Nat) : Int) < ((sureN (i - 1) (j - 1) : Nat) : Int) by omega)]
    refine iteF ?_
    have n2 := hA.2.1
    refine ⟨.ref a, rfl, a, _, rfl, .inl hS, _, rfl, RgOk.of_le (by decide) (by rw [hlen]; omega) (by decide) (by rw [hlen]; omega), fun L nL => ⟨by decide, fun I nI => ⟨by decide, fun O nO => ?_⟩⟩⟩
    rw [hlen] at nI nO ⊢
    rw [rgV_nat] at nI nO ⊢
    have eL : L2.upd (L2.upd (L2.upd H1 L (.lst ((List.range n).map natV))) I (.lst [])) O (.lst []) L = some (.lst ((List.range n).map natV)) := by
      rw [upd_ne (ne_of_none (by rw [upd_ne (ne_of_none upd_same nI)]; exact upd_same) nO), upd_ne (ne_of_none upd_same nI)]
      exact upd_same
    have eI : L2.upd (L2.upd (L2.upd H1 L (.lst ((List.range n).map natV))) I (.lst [])) O (.lst []) I = some (.lst []) := by
      rw [upd_ne (ne_of_none upd_same nO)]
      exact upd_same
    have eO : L2.upd (L2.upd (L2.upd H1 L (.lst ((List.range n).map natV))) I (.lst [])) O (.lst []) O = some (.lst []) := upd_same
    have s2 : Same H (L2.upd (L2.upd (L2.upd H1 L (.lst ((List.range n).map natV))) I (.lst [])) O (.lst [])) := s1.trans ((same_upd nL).trans ((same_upd nI).trans (same_upd nO)))
    have nIL : L ≠ I := ne_of_none upd_same nI
    have nIO : I ≠ O := ne_of_none upd_same nO
    have nLO : L ≠ O := ne_of_none (by rw [upd_ne nIL]; exact upd_same) nO
    have fI : H I = none := s1.free ((same_upd (o := .lst ((List.range n).map natV)) nL).free nI)
    have fO : H O = none := s1.free ((same_upd (o := .lst ((List.range n).map natV)) nL).free ((same_upd (o := .lst []) nI).free nO))
    generalize L2.upd (L2.upd (L2.upd H1 L (.lst ((List.range n).map natV))) I (.lst [])) O (.lst []) = H2 at eL eI eO s2 ⊢
    clear nI nO nL hS s1 H1 
    refine ⟨?_, ?_⟩
    · refine ⟨fun m σ H3 => ∃ (k u : Nat) (left ins outs : List Nat) (L : Addr) (y6 y7 : Option V), m = k + u ∧ σ = [some (.ref a), some (.int k), some (.int u), some (.ref L), some (.ref I), some (.ref O), y6, y7, none] ∧ FI e n i j k u left ins outs ∧ Same H H3 ∧ H3 L = some (.lst (left.map natV)) ∧ H3 I = some (.lst (ins.map natV)) ∧ H3 O = some (.lst (outs.map natV)) ∧ L ≠ I ∧ L ≠ O,
      ⟨i + j, i, j, List.range n, [], [], L, none, none, rfl, rfl, FI.start i1 j1 hR, s2, eL, eI, eO, nIL, nLO⟩, ?_⟩
      clear eL eI eO nIL nLO s2 H2 L
      rintro m σ H3 ⟨k, u, left, ins, outs, L, y6, y7, rfl, rfl, hF, s3, eL, eI, eO, nLI, nLO⟩
      have hk2 : k ≤ 200 := by have := hF.li; omega
      have hu2 : u ≤ 200 := by have := hF.lo; omega
      have lz : left.length ≤ n := up_len n left hF.up hF.lt
      refine ⟨_, rfl, k, 1, rfl, rfl, _, rfl, ?_⟩
      by_cases hk : (1 : Int) < k
      · rw [decide_eq_true hk]
        refine iteT ⟨_, rfl, u, 1, rfl, rfl, _, rfl, ?_⟩
        by_cases hu : (1 : Int) < u
        · rw [decide_eq_true hu]
          refine iteT ?_
          obtain ⟨x, rest, rfl⟩ := hF.left
          have hx : x < n := hF.lt x (List.mem_cons_self ..)
          have il : ins.length ≤ 200 := by have := hF.li; omega
          have ol : outs.length ≤ 200 := by have := hF.lo; omega
          refine ⟨fun σ' H' => ∃ (k' u' : Nat) (left' ins' outs' : List Nat) (L' : Addr) (y6 y7 : Option V), k' + u' < k + u ∧ σ' = [some (.ref a), some (.int k'), some (.int u'), some (.ref L'), some (.ref I), some (.ref O), y6, y7, none] ∧ FI e n i j k' u' left' ins' outs' ∧ Same H H' ∧ H' L' = some (.lst (left'.map natV)) ∧ H' I = some (.lst (ins'.map natV)) ∧ H' O = some (.lst (outs'.map natV)) ∧ L' ≠ I ∧ L' ≠ O,
            fun σ' H' ⟨k', u', left', ins', outs', L', z6, z7, hlt, z⟩ => ⟨_, hlt, k', u', left', ins', outs', L', z6, z7, rfl, z⟩, ?_⟩
          refine ⟨_, rfl, L, _, _, natV x, rfl, rfl, SqL.of eL, by show atI _ ((0 : Nat) : Int) = _; exact atI_nat rfl, ?_⟩
          have cutT : cutV ((x :: rest).map natV) (some 1) none = rest.map natV := cut_tail1 _
          have rl : rest.length < n := by rw [List.length_cons] at lz; omega
          have rlt : ∀ y ∈ rest, y < n := fun y hy => hF.lt y (List.mem_cons_of_mem _ hy)
          have hsz : ∀ j, (row n (e j)).length ≤ sizeLine := fun j => by rw [row_len]; exact Nat.le_trans n2 (by decide)
          refine ⟨_, rfl, _, rfl, L, _, rfl, SqL.of eL, fun S nS => ?_⟩
          rw [cutT]
          have sS : Same H3 (L2.upd H3 S (.lst (rest.map natV))) := same_upd nS
          have eS : L2.upd H3 S (.lst (rest.map natV)) S = some (.lst (rest.map natV)) := upd_same
          generalize L2.upd H3 S (.lst (rest.map natV)) = H4 at sS eS ⊢
          refine ⟨S, rfl, ⟨_, SqL.of eS⟩, fun D nD => lc_list (K := K) (a := S) (xs := rest.map natV) (fun z H' => Same H4 H' ∧ H' D = some (.lst (((rest.take z).filter (e x)).map natV))) ⟨same_upd nD, upd_same⟩ (fun z H' _ ⟨s', _⟩ => SqL.of (s' _ _ eS)) ?_ ?_⟩
          · rintro z v H' hv ⟨s', e'⟩
            rw [List.getElem?_map] at hv
            obtain ⟨y, hy, rfl⟩ := Option.map_eq_some_iff.mp hv
            have hyn := rlt y (List.mem_of_getElem? hy)
            refine ⟨rfl, _, rfl, _, rfl, a, _, _, .str (row n (e x)), rfl, rfl, ((s3.trans sS).trans s').seq hA.1, atI_nat (by rw [List.getElem?_map, web_at hx] <;> rfl), _, rfl, _, _, sg (e x y), rfl, rfl, hsz x, atI_nat (row_atL hyn), rfl, _, rfl, ?_⟩
            rw [sgS_dec]
            have er : (rest.take (z + 1)).filter (e x) = (rest.take z).filter (e x) ++ if e x y = true then [y] else [] := by
              rw [List.take_add_one, hy, List.filter_append]
              congr 1
              cases h : e x y <;> simp [h]
            have yes : e x y = true → ∃ acc, H' D = some (.lst acc) ∧ acc.length < sizeLine ∧ Same H4 (L2.upd H' D (.lst (acc ++ [natV y]))) ∧ L2.upd H' D (.lst (acc ++ [natV y])) D = some (.lst (((rest.take (z + 1)).filter (e x)).map natV)) := fun h => by
              rw [if_pos h] at er
              refine ⟨_, e', ?_, fun b o eb => ?_, ?_⟩
              · rw [List.length_map]
                have h1 := List.length_filter_le (e x) (rest.take z)
                rw [List.length_take] at h1
                exact small1000 (by omega)
              · rw [upd_ne (ne_of_none eb nD)]
                exact s' _ _ eb
              · rw [upd_same, er, List.map_append] <;> rfl
            have no : ¬ (e x y = true) → Same H4 H' ∧ H' D = some (.lst (((rest.take (z + 1)).filter (e x)).map natV)) := fun h => by
              rw [if_neg h, List.append_nil] at er
              rw [er]
              exact ⟨s', e'⟩
            cases hb : e x y with
            | true => exact iteT ⟨_, rfl, yes hb⟩
            | false => exact iteF (no (by rw [hb]; decide))
          rintro s5H ⟨s5, e5⟩
          rw [List.length_map, List.take_length] at e5
          have s35 := sS.trans s5
          have eL := s35 _ _ eL
          have nDI : D ≠ I := Ne.symm (ne_of_none (sS _ _ eI) nD)
          have nDO : D ≠ O := Ne.symm (ne_of_none (sS _ _ eO) nD)
          have eI := s35 _ _ eI
          have eO := s35 _ _ eO
          have ek : ((k : Int) - 1 - 1).toNat = k - 1 - 1 := by omega
          have eu : ((u : Int) - 1).toNat = u - 1 := by omega
          have nl : ((rest.filter (e x)).map natV).length = (rest.filter (e x)).length := List.length_map ..
          refine ⟨_, rfl, D, _, rfl, .inl (SqL.of e5), _, rfl, _, _, rfl, rfl, _, rfl, (k : Int) - 1, (u : Int), rfl, by omega, by omega, by omega, by omega, _, _, rfl, rfl, _, rfl, ?_⟩
          rw [nl, ek, eu]
          by_cases hR2 : sureN (k - 1 - 1) (u - 1) ≤ (rest.filter (e x)).length
          · rw [decide_eq_true (show ((sureN (k - 1 - 1) (u - 1) : Nat) : Int) ≤ ((rest.filter (e x)).length : Nat) by omega)]
            refine iteT ?_
            refine ⟨_, rfl, .inl ⟨rfl, _, SqL.of eI⟩, _, rfl, I, _, _, rfl, rfl, eI, by rw [List.length_map]; exact small1000 (by omega), ?_⟩
            refine ⟨_, rfl, ?_⟩
            refine ⟨_, rfl, _, _, rfl, rfl, ?_⟩
            refine ⟨k - 1, u, rest.filter (e x), ins ++ [x], outs, D, _, _, by omega, by rw [show ((k - 1 : Nat) : Int) = (k : Int) - 1 by omega]; rfl, hF.near (by omega) hR2, fun b o eb => ?_, by rw [upd_ne nDI]; exact e5, by rw [upd_same, List.map_append] <;> rfl, by rw [upd_ne (Ne.symm nIO)]; exact eO, nDI, nDO⟩
            rw [upd_ne (ne_of_none eb fI)]
            exact s35 _ _ (s3 _ _ eb)
          · rw [decide_eq_false (show ¬ ((sureN (k - 1 - 1) (u - 1) : Nat) : Int) ≤ ((rest.filter (e x)).length : Nat) by omega)]
            refine iteF ?_
            refine ⟨_, rfl, .inl ⟨rfl, _, SqL.of eO⟩, _, rfl, O, _, _, rfl, rfl, eO, by rw [List.length_map]; exact small1000 (by omega), ?_⟩
            have eI := (upd_ne (H := s5H) (o := .lst (outs.map natV ++ [natV x])) nIO).trans eI
            have eL := (upd_ne (H := s5H) (o := .lst (outs.map natV ++ [natV x])) nLO).trans eL
            have s36 : Same H (L2.upd s5H O (.lst (outs.map natV ++ [natV x]))) := fun b o eb => by
              rw [upd_ne (ne_of_none eb fO)]
              exact s35 _ _ (s3 _ _ eb)
            have eO : L2.upd s5H O (.lst (outs.map natV ++ [natV x])) O = some (.lst ((outs ++ [x]).map natV)) := by rw [upd_same, List.map_append] <;> rfl
            generalize L2.upd s5H O (.lst (outs.map natV ++ [natV x])) = H6 at eI eL s36 eO ⊢
            refine ⟨_, rfl, _, rfl, L, _, rfl, SqL.of eL, fun S2 nS2 => ?_⟩
            rw [cutT]
            have sS2 : Same H6 (L2.upd H6 S2 (.lst (rest.map natV))) := same_upd nS2
            have eS2 : L2.upd H6 S2 (.lst (rest.map natV)) S2 = some (.lst (rest.map natV)) := upd_same
            generalize L2.upd H6 S2 (.lst (rest.map natV)) = H7 at sS2 eS2 ⊢
            refine ⟨S2, rfl, ⟨_, SqL.of eS2⟩, fun D2 nD2 => lc_list (K := K) (a := S2) (xs := rest.map natV) (fun z H' => Same H7 H' ∧ H' D2 = some (.lst (((rest.take z).filter (fun y => !e x y)).map natV))) ⟨same_upd nD2, upd_same⟩ (fun z H' _ ⟨s', _⟩ => SqL.of (s' _ _ eS2)) ?_ ?_⟩
            · rintro z v H' hv ⟨s', e'⟩
              rw [List.getElem?_map] at hv
              obtain ⟨y, hy, rfl⟩ := Option.map_eq_some_iff.mp hv
              have hyn := rlt y (List.mem_of_getElem? hy)
              refine ⟨rfl, _, rfl, _, rfl, a, _, _, .str (row n (e x)), rfl, rfl, ((s36.trans sS2).trans s').seq hA.1, atI_nat (by rw [List.getElem?_map, web_at hx] <;> rfl), _, rfl, _, _, sg (e x y), rfl, rfl, hsz x, atI_nat (row_atL hyn), rfl, _, rfl, ?_⟩
              rw [sgS_dec]
              have er : (rest.take (z + 1)).filter (fun y => !e x y) = (rest.take z).filter (fun y => !e x y) ++ if !e x y = true then [y] else [] := by
                rw [List.take_add_one, hy, List.filter_append]
                congr 1
                cases h : e x y <;> simp [h]
              have yes : !e x y = true → ∃ acc, H' D2 = some (.lst acc) ∧ acc.length < sizeLine ∧ Same H7 (L2.upd H' D2 (.lst (acc ++ [natV y]))) ∧ L2.upd H' D2 (.lst (acc ++ [natV y])) D2 = some (.lst (((rest.take (z + 1)).filter (fun y => !e x y)).map natV)) := fun h => by
                rw [if_pos h] at er
                refine ⟨_, e', ?_, fun b o eb => ?_, ?_⟩
                · rw [List.length_map]
                  have h1 := List.length_filter_le (fun y => !e x y) (rest.take z)
                  rw [List.length_take] at h1
                  exact small1000 (by omega)
                · rw [upd_ne (ne_of_none eb nD2)]
                  exact s' _ _ eb
                · rw [upd_same, er, List.map_append] <;> rfl
              have no : ¬ (!e x y = true) → Same H7 H' ∧ H' D2 = some (.lst (((rest.take (z + 1)).filter (fun y => !e x y)).map natV)) := fun h => by
                rw [if_neg h, List.append_nil] at er
                rw [er]
                exact ⟨s', e'⟩
              cases hb : e x y with
              | true => exact iteF (no (by rw [hb]; decide))
              | false => exact iteT ⟨_, rfl, yes (by rw [hb]; rfl)⟩
            rintro s8H ⟨s8, e8⟩
            rw [List.length_map, List.take_length] at e8
            have s68 := sS2.trans s8
            have nDI2 : D2 ≠ I := Ne.symm (ne_of_none (sS2 _ _ eI) nD2)
            have nDO2 : D2 ≠ O := Ne.symm (ne_of_none (sS2 _ _ eO) nD2)
            refine ⟨_, rfl, _, _, rfl, rfl, ?_⟩
            exact ⟨k, u - 1, rest.filter (fun y => !e x y), ins, outs ++ [x], D2, _, _, by omega, by rw [show ((u - 1 : Nat) : Int) = (u : Int) - 1 by omega]; rfl, hF.far (by omega) (by omega) hR2, s36.trans s68, e8, s68 _ _ eI, s68 _ _ eO, nDI2, nDO2⟩
        · rw [decide_eq_false hu]
          exact iteF ⟨k, u, left, ins, outs, L, I, O, y6, y7, .inr (by have := hF.u1; omega), rfl, hF, s3, eL, eI, eO⟩
      · rw [decide_eq_false hk]
        exact iteF (iteF ⟨k, u, left, ins, outs, L, I, O, y6, y7, .inl (by have := hF.k1; omega), rfl, hF, s3, eL, eI, eO⟩)
    · clear eL eI eO nIL nIO nLO s2 fI fO H2 L I O
      rintro σ H3 ⟨k, u, left, ins, outs, L, I, O, y6, y7, hku, rfl, hF, s3, eL, eI, eO⟩
      have lz : left.length ≤ n := up_len n left hF.up hF.lt
      have cut1 : cutV (left.map natV) none (some 1) = (left.take 1).map natV := by
        have := cut_headN (left.map natV) 1
        rw [← List.map_take] at this
        exact this
      have tl : (left.take 1).length ≤ 1 := by rw [List.length_take]; omega
      refine ⟨_, rfl, rfl, _, rfl, ?_⟩
      by_cases hk : k = 1
      · rw [decide_eq_true (show V.int (k : Nat) = V.int 1 by rw [hk]; rfl)]
        refine iteT ?_
        subst hk
        have il : ins.length ≤ 200 := by have := hF.li; omega
        refine ⟨_, rfl, _, rfl, _, rfl, L, _, rfl, SqL.of eL, fun S nS => ?_⟩
        rw [cut1]
        have s4 := s3.trans (same_upd (o := .lst ((left.take 1).map natV)) nS)
        refine ⟨I, S, ins.map natV, _, rfl, rfl, (by rw [upd_ne (ne_of_none eI nS)]; exact eI), upd_same, Nat.le_of_lt (small1000 (by rw [List.length_map, List.length_map]; omega)), fun p np => ?_⟩
        intro x dx nx ndx nex
        have s5 := s4.trans (same_upd (o := .lst (ins.map natV ++ (left.take 1).map natV)) np)
        refine ⟨x, p, dx, ins.map natV ++ (left.take 1).map natV, rfl, upd_same, SqL.of ?_, fun l H' nl e1 e2 kp => ⟨rfl, q H' x l dx true (ins ++ left.take 1) hF.endK.1 hF.endK.2 (fun b o eb => ?_) ?_ e2 (by rw [e1, List.map_append])⟩⟩
        · rw [upd_ne (ne_of_none upd_same nx), upd_ne (ne_of_none upd_same ndx)]
          exact upd_same
        · have eb3 := s5 b o eb
          refine kp b o ?_ (ne_of_none eb3 nx)
          rw [upd_ne (ne_of_none eb3 nx), upd_ne (ne_of_none eb3 ndx)]
          exact eb3
        · have hd : ∀ b o, H b = some o → b ≠ l := fun b o eb z => by
            have eb3 := s5 b o eb
            rw [z] at eb3
            by_cases h1 : l = x
            · subst h1
              rw [nx] at eb3
              cases eb3
            · by_cases h2 : l = dx
              · subst h2
                rw [upd_ne h1, upd_same] at nl
                cases nl
              · rw [upd_ne h1, upd_ne h2, eb3] at nl
                cases nl
          cases hl : H l with
          | none => rfl
          | some o => exact absurd rfl (hd l o hl)
      · have hu : u = 1 := by omega
        rw [decide_eq_false (show ¬ V.int (k : Nat) = V.int 1 from fun z => hk (by injection z; omega))]
        refine iteF ?_
        subst hu
        have il : outs.length ≤ 200 := by have := hF.lo; omega
        refine ⟨_, rfl, _, rfl, _, rfl, L, _, rfl, SqL.of eL, fun S nS => ?_⟩
        rw [cut1]
        have s4 := s3.trans (same_upd (o := .lst ((left.take 1).map natV)) nS)
        refine ⟨O, S, outs.map natV, _, rfl, rfl, (by rw [upd_ne (ne_of_none eO nS)]; exact eO), upd_same, Nat.le_of_lt (small1000 (by rw [List.length_map, List.length_map]; omega)), fun p np => ?_⟩
        intro x dx nx ndx nex
        have s5 := s4.trans (same_upd (o := .lst (outs.map natV ++ (left.take 1).map natV)) np)
        refine ⟨x, p, dx, outs.map natV ++ (left.take 1).map natV, rfl, upd_same, SqL.of ?_, fun l H' nl e1 e2 kp => ⟨rfl, q H' x l dx false (outs ++ left.take 1) hF.endU.1 hF.endU.2 (fun b o eb => ?_) ?_ e2 (by rw [e1, List.map_append])⟩⟩
        · rw [upd_ne (ne_of_none upd_same nx), upd_ne (ne_of_none upd_same ndx)]
          exact upd_same
        · have eb3 := s5 b o eb
          refine kp b o ?_ (ne_of_none eb3 nx)
          rw [upd_ne (ne_of_none eb3 nx), upd_ne (ne_of_none eb3 ndx)]
          exact eb3
        · have hd : ∀ b o, H b = some o → b ≠ l := fun b o eb z => by
            have eb3 := s5 b o eb
            rw [z] at eb3
            by_cases h1 : l = x
            · subst h1
              rw [nx] at eb3
              cases eb3
            · by_cases h2 : l = dx
              · subst h2
                rw [upd_ne h1, upd_same] at nl
                cases nl
              · rw [upd_ne h1, upd_ne h2, eb3] at nl
                cases nl
          cases hl : H l with
          | none => rfl
          | some o => exact absurd rfl (hd l o hl)
end
end AK
set_option Elab.async false
set_option linter.all false
set_option maxRecDepth 100000
set_option maxHeartbeats 8000000
namespace AK
open PySem PySem.Spec PyProof.Rows L2
/-- a class of errors -/
structure EC (K : PySem.W.Frag) (mg : Str → Option Value) (x : Str) (C : Addr) : Prop where
  g : mg x = some (.ref C)
  q : PySem.W.excIn K C [.type "ValueError", .type "Exception", .type "BaseException", .type "object"] "ValueError.__new__" = true
  kp : PySem.W.keepIn K (.ref C) = true
  sb : PySem.W.subIn K (.ref C) (.type "BaseException") = some true
  ty : PySem.W.typeIn K (.ref C) = some (.type "type")
/-- a raise whose message is one expression -/
theorem ps_rais {X : Cx} {W : WX} {C : Addr} {x : Str} {e : Expr} {ta : TE} {p pos pos2 : Pos} (hc : X.calm = true) (tk : Takes X W) (B : EC X.K X.mg x C) (hg : Gl X x) (he : PE X e ta) (hs : starEach [e] X.env = (false, eval e X.env) :: starEach [] X.env := by rfl) (hdb : (x == ("__debug__" : Str)) = false := by decide) :
    PS X (.Raise (some (.Call (.Name x p) [e] [] pos)) none pos2) (fun _ σ H => ta σ H fun _ H1 => W (.ref C) none σ H1) :=
  ps_raise hc tk (SkE.pmk_own1 PySem.F.excBase_ValueError B.q B.g B.kp (raises_own B.sb B.ty) hg he hs hdb)
theorem pss_no {X : Cx} {sts : List Stmt} : PSs X sts (fun _ _ _ => False) := ⟨fun _ _ _ _ _ _ h => h.elim⟩
theorem suite_ex {X : Cx} {sts : List Stmt} {Pz : Addr → Prop} {t : Addr → TS} (h : ∀ Dc, Pz Dc → PSs X sts (t Dc)) : PSs X sts (fun D σ H => ∃ Dc, Pz Dc ∧ t Dc D σ H) :=
  ⟨fun pins s σ H D I ⟨Dc, hp, hq⟩ => (h Dc hp).run pins s σ H D I hq⟩
/-- isinstance(error, c), the written part by name -/
theorem pe_isE {X : Cx} {a D : Addr} {oe : Obj} {pn : List (Addr × Obj)} {e : Expr} {es : List Expr} {t : TA} {p pos : Pos} (K : PySem.W.Frag) (hK : X.K = K) (C : ExcC K D) (hz : Zc (.ref D) none oe) (hf : ∃ vs, oe.data = .fields vs) (hg : Gl (X.suite a ((a, oe) :: pn)) "isinstance") (hm : X.mg "isinstance" = none) (ha : PA (X.suite a ((a, oe) :: pn)) (e :: es) t)
    (he : starEach (e :: es) X.env = (false, eval e X.env) :: starEach es X.env := by rfl) (hpl : (backTo pos (starEach es X.env)).any (·.1) = false := by rfl) : PE (X.suite a ((a, oe) :: pn)) (.Call (.Name "isinstance" p) (e :: es) [] pos) (tCB (rIsE K D a) t) := by
  subst hK
  exact pe_callB (call_isE C hz hf) hg hm (by decide +kernel) ha (he := he) (hpl := hpl)
/-- isinstance(error, (c, ..)), the tuple just laid -/
def rIsET (K : PySem.W.Frag) (D a : Addr) : List V → Hp → VK → Prop := fun xs H Q => ∃ (tp : Addr) (cs : List V) (us : List Value) (b : Bool), xs = [.ref a, .ref tp] ∧ H tp = some (.tup cs) ∧ Paired ClsV cs us ∧ PySem.W.kitAny K (.ref D) us = some b ∧ Q (.bl b) H
theorem call_isET {X : Cx} {a D : Addr} {oe : Obj} {pn : List (Addr × Obj)} (C : ExcC X.K D) (hz : Zc (.ref D) none oe) (hf : ∃ vs, oe.data = .fields vs) : CallR (X.suite a ((a, oe) :: pn)) (.builtin "isinstance") (rIsET X.K D a) := by
  rintro pins s σ H xs us Q I r ⟨tp, cs, ws, b, rfl, hT, k, e, q⟩
  obtain ⟨u1, u2, rfl, r1, r2⟩ := vals2 r
  obtain rfl : u1 = Value.ref a := r1
  obtain rfl : u2 = Value.ref tp := r2
  obtain ⟨hget, _⟩ := I.pin (a, oe) (List.mem_append.mpr (.inl (List.mem_cons_self ..)))
  have J : PySem.W.InstAt s.heap a oe D none := by
    obtain ⟨vs, hv⟩ := hf
    obtain ⟨oc, od, oda, osl⟩ := oe
    obtain ⟨h1, h2⟩ := hz
    dsimp only at h1 h2 hv
    subst h1 h2 hv
    exact ⟨hget, rfl, rfl, trivial⟩
  obtain ⟨_, its, rv, ⟨oc, od, dt, sl⟩, h1, h2, n, h3⟩ := (show ObjOk X.prog X.w H s.heap tp (.tup cs) from I.hok tp _ hT)
  have e3 := ClsV.all k rv
  subst e3
  simp only at h2 h3
  subst h2 h3
  exact PySem.W.kia_tup (PySem.W.handS_kitx_exc C.hg C.hk C.hs C.hd C.ha C.hn C.ht C.hm) I.kIn J h1 e (fun z => nomatch z) fun tk => ⟨.bl b, H, I.kept (t' := tk) fun _ _ z => z, rfl, q⟩
theorem pe_isET {X : Cx} {a D : Addr} {oe : Obj} {pn : List (Addr × Obj)} {e : Expr} {es : List Expr} {t : TA} {p pos : Pos} (K : PySem.W.Frag) (hK : X.K = K) (C : ExcC K D) (hz : Zc (.ref D) none oe) (hf : ∃ vs, oe.data = .fields vs) (hg : Gl (X.suite a ((a, oe) :: pn)) "isinstance") (hm : X.mg "isinstance" = none) (ha : PA (X.suite a ((a, oe) :: pn)) (e :: es) t)
    (he : starEach (e :: es) X.env = (false, eval e X.env) :: starEach es X.env := by rfl) (hpl : (backTo pos (starEach es X.env)).any (·.1) = false := by rfl) : PE (X.suite a ((a, oe) :: pn)) (.Call (.Name "isinstance" p) (e :: es) [] pos) (tCB (rIsET K D a) t) := by
  subst hK
  exact pe_callB (call_isET C hz hf) hg hm (by decide +kernel) ha (he := he) (hpl := hpl)
/-! ### "-" * n -/
abbrev dash (n : Nat) : Str := row n fun _ => false
theorem fold_rep (c : Nat) : ∀ (k : Nat) (acc : Array Nat), (List.replicate k #[c]).foldl (· ++ ·) acc = acc ++ (List.replicate k c).toArray
  | 0, acc => by simp
  | k + 1, acc => by
    rw [List.replicate_succ, List.foldl_cons, fold_rep c k, List.replicate_succ]
    apply Array.ext'
    simp
theorem dash_cps (n : Nat) : (⟨(List.replicate n (Str.ofString "-").cps).foldl (· ++ ·) #[]⟩ : Str) = dash n := by
  have e : (Str.ofString "-").cps = #[45] := by decide +kernel
  rw [e, fold_rep]
  have h : ∀ l : List Nat, l.map (fun _ => sg false) = List.replicate l.length 45 := fun l => by
    induction l with
    | nil => rfl
    | cons c l ih => rw [List.map_cons, ih, List.length_cons, List.replicate_succ] <;> rfl
  unfold dash row
  rw [h, List.length_range]
  simp
def rDash : R2 := fun x y H Q => ∃ n : Nat, x = .str (Str.ofString "-") ∧ y = .int n ∧ n ≤ 1000 ∧ Q (.str (dash n)) H
theorem op_dash {X : Cx} : OpR X (binaryOp .Mult) rDash := by
  intro pins s σ H x y v u Q I rx ry h
  obtain ⟨n, rfl, rfl, hn, q⟩ := h
  obtain ⟨t, rfl⟩ := rx
  obtain ⟨t', rfl⟩ := ry
  have hl : (Str.ofString "-").length = 1 := by decide
  refine PySem.P.mul_str ?_ (fun h1 _ => ?_) (fun h1 _ => ?_) ?_
  · rw [decide_eq_false (by omega), decide_eq_false (by omega)] <;> rfl
  · rw [hl]
    have : (1 : Int) ≤ (2 ^ 63 - 1) / (n : Int) := by
      rw [Int.le_ediv_iff_mul_le (by omega)]
      omega
    omega
  · rw [hl]
    show Builtin.Str.tooLong (1 * ((n : Int)).toNat) = false
    have e : ((n : Int)).toNat = n := by omega
    rw [e, Nat.one_mul]
    unfold Builtin.Str.tooLong
    exact decide_eq_false (Nat.not_lt.mpr (Nat.le_of_lt (small1000 hn)))
  · by_cases h1 : (n : Int) < 1
    · rw [if_pos h1]
      have e : n = 0 := by omega
      subst e
      exact ⟨by decide, .str _, H, I.tok _, ⟨_, rfl⟩, q⟩
    · rw [if_neg h1]
      by_cases h2 : n = 1
      · subst h2
        rw [if_pos (by decide)]
        exact ⟨.str (dash 1), H, I, ⟨t, rfl⟩, q⟩
      · rw [if_neg (by rw [hl]; simp; omega)]
        have e : ((n : Int)).toNat = n := by omega
        rw [e, dash_cps]
        refine ⟨?_, .str _, H, I.tok _, ⟨_, rfl⟩, q⟩
        show (dash n).length ≤ sizeLine
        rw [row_len]
        exact Nat.le_of_lt (small1000 hn)
end AK
set_option Elab.async false
set_option linter.all false
set_option maxRecDepth 100000
set_option maxHeartbeats 8000000
namespace AK
open PySem PySem.Spec PyProof.Rows L2
/-- the classes of errors among one another -/
structure ET (K : PySem.W.Frag) (mg : Str → Option Value) (CW CC CT CE : Addr) : Prop where
  gW : mg "BadWeb" = some (.ref CW)
  gC : mg "BadCount" = some (.ref CC)
  gE : mg "WebError" = some (.ref CE)
  tf : EC K mg "TooFew" CT
  xT : ExcC K CT
  mT : PySem.W.exmOne K (.ref CT) (.ref CE) = some true
  tt : PySem.W.kitOne K (.ref CT) (.ref CT) = some true
  tn : PySem.W.kitAny K (.ref CT) [.ref CC, .ref CW] = some false
section
variable {P : Program} {w : World} {K : PySem.W.Frag} {mg : Str → Option Value} {base : Heap}
def spFoundF (K : PySem.W.Frag) (CT : Addr) : Sp := fun vs H Q E => ∃ (a : Addr) (n i j : Nat) (e : Nat → Nat → Bool), vs = [.ref a, .int i, .int j] ∧ WebAt K H a n e ∧ 1 ≤ i ∧ i ≤ 200 ∧ 1 ≤ j ∧ j ≤ 200 ∧ n < sureN (i - 1) (j - 1) ∧ ∀ H', Same H H' → E (.ref CT) none H'
theorem ok_foundF {f fW fS CT : Addr} {fd fdW fdS : FuncData} (F : Fun K "found" "found" sFound f fd) (GW : FnOk P w K mg base CX0 2 fW fdW ["web"] (spWeb K)) (FW : Fun K "check_web" "check_web" sWeb fW fdW) (bW : Binds K fdW ["web"] []) (gW : mg "check_web" = some (.ref fW)) (B : Bl mg)
    (GS : FnOk P w K mg base CX0 3 fS fdS ["known", "unknown"] (spSure K)) (FS : Fun K "sure" "sure" sSure fS fdS) (bS : Binds K fdS ["known", "unknown"] []) (gS : mg "sure" = some (.ref fS)) (EB : EC K mg "TooFew" CT) :
    FnOk P w K mg base (L2.CX P w) 4 f fd ["web", "known", "unknown"] (spFoundF K CT) := by
  refine F.okX scFound (fun vs H Q E h => ?_) (fun cdv A outer s H vs Q E hr h => ?_)
  · obtain ⟨a, n, i, j, e, rfl, _⟩ := h
    rfl
  · obtain ⟨a, n, i, j, e, rfl, hA, i1, i2, j1, j2, hR, q⟩ := h
    have r2 := hr.mono (j := 2) (by decide)
    have hlen : ((web n e).map V.str).length = n := by rw [List.length_map, web_len]
    refine ⟨_, pss_cons (ps_expr (pe_call GW r2 (by rfl) gW FW.kp bW .nil pass0 (pa_cons (pv 0) pa_nil)))
      (pss_cons (ps_if (pt_cmpR op_lt (pe_callB call_len_seq (by rfl) B.len PySem.boot_len (pa_cons (pv 0) pa_nil)) (pe_call GS hr (by rfl) gS FS.kp bS .nil pass0 (pa_cons (pv 1) (pa_cons (pv 2) pa_nil))) (nomark _)) (pss_one (ps_rais rfl (takes_of rfl rfl rfl rfl) EB (by rfl) pe_str)) pss_nil)
      pss_no), ?_⟩
    refine ⟨.ref a, rfl, a, n, e, rfl, hA, fun H1 s1 => ?_⟩
    have hS := s1.seq hA.1
    refine ⟨.ref a, rfl, a, _, rfl, .inl hS, _, rfl, _, rfl, (i : Int), (j : Int), rfl, by omega, by omega, by omega, by omega, _, _, rfl, rfl, _, rfl, ?_⟩
    have ei : ((i : Int) - 1).toNat = i - 1 := by omega
    have ej : ((j : Int) - 1).toNat = j - 1 := by omega
    rw [hlen, ei, ej, decide_eq_true (show ((n : Nat) : Int) < ((sureN (i - 1) (j - 1) : Nat) : Int) by omega)]
    exact iteT (q H1 s1)
end
end AK
set_option Elab.async false
set_option linter.all false
set_option maxRecDepth 100000
set_option maxHeartbeats 4000000
namespace AK
open PySem PySem.Spec PyProof.Rows L2
section
variable {P : Program} {w : World} {K : PySem.W.Frag} {mg : Str → Option Value} {base : Heap}
/-! ### _law_truths -/
theorem scTruths : FnScope ["_law_things", "_law_one"] ["_law_things"] (defScope sTruths) := ⟨rfl, rfl, rfl, by decide +kernel, rfl, by decide +kernel, by decide +kernel⟩
def spTruths (K : PySem.W.Frag) : Sp := fun vs H Q _ => ∃ (a : Addr) (bs : List Bool), vs = [.ref a] ∧ SqL K H a (bs.map V.bl) ∧ bs.length ≤ 1000 ∧ ∀ H', Same H H' → Q (.bl true) H'
theorem ok_truths {f : Addr} {fd : FuncData} (F : Fun K "_law_truths" "_law_truths" sTruths f fd) (B : Bl mg) (hall : mg "all" = none) : FnOk P w K mg base CX0 1 f fd ["_law_things"] (spTruths K) := by
  refine F.ok scTruths (fun vs H Q E h => ?_) (fun cdv A outer s H vs Q E hr h => ?_)
  · obtain ⟨a, bs, rfl, _⟩ := h
    rfl
  · obtain ⟨a, bs, rfl, hS, hl, q⟩ := h
    refine ⟨_, pss_one (ps_ret (pe_callB (cr_all rfl) (by rfl) hall (by decide +kernel) (pa_cons
          (pe_lc (own := [("_law_one", 1)]) (g := gName 1) (tt := tYes) rfl scTruths.nd (pi_list (pv 0)) (blkOk_by (N := ["_law_things", "_law_one"]) (sc := defScope sTruths) (by decide +kernel)) (fun _ _ _ _ _ => pg_name (i := 1) scTruths.nd rfl (Or.inl rfl)) (fun _ _ _ _ _ => pts_nil)
            (fun _ _ _ _ _ => pe_isiK K rfl (by rfl) B.isi (pa_cons (pv 1) (pa_cons (pe_bltn (v := .ty "bool") (u := .type "bool") (by rfl) B.bool (by decide +kernel) rfl) pa_nil)))) pa_nil))), ?_⟩
    refine ⟨.ref a, rfl, a, rfl, ⟨_, hS⟩, fun D nD => lc_list (K := K) (xs := bs.map V.bl) (fun i H2 => Same H H2 ∧ H2 D = some (.lst ((List.replicate i true).map V.bl))) ⟨same_upd nD, upd_same⟩ (fun i H2 _ ⟨s2, _⟩ => s2.seq hS) ?_ ?_⟩
    · rintro i x H2 hx ⟨s2, e2⟩
      rw [List.getElem?_map] at hx
      obtain ⟨z, hz, rfl⟩ := Option.map_eq_some_iff.mp hx
      have hi := (List.getElem?_eq_some_iff.mp hz).1
      refine ⟨rfl, _, rfl, .bl z, .ty "bool", .type "bool", .type "bool", true, rfl, .ty "bool", .base (.bl z), kit_ty (by decide +kernel), _, e2, ?_, fun b o eb => ?_, ?_⟩
      · rw [List.length_map, List.length_replicate]
        exact small1000 (by omega)
      · rw [upd_ne (ne_of_none eb nD)]
        exact s2 _ _ eb
      · rw [upd_same, List.replicate_succ', List.map_append] <;> rfl
    · rintro H2 ⟨s2, e2⟩
      refine ⟨D, _, rfl, SqL.of e2, ?_⟩
      have er : ∀ k, (List.replicate k true).all id = true := fun k => by simp
      rw [er]
      exact q H2 s2
/-! ### _law_plain, by depth -/
theorem scPlain : FnScope ["_law_thing", "_law_one"] ["_law_thing"] (defScope sPlain) := ⟨rfl, rfl, rfl, by decide +kernel, rfl, by decide +kernel, by decide +kernel⟩
/-- what is plain: an int; a list, a tuple of such -/
def PlainD (K : PySem.W.Frag) : Nat → Hp → V → Prop
  | 0, _, x => ∃ i : Int, x = .int i
  | k + 1, H, x => (∃ i : Int, x = .int i) ∨ (∃ (a : Addr) (xs : List V), x = .ref a ∧ H a = some (.lst xs) ∧ xs.length ≤ 1000 ∧ ∀ y ∈ xs, PlainD K k H y) ∨ (∃ (a : Addr) (xs : List V), x = .ref a ∧ H a = some (.tup xs) ∧ xs.length ≤ 1000 ∧ ∀ y ∈ xs, PlainD K k H y)
theorem PlainD.same {K : PySem.W.Frag} {H H' : Hp} (s : Same H H') : ∀ {k : Nat} {x : V}, PlainD K k H x → PlainD K k H' x
  | 0, _, h => h
  | k + 1, _, h => by
    rcases h with h | ⟨a, xs, h1, h2, h3, h4⟩ | ⟨a, xs, h1, h2, h3, h4⟩
    · exact .inl h
    · exact .inr (.inl ⟨a, xs, h1, s _ _ h2, h3, fun y hy => (h4 y hy).same s⟩)
    · exact .inr (.inr ⟨a, xs, h1, s _ _ h2, h3, fun y hy => (h4 y hy).same s⟩)
def spPlain (K : PySem.W.Frag) (k : Nat) : Sp := fun vs H Q _ => ∃ x : V, vs = [x] ∧ PlainD K k H x ∧ ∀ H', Same H H' → Q (.bl true) H'
theorem ok_plain0 {f : Addr} {fd : FuncData} (F : Fun K "_law_plain" "_law_plain" sPlain f fd) (B : Bl mg) (htup : mg "tuple" = none) : FnOk P w K mg base CX0 1 f fd ["_law_thing"] (spPlain K 0) := by
  refine F.ok scPlain (fun vs H Q E h => ?_) (fun cdv A outer s H vs Q E hr h => ?_)
  · obtain ⟨x, rfl, _⟩ := h
    rfl
  · obtain ⟨x, rfl, ⟨i, rfl⟩, q⟩ := h
    refine ⟨_, pss_cons (ps_if (PW.pt (pw_or (pt_val (pe_callB call_isi (by rfl) B.isi (by decide +kernel) (pa_cons (pv 0) (pa_cons (pe_bltn (v := .ty "list") (u := .type "list") (by rfl) B.list (by decide +kernel) rfl) pa_nil)))) (pw_or1 (pt_val (pe_callB call_isi (by rfl) B.isi (by decide +kernel) (pa_cons (pv 0) (pa_cons (pe_bltn (v := .ty "tuple") (u := .type "tuple") (by rfl) htup (by decide +kernel) rfl) pa_nil))))))) (pss_one ps_never) pss_nil)
      (pss_one (ps_ret (pe_or (pe_cmpR op_isN (pv 0) pe_non (nomark _)) (pe_or (pe_callB call_isi (by rfl) B.isi (by decide +kernel) (pa_cons (pv 0) (pa_cons (pe_bltn (v := .ty "str") (u := .type "str") (by rfl) B.str (by decide +kernel) rfl) pa_nil)))
        (pe_one (pe_and (pe_callB call_isi (by rfl) B.isi (by decide +kernel) (pa_cons (pv 0) (pa_cons (pe_bltn (v := .ty "int") (u := .type "int") (by rfl) B.int (by decide +kernel) rfl) pa_nil))) (pe_one (pe_not (pe_callB call_isi (by rfl) B.isi (by decide +kernel) (pa_cons (pv 0) (pa_cons (pe_bltn (v := .ty "bool") (u := .type "bool") (by rfl) B.bool (by decide +kernel) rfl) pa_nil))))))))))), ?_⟩
    refine ⟨_, rfl, .int i, .ty "list", .type "int", .type "list", false, rfl, .ty "list", .base (.int i), kit_ty (by decide +kernel), false, rfl, iteF ?_⟩
    refine ⟨_, rfl, .int i, .ty "tuple", .type "int", .type "tuple", false, rfl, .ty "tuple", .base (.int i), kit_ty (by decide +kernel), false, rfl, iteF ?_⟩
    refine ⟨_, rfl, rfl, _, rfl, ?_⟩
    rw [decide_eq_false (show ¬ V.int i = V.non from fun z => nomatch z)]
    refine iteF ?_
    refine ⟨_, rfl, .int i, .ty "str", .type "int", .type "str", false, rfl, .ty "str", .base (.int i), kit_ty (by decide +kernel), _, rfl, iteF ?_⟩
    refine ⟨_, rfl, .int i, .ty "int", .type "int", .type "int", true, rfl, .ty "int", .base (.int i), kit_ty (by decide +kernel), _, rfl, iteT ?_⟩
    refine ⟨_, rfl, .int i, .ty "bool", .type "int", .type "bool", false, rfl, .ty "bool", .base (.int i), kit_ty (by decide +kernel), _, rfl, ?_⟩
    exact q H (Same.refl _)
theorem ok_plain {f : Addr} {fd : FuncData} (F : Fun K "_law_plain" "_law_plain" sPlain f fd) (gP : mg "_law_plain" = some (.ref f)) (bP : Binds K fd ["_law_thing"] []) (B : Bl mg) (htup : mg "tuple" = none) (hall : mg "all" = none) : ∀ k, FnOk P w K mg base CX0 (k + 1) f fd ["_law_thing"] (spPlain K k)
  | 0 => ok_plain0 F B htup
  | k + 1 => by
    have GP := ok_plain F gP bP B htup hall k
    refine F.ok scPlain (fun vs H Q E h => ?_) (fun cdv A outer s H vs Q E hr h => ?_)
    · obtain ⟨x, rfl, _⟩ := h
      rfl
    · obtain ⟨x, rfl, hx, q⟩ := h
      have step : ∀ (D : Addr) (H2 : Hp) (i : Nat), H D = none → i < 1000 → Same H H2 → H2 D = some (.lst ((List.replicate i true).map V.bl)) → ∃ acc, H2 D = some (.lst acc) ∧ acc.length < sizeLine ∧ (Same H (L2.upd H2 D (.lst (acc ++ [V.bl true]))) ∧ L2.upd H2 D (.lst (acc ++ [V.bl true])) D = some (.lst ((List.replicate (i + 1) true).map V.bl))) := fun D H2 i nD hi s2 e2 => by
        refine ⟨_, e2, ?_, fun b o eb => ?_, ?_⟩
        · rw [List.length_map, List.length_replicate]
          exact small1000 (by omega)
        · rw [upd_ne (ne_of_none eb nD)]
          exact s2 _ _ eb
        · rw [upd_same, List.replicate_succ', List.map_append] <;> rfl
      have er : ∀ k, (List.replicate k true).all id = true := fun k => by simp
      rcases hx with ⟨i, rfl⟩ | ⟨a, xs, rfl, ha, hl, hp⟩ | ⟨a, xs, rfl, ha, hl, hp⟩
      · refine ⟨_, pss_cons (ps_if (PW.pt (pw_or (pt_val (pe_callB call_isi (by rfl) B.isi (by decide +kernel) (pa_cons (pv 0) (pa_cons (pe_bltn (v := .ty "list") (u := .type "list") (by rfl) B.list (by decide +kernel) rfl) pa_nil)))) (pw_or1 (pt_val (pe_callB call_isi (by rfl) B.isi (by decide +kernel) (pa_cons (pv 0) (pa_cons (pe_bltn (v := .ty "tuple") (u := .type "tuple") (by rfl) htup (by decide +kernel) rfl) pa_nil))))))) (pss_one ps_never) pss_nil)
          (pss_one (ps_ret (pe_or (pe_cmpR op_isN (pv 0) pe_non (nomark _)) (pe_or (pe_callB call_isi (by rfl) B.isi (by decide +kernel) (pa_cons (pv 0) (pa_cons (pe_bltn (v := .ty "str") (u := .type "str") (by rfl) B.str (by decide +kernel) rfl) pa_nil)))
            (pe_one (pe_and (pe_callB call_isi (by rfl) B.isi (by decide +kernel) (pa_cons (pv 0) (pa_cons (pe_bltn (v := .ty "int") (u := .type "int") (by rfl) B.int (by decide +kernel) rfl) pa_nil))) (pe_one (pe_not (pe_callB call_isi (by rfl) B.isi (by decide +kernel) (pa_cons (pv 0) (pa_cons (pe_bltn (v := .ty "bool") (u := .type "bool") (by rfl) B.bool (by decide +kernel) rfl) pa_nil))))))))))), ?_⟩
        refine ⟨_, rfl, .int i, .ty "list", .type "int", .type "list", false, rfl, .ty "list", .base (.int i), kit_ty (by decide +kernel), false, rfl, iteF ?_⟩
        refine ⟨_, rfl, .int i, .ty "tuple", .type "int", .type "tuple", false, rfl, .ty "tuple", .base (.int i), kit_ty (by decide +kernel), false, rfl, iteF ?_⟩
        refine ⟨_, rfl, rfl, _, rfl, ?_⟩
        rw [decide_eq_false (show ¬ V.int i = V.non from fun z => nomatch z)]
        refine iteF ?_
        refine ⟨_, rfl, .int i, .ty "str", .type "int", .type "str", false, rfl, .ty "str", .base (.int i), kit_ty (by decide +kernel), _, rfl, iteF ?_⟩
        refine ⟨_, rfl, .int i, .ty "int", .type "int", .type "int", true, rfl, .ty "int", .base (.int i), kit_ty (by decide +kernel), _, rfl, iteT ?_⟩
        refine ⟨_, rfl, .int i, .ty "bool", .type "int", .type "bool", false, rfl, .ty "bool", .base (.int i), kit_ty (by decide +kernel), _, rfl, ?_⟩
        exact q H (Same.refl _)
      · refine ⟨_, pss_cons (ps_if (PW.pt (pw_or (pt_val (pe_callB call_isi (by rfl) B.isi (by decide +kernel) (pa_cons (pv 0) (pa_cons (pe_bltn (v := .ty "list") (u := .type "list") (by rfl) B.list (by decide +kernel) rfl) pa_nil)))) (pw_or1 (pt_val (pe_callB call_isi (by rfl) B.isi (by decide +kernel) (pa_cons (pv 0) (pa_cons (pe_bltn (v := .ty "tuple") (u := .type "tuple") (by rfl) htup (by decide +kernel) rfl) pa_nil)))))))
            (pss_one (ps_ret (pe_callB (cr_all rfl) (by rfl) hall (by decide +kernel) (pa_cons
              (pe_lc (own := [("_law_one", 1)]) (g := gName 1) (tt := tYes) rfl scPlain.nd (pi_list (pv 0)) (blkOk_by (N := ["_law_thing", "_law_one"]) (sc := defScope sPlain) (by decide +kernel)) (fun _ _ _ _ _ => pg_name (i := 1) scPlain.nd rfl (Or.inl rfl)) (fun _ _ _ _ _ => pts_nil)
                (fun _ _ _ _ _ => pe_call GP hr (by rfl) gP F.kp bP .nil pass0 (pa_cons (pv 1) pa_nil))) pa_nil)))) pss_nil)
          pss_no, ?_⟩
        refine ⟨_, rfl, .ref a, .ty "list", .type "list", .type "list", true, rfl, .ty "list", tyList (SqL.of ha : SqL K H a xs), kit_ty (by decide +kernel), true, rfl, iteT ?_⟩
        refine ⟨.ref a, rfl, a, rfl, ⟨_, SqL.of ha⟩, fun D nD => lc_list (K := K) (xs := xs) (fun i H2 => Same H H2 ∧ H2 D = some (.lst ((List.replicate i true).map V.bl))) ⟨same_upd nD, upd_same⟩ (fun i H2 _ ⟨s2, _⟩ => SqL.of (s2 _ _ ha)) ?_ ?_⟩
        · rintro i x H2 hx ⟨s2, e2⟩
          have hi := (List.getElem?_eq_some_iff.mp hx).1
          exact ⟨rfl, _, rfl, x, rfl, (hp x (List.mem_of_getElem? hx)).same s2, fun H3 s3 => step D H3 i nD (by omega) (s2.trans s3) (s3 _ _ e2)⟩
        · rintro H2 ⟨s2, e2⟩
          refine ⟨D, _, rfl, SqL.of e2, ?_⟩
          rw [er]
          exact q H2 s2
      · refine ⟨_, pss_cons (ps_if (PW.pt (pw_or (pt_val (pe_callB call_isi (by rfl) B.isi (by decide +kernel) (pa_cons (pv 0) (pa_cons (pe_bltn (v := .ty "list") (u := .type "list") (by rfl) B.list (by decide +kernel) rfl) pa_nil)))) (pw_or1 (pt_val (pe_callB call_isi (by rfl) B.isi (by decide +kernel) (pa_cons (pv 0) (pa_cons (pe_bltn (v := .ty "tuple") (u := .type "tuple") (by rfl) htup (by decide +kernel) rfl) pa_nil)))))))
            (pss_one (ps_ret (pe_callB (cr_all rfl) (by rfl) hall (by decide +kernel) (pa_cons
              (pe_lc (own := [("_law_one", 1)]) (g := gName 1) (tt := tYes) rfl scPlain.nd (pi_tup (pv 0)) (blkOk_by (N := ["_law_thing", "_law_one"]) (sc := defScope sPlain) (by decide +kernel)) (fun _ _ _ _ _ => pg_name (i := 1) scPlain.nd rfl (Or.inl rfl)) (fun _ _ _ _ _ => pts_nil)
                (fun _ _ _ _ _ => pe_call GP hr (by rfl) gP F.kp bP .nil pass0 (pa_cons (pv 1) pa_nil))) pa_nil)))) pss_nil)
          pss_no, ?_⟩
        refine ⟨_, rfl, .ref a, .ty "list", .type "tuple", .type "list", false, rfl, .ty "list", .base (.tup ha), kit_ty (by decide +kernel), false, rfl, iteF ?_⟩
        refine ⟨_, rfl, .ref a, .ty "tuple", .type "tuple", .type "tuple", true, rfl, .ty "tuple", .base (.tup ha), kit_ty (by decide +kernel), true, rfl, iteT ?_⟩
        refine ⟨.ref a, rfl, a, rfl, ⟨_, SqT.of ha⟩, fun D nD => lc_tup (K := K) (xs := xs) (fun i H2 => Same H H2 ∧ H2 D = some (.lst ((List.replicate i true).map V.bl))) ⟨same_upd nD, upd_same⟩ (fun i H2 _ ⟨s2, _⟩ => SqT.of (s2 _ _ ha)) ?_ ?_⟩
        · rintro i x H2 hx ⟨s2, e2⟩
          have hi := (List.getElem?_eq_some_iff.mp hx).1
          exact ⟨rfl, _, rfl, x, rfl, (hp x (List.mem_of_getElem? hx)).same s2, fun H3 s3 => step D H3 i nD (by omega) (s2.trans s3) (s3 _ _ e2)⟩
        · rintro H2 ⟨s2, e2⟩
          refine ⟨D, _, rfl, SqL.of e2, ?_⟩
          rw [er]
          exact q H2 s2
end
end AK
set_option Elab.async false
set_option linter.all false
set_option maxRecDepth 100000
set_option maxHeartbeats 4000000
namespace AK
open PySem PySem.Spec PyProof.Rows L2
section
variable {P : Program} {w : World} {K : PySem.W.Frag} {mg : Str → Option Value} {base : Heap}
theorem scTooFew : FnScope ["_law_web", "_law_known", "_law_unknown", "error"] ["_law_web", "_law_known", "_law_unknown"] (defScope sTooFew) := ⟨rfl, rfl, rfl, by decide +kernel, rfl, by decide +kernel, by decide +kernel⟩
/-- whether there are too few people -/
def spTooFew (K : PySem.W.Frag) : Sp := fun vs H Q _ => ∃ (a : Addr) (n i j : Nat) (e : Nat → Nat → Bool), vs = [.ref a, .int i, .int j] ∧ WebAt K H a n e ∧ 1 ≤ i ∧ i ≤ 200 ∧ 1 ≤ j ∧ j ≤ 200 ∧ ∀ H', Same H H' → Q (.bl (decide (n < sureN (i - 1) (j - 1)))) H'
theorem ok_tooFew {f fF CW CC CT CE CK CU : Addr} {fd dF : FuncData} (F : Fun K "_law_are_too_few" "_law_are_too_few" sTooFew f fd) (B : Bl mg) (T : ET K mg CW CC CT CE)
    (GF : FnOk P w K mg base (L2.CX P w) 4 fF dF ["web", "known", "unknown"] (spFoundF K CT)) (GE : FnOk P w K mg base CX0 4 fF dF ["web", "known", "unknown"] (spFound K CK CU)) (FF : Fun K "found" "found" sFound fF dF) (bF : Binds K dF ["web", "known", "unknown"] []) (gF : mg "found" = some (.ref fF)) :
    FnOk P w K mg base CX0 5 f fd ["_law_web", "_law_known", "_law_unknown"] (spTooFew K) := by
  refine F.ok scTooFew (fun vs H Q E h => ?_) (fun cdv A outer s H vs Q E hr h => ?_)
  · obtain ⟨a, n, i, j, e, rfl, _⟩ := h
    rfl
  · obtain ⟨a, n, i, j, e, rfl, hA, i1, i2, j1, j2, q⟩ := h
    by_cases hR : n < sureN (i - 1) (j - 1)
    · rw [decide_eq_true hR] at q
      refine ⟨_, pss_one (ps_try_as (i := 3) rfl rfl scTooFew.nd rfl rfl ⟨rfl, by decide, .inl T.gE⟩ takes0 (fun W pn xe tk _ =>
            pss_cons (ps_expr (pe_callS GF hr (by rfl) gF FF.kp bF (fun σ => passAt tk σ) (pa_cons (pv 0) (pa_cons (pv 1) (pa_cons (pv 2) pa_nil))))) (pss_one (ps_ret pe_bl)))
          (fun a oe cls d pn hz hf => suite_ex (Pz := fun Dc => cls = .ref Dc ∧ d = none ∧ ExcC K Dc) fun Dc hp =>
            have hz' : Zc (.ref Dc) none oe := by rw [← hp.1, ← hp.2.1]; exact hz
            pss_one (ps_ret (pe_isE K rfl hp.2.2 hz' hf (by rfl) B.isi (pa_cons (pv 3) (pa_cons (pe_glob (v := .ref CT) rfl T.tf.g rfl) pa_nil)))))), ?_⟩
      refine ⟨_, rfl, _, rfl, _, rfl, a, n, i, j, e, rfl, hA, i1, i2, j1, j2, hR, fun H1 s1 => ?_⟩
      refine ⟨true, T.mT, fun _ er ner => ⟨CT, ⟨rfl, rfl, T.xT⟩, ?_⟩, fun z => nomatch z⟩
      refine ⟨_, rfl, .ref CT, .ref CT, true, rfl, (fun _ h => h), T.tt, ?_⟩
      exact q _ s1
    · rw [decide_eq_false hR] at q
      refine ⟨_, pss_one (ps_try_as (i := 3) rfl rfl scTooFew.nd rfl rfl ⟨rfl, by decide, .inl T.gE⟩ takes0 (fun W pn xe tk _ =>
            pss_cons (ps_expr (pe_call GE hr (by rfl) gF FF.kp bF .nil pass0 (pa_cons (pv 0) (pa_cons (pv 1) (pa_cons (pv 2) pa_nil))))) (pss_one (ps_ret pe_bl)))
          (fun a oe cls d pn hz hf => suite_ex (Pz := fun Dc => cls = .ref Dc ∧ d = none ∧ ExcC K Dc) fun Dc hp =>
            have hz' : Zc (.ref Dc) none oe := by rw [← hp.1, ← hp.2.1]; exact hz
            pss_one (ps_ret (pe_isE K rfl hp.2.2 hz' hf (by rfl) B.isi (pa_cons (pv 3) (pa_cons (pe_glob (v := .ref CT) rfl T.tf.g rfl) pa_nil)))))), ?_⟩
      refine ⟨_, rfl, _, rfl, _, rfl, a, n, i, j, e, rfl, hA, i1, i2, j1, j2, by omega, fun H1 p l dx c ps _ _ s1 _ _ _ => ?_⟩
      exact q _ s1
end
end AK
set_option Elab.async false
set_option linter.all false
set_option maxRecDepth 100000
set_option maxHeartbeats 4000000
namespace AK
open PySem PySem.Spec PyProof.Rows L2
/-- the tables are such as they have to be -/
structure Tk (PA : Addr) (Ts : List Addr) (H : Hp) : Prop where
  tl : TL H PA
  tb : Tb Ts H
/-- all but the tables stands -/
structure Gr (PA : Addr) (Ts : List Addr) (H H' : Hp) : Prop where
  kp : ∀ b o, (∀ ps, o ≠ .tbl ps) → H b = some o → H' b = some o
  tk : Tk PA Ts H → Tk PA Ts H'
section
variable {PA : Addr} {Ts : List Addr} {H H1 H2 : Hp}
theorem Gr.refl : Gr PA Ts H H := ⟨fun _ _ _ e => e, fun h => h⟩
theorem Gr.trans (a : Gr PA Ts H H1) (b : Gr PA Ts H1 H2) : Gr PA Ts H H2 := ⟨fun x o h e => b.kp x o h (a.kp x o h e), fun h => b.tk (a.tk h)⟩
theorem Gr.same (s : Same H H1) : Gr PA Ts H H1 := ⟨fun b o _ e => s b o e, fun h => ⟨by
  obtain ⟨ps, e, _⟩ := id h.tl
  exact h.tl.keep ((s _ _ e).trans e.symm) fun b o _ _ e => s b o e, (SmT.of s).2 h.tb⟩⟩
theorem Gr.str (hn : PA ∉ Ts) (h : Tk PA Ts H) (b : ButP PA H H1) (t : TL H1 PA) : Gr PA Ts H H1 := ⟨fun x o ho e => b x o (fun z => by
  obtain ⟨ps, e1, _⟩ := h.tl
  rw [z, e1] at e
  exact ho ps (Option.some.inj e).symm) e, fun h => ⟨t, fun p hp => by
  obtain ⟨ps, e, q⟩ := h.tb p hp
  exact ⟨ps, b p _ (fun z => hn (by rw [← z]; exact hp)) e, q⟩⟩⟩
theorem Gr.fri (h : Tk PA Ts H) (b : But2 PA Ts H H1) : Gr PA Ts H H1 := ⟨fun x o ho e => b.kp x o (fun z => by
  obtain ⟨ps, e1, _⟩ := h.tl
  rw [z, e1] at e
  exact ho ps (Option.some.inj e).symm) (h.tb.no e ho) e, fun _ => ⟨b.tl, b.tb⟩⟩
theorem Gr.sq {K : PySem.W.Frag} {l : Addr} {xs : List V} (g : Gr PA Ts H H1) (h : SqL K H l xs) : SqL K H1 l xs := by
  rcases h with (e | ⟨o, e⟩) | e
  · exact .inl (.inl (g.kp _ _ (fun _ z => nomatch z) e))
  · exact .inl (.inr ⟨o, g.kp _ _ (fun _ z => nomatch z) e⟩)
  · exact .inr e
theorem Gr.lst {l : Addr} {xs : List V} (g : Gr PA Ts H H1) (h : H l = some (.lst xs)) : H1 l = some (.lst xs) := g.kp _ _ (fun _ z => nomatch z) h
theorem Gr.tup {l : Addr} {xs : List V} (g : Gr PA Ts H H1) (h : H l = some (.tup xs)) : H1 l = some (.tup xs) := g.kp _ _ (fun _ z => nomatch z) h
theorem Gr.ins {l C dx : Addr} {fs : List (Str × V)} (g : Gr PA Ts H H1) (h : H l = some (.ins C dx fs)) : H1 l = some (.ins C dx fs) := g.kp _ _ (fun _ z => nomatch z) h
/-- nothing but a table stands at l -/
def NoO (H : Hp) (l : Addr) : Prop := ∀ o, (∀ ps, o ≠ .tbl ps) → H l ≠ some o
theorem NoO.of {l : Addr} (g : Gr PA Ts H H1) (h : H1 l = none) : NoO H l := fun o ho e => by
  have := g.kp l o ho e
  rw [h] at this
  cases this
/-- a list that was made on the way is written -/
theorem Gr.put {l : Addr} {xs ys : List V} (a : Gr PA Ts H H1) (hl : NoO H l) (e : H1 l = some (.lst xs)) : Gr PA Ts H (L2.upd H1 l (.lst ys)) := ⟨fun x o ho ex => by
  rw [upd_ne (fun z => hl o ho (by rw [← z]; exact ex))]
  exact a.kp x o ho ex, fun h => by
  have h2 := a.tk h
  exact ⟨h2.tl.put e (fun _ z => nomatch z) (fun z => by unfold LamX.CodeO at z; cases z), h2.tb.put e fun _ z => nomatch z⟩⟩
end
theorem Gr.smt {PA : Addr} {Ts : List Addr} {H H1 : Hp} (hn : PA ∉ Ts) (h : Tk PA Ts H) (s : SmT Ts H H1) : Gr PA Ts H H1 := ⟨fun x o ho e => s.1 x o (h.tb.no e ho) e, fun h => ⟨h.tl.smt h.tb hn s, s.2 h.tb⟩⟩
end AK
set_option Elab.async false
set_option linter.all false
set_option maxRecDepth 100000
set_option maxHeartbeats 4000000
/-! o.m(e, ..), o of one of two classes -/
namespace AK
open PySem PySem.Spec PyProof.Rows L2
section
variable {X : Cx} {C D f g : Addr} {m : Str} {k : Nat} {fd gd : FuncData} {ps : List Str} {sp sq : Sp} {o e : Expr} {es : List Expr} {ta : TE} {t : TA} {apos pos : Pos}
def tMethE (C D : Addr) (m : Str) (sp sq : Sp) (ta : TE) (t : TA) : TE := fun σ H Q => ta σ H fun x H1 => ∃ (a dx : Addr) (fs : List (Str × V)), x = .ref a ∧ fs.lookup m = none ∧
  ((H1 a = some (.ins C dx fs) ∧ t σ H1 fun vs H2 => sp (.ref a :: (vs ++ [])) H2 Q fun _ _ _ => False) ∨ (H1 a = some (.ins D dx fs) ∧ t σ H1 fun vs H2 => sq (.ref a :: (vs ++ [])) H2 Q fun _ _ _ => False))
theorem pe_methE {pl : Sem Bool} (he : PE X o ta) (c : Cls X.K C) (d : Cls X.K D) (hm : Meth X.K C m f) (gm : Meth X.K D m g) (F : FnOk X.prog X.w X.K X.mg X.base CX0 k f fd ps sp) (G : FnOk X.prog X.w X.K X.mg X.base CX0 k g gd ps sq) (hr : Room k X.A) (hb : L2.Binds X.K fd ps []) (gb : L2.Binds X.K gd ps []) (ha : PA X (e :: es) t)
    (hst : starEach (e :: es) X.env = (false, eval e X.env) :: starEach es X.env := by rfl) (hpl : (backTo pos (starEach es X.env)).any (·.1) = false := by rfl)
    (ht : eval (.Call (.Attribute o m apos) (e :: es) [] pos) X.env = (do
      let ov ← eval o X.env
      standAt apos.atName
      let (f, first) ← holding [ov] (getMethod ov m pl)
      callWith pos f first (backTo pos (starEach (e :: es) X.env)) (backToKw pos (keywordEach [] X.env))) := by rfl) :
    PE X (.Call (.Attribute o m apos) (e :: es) [] pos) (tMethE C D m sp sq ta t) := ⟨fun pins s σ H Q I h => by
  refine PySem.W.methodCall_KW (pl := pl) (thn (he.run pins s σ H _ I h) fun u s1 ⟨x, H1, I1, rx, a, dx, fs, ex, l, q⟩ => ?_) ht
  subst ex
  obtain rfl : u = Value.ref a := rx
  rcases q with ⟨ea, q⟩ | ⟨ea, q⟩
  · refine getmeth_ok I1 ea c hm l (PySem.W.callWith_K (first := [.ref a]) (h₀ := X.base) I.ok.mod.kin hm.kp (thn (ha.run pos pins s1 σ H1 _ I1 q) fun us s2 ⟨vs, H2, I2, r, q2⟩ => ⟨I2.kIn, ?_⟩) hst hpl)
    exact run_fn (us := .ref a :: us) (vs := .ref a :: vs) F hr hb .nil pass0 I2 (.cons rfl r) q2
  · refine getmeth_ok I1 ea d gm l (PySem.W.callWith_K (first := [.ref a]) (h₀ := X.base) I.ok.mod.kin gm.kp (thn (ha.run pos pins s1 σ H1 _ I1 q) fun us s2 ⟨vs, H2, I2, r, q2⟩ => ⟨I2.kIn, ?_⟩) hst hpl)
    exact run_fn (us := .ref a :: us) (vs := .ref a :: vs) G hr gb .nil pass0 I2 (.cons rfl r) q2⟩
end
end AK
set_option Elab.async false
set_option linter.all false
set_option maxRecDepth 100000
set_option maxHeartbeats 8000000
namespace AK
open PySem PySem.Spec PyProof.Rows L2
structure Cal (K : PySem.W.Frag) (mg : Str → Option Value) (x : Str) (f : Addr) (fd : FuncData) (ps : List Str) : Prop where
  g : mg x = some (.ref f)
  kp : PySem.W.keepIn K (.ref f) = true
  b : Binds K fd ps []
/-- ints, and lists and tuples of ints that are neither R nor S -/
def FlatOk (H : Hp) (R S : Addr) (xs : List V) : Prop := ∀ x ∈ xs, (∃ i : Int, x = .int i) ∨ ∃ (t : Addr) (zs : List Int), x = .ref t ∧ t ≠ R ∧ t ≠ S ∧ (H t = some (.lst (zs.map V.int)) ∨ H t = some (.tup (zs.map V.int))) ∧ zs.length ≤ 1000
theorem FlatOk.gr {PA : Addr} {Ts : List Addr} {H H' : Hp} {R S : Addr} {xs : List V} (g : Gr PA Ts H H') (h : FlatOk H R S xs) : FlatOk H' R S xs := fun x hx => by
  rcases h x hx with h | ⟨t, zs, h1, h2, h3, h4, h5⟩
  · exact .inl h
  · exact .inr ⟨t, zs, h1, h2, h3, h4.imp g.lst g.tup, h5⟩
theorem FlatOk.put {H : Hp} {R S : Addr} {xs : List V} {o : HO} (h : FlatOk H R S xs) (b : Addr) (hb : b = R ∨ b = S) : FlatOk (L2.upd H b o) R S xs := fun x hx => by
  rcases h x hx with h | ⟨t, zs, h1, h2, h3, h4, h5⟩
  · exact .inl h
  · refine .inr ⟨t, zs, h1, h2, h3, ?_, h5⟩
    rw [upd_ne (by rcases hb with rfl | rfl <;> assumption)]
    exact h4
theorem FlatOk.plain {K : PySem.W.Frag} {H : Hp} {R S : Addr} {xs : List V} (h : FlatOk H R S xs) : ∀ x ∈ xs, PlainD K 1 H x := fun x hx => by
  have hI : ∀ zs : List Int, ∀ y ∈ zs.map V.int, PlainD K 0 H y := fun zs y hy => by
    obtain ⟨z, _, rfl⟩ := List.mem_map.mp hy
    exact ⟨z, rfl⟩
  rcases h x hx with h | ⟨t, zs, h1, _, _, h4 | h4, h5⟩
  · exact .inl h
  · exact .inr (.inl ⟨t, _, h1, h4, by rw [List.length_map]; exact h5, hI zs⟩)
  · exact .inr (.inr ⟨t, _, h1, h4, by rw [List.length_map]; exact h5, hI zs⟩)
section
variable {P : Program} {w : World} {K : PySem.W.Frag} {mg : Str → Option Value} {base : Heap}
abbrev nWr : List Str := ["_law_web", "_law_rows", "_law_shown", "_law_answer"]
theorem scWr : FnScope nWr ["_law_web"] (defScope sWebRight) := ⟨rfl, rfl, rfl, by decide +kernel, rfl, by decide +kernel, by decide +kernel⟩
def spWr (K : PySem.W.Frag) (PA : Addr) (Ts : List Addr) : Sp := fun vs H Q _ => ∃ (a : Addr) (n : Nat) (e : Nat → Nat → Bool), vs = [.ref a] ∧ WebAt K H a n e ∧ Tk PA Ts H ∧ ∀ H', Gr PA Ts H H' → Q (.bl true) H'
/-- rows and shown -/
structure Dat (PA : Addr) (Ts : List Addr) (H H' : Hp) (R S : Addr) (rows : List V) (bs : List Bool) : Prop where
  g : Gr PA Ts H H'
  noR : NoO H R
  noS : NoO H S
  ne : R ≠ S
  eR : H' R = some (.lst rows)
  eS : H' S = some (.lst (bs.map V.bl))
  fl : FlatOk H' R S rows
theorem Dat.gr {PA : Addr} {Ts : List Addr} {H H1 H2 : Hp} {R S : Addr} {rows : List V} {bs : List Bool} (d : Dat PA Ts H H1 R S rows bs) (g : Gr PA Ts H1 H2) : Dat PA Ts H H2 R S rows bs := ⟨d.g.trans g, d.noR, d.noS, d.ne, g.lst d.eR, g.lst d.eS, d.fl.gr g⟩
theorem Dat.row {PA : Addr} {Ts : List Addr} {H H1 : Hp} {R S l : Addr} {rows : List V} {bs : List Bool} {zs : List Int} (d : Dat PA Ts H H1 R S rows bs) (h : H1 l = some (.lst (zs.map V.int))) (h1 : l ≠ R) (h2 : l ≠ S) (h3 : zs.length ≤ 1000) : Dat PA Ts H (L2.upd H1 R (.lst (rows ++ [.ref l]))) R S (rows ++ [.ref l]) bs :=
  ⟨d.g.put d.noR d.eR, d.noR, d.noS, d.ne, upd_same, by rw [upd_ne d.ne.symm]; exact d.eS, fun x hx => by
    rcases List.mem_append.mp hx with h' | h'
    · exact d.fl.put R (.inl rfl) x h'
    · rw [List.mem_singleton.mp h']
      exact .inr ⟨l, zs, rfl, h1, h2, .inl (by rw [upd_ne h1]; exact h), h3⟩⟩
theorem Dat.shown {PA : Addr} {Ts : List Addr} {H H1 : Hp} {R S : Addr} {rows : List V} {bs : List Bool} (r : Bool) (d : Dat PA Ts H H1 R S rows bs) : Dat PA Ts H (L2.upd H1 S (.lst (bs.map V.bl ++ [.bl r]))) R S rows (bs ++ [r]) :=
  ⟨d.g.put d.noS d.eS, d.noR, d.noS, d.ne, by rw [upd_ne d.ne]; exact d.eR, by rw [upd_same, List.map_append] <;> rfl, fun x hx => d.fl.put S (.inr rfl) x hx⟩
theorem Dat.newS {PA : Addr} {Ts : List Addr} {H H1 : Hp} {R S S' : Addr} {rows : List V} {bs bs' : List Bool} (d : Dat PA Ts H H1 R S rows bs) (n : H1 S' = none) : Dat PA Ts H (L2.upd H1 S' (.lst (bs'.map V.bl))) R S' rows bs' :=
  have s := same_upd (o := .lst (bs'.map V.bl)) n
  ⟨d.g.trans (Gr.same s), d.noR, NoO.of d.g n, ne_of_none d.eR n, s _ _ d.eR, upd_same, fun x hx => by
    rcases d.fl x hx with h | ⟨t, zs, h1, h2, h3, h4, h5⟩
    · exact .inl h
    · exact .inr ⟨t, zs, h1, h2, h4.elim (fun h => ne_of_none h n) (fun h => ne_of_none h n), h4.imp (s _ _) (s _ _), h5⟩⟩
def RWr (PA : Addr) (Ts : List Addr) (H : Hp) (a : Addr) (k j : Nat) (σ : L2.St) (H' : Hp) : Prop := ∃ (y3 : Option V) (R S : Addr) (rows : List V) (bs : List Bool), σ = [some (.ref a), some (.ref R), some (.ref S), y3] ∧ Dat PA Ts H H' R S rows bs ∧ 5 ≤ rows.length ∧ rows.length ≤ k ∧ bs.length ≤ j
/-- three has answered -/
def RW3 (PA : Addr) (Ts : List Addr) (CK CU : Addr) (H : Hp) (a : Addr) (σ : L2.St) (H' : Hp) : Prop := ∃ (x : V) (R S : Addr) (rows : List V) (bs : List Bool), σ = [some (.ref a), some (.ref R), some (.ref S), some x] ∧ Dat PA Ts H H' R S rows bs ∧ rows.length = 5 ∧ bs.length = 0 ∧
  (x = .non ∨ ∃ (p l C dx : Addr) (ps : List Int), x = .ref p ∧ (C = CK ∨ C = CU) ∧ H' p = some (.ins C dx [("people", .ref l)]) ∧ H' l = some (.lst (ps.map V.int)) ∧ ps.length = 3)
theorem ok_wr {f fT fA fM fS fF f3 fo fP fB fK fU fI fJ CK CU PA : Addr} {Ts : List Addr} {fd dT dA dM dS dF d3 dfo dP dB dK dU dI dJ : FuncData} (F : Fun K "_law_web_right" "_law_web_right" sWebRight f fd) (B : Bl mg) (hn : PA ∉ Ts) (htup : mg "tuple" = none)
    (TK : AC K CK) (TU : AC K CU) (gK : mg "Known" = some (.ref CK)) (gU : mg "Unknown" = some (.ref CU))
    (MK : Mk K CK fI) (FI : Fun K "__init__" "Known.__init__" sInitK fI dI) (bI : Binds K dI ["self", "people"] []) (MU : Mk K CU fJ) (FJ : Fun K "__init__" "Unknown.__init__" sInitU fJ dJ) (bJ : Binds K dJ ["self", "people"] [])
    (GT : FnOk P w K mg base CX0 3 fT dT ["web"] (spTies K)) (cT : Cal K mg "ties" fT dT ["web"])
    (GA : FnOk P w K mg base CX0 4 fA dA ["web"] (spAlike K Ts)) (cA : Cal K mg "alike" fA dA ["web"])
    (GM : FnOk P w K mg base CX0 4 fM dM ["web"] (spProm K)) (cM : Cal K mg "promised" fM dM ["web"])
    (GS : FnOk P w K mg base CX0 5 fS dS ["web"] (spStr K PA CU)) (cS : Cal K mg "strangers" fS dS ["web"])
    (GF : FnOk P w K mg base CX0 5 fF dF ["web"] (spFri K PA Ts CK)) (cF : Cal K mg "friends" fF dF ["web"])
    (G3 : FnOk P w K mg base CX0 3 f3 d3 ["web"] (spThree K CK CU)) (c3 : Cal K mg "three" f3 d3 ["web"])
    (Go : FnOk P w K mg base CX0 4 fo dfo ["web", "known", "unknown"] (spFound K CK CU)) (co : Cal K mg "found" fo dfo ["web", "known", "unknown"])
    (GP : FnOk P w K mg base CX0 3 fP dP ["_law_thing"] (spPlain K 2)) (cP : Cal K mg "_law_plain" fP dP ["_law_thing"])
    (GB : FnOk P w K mg base CX0 1 fB dB ["_law_things"] (spTruths K)) (cB : Cal K mg "_law_truths" fB dB ["_law_things"])
    (GK : FnOk P w K mg base CX0 3 fK dK ["self", "web"] (spShows K CK true)) (mK : Meth K CK "shows" fK) (bK : Binds K dK ["self", "web"] [])
    (GU : FnOk P w K mg base CX0 3 fU dU ["self", "web"] (spShows K CU false)) (mU : Meth K CU "shows" fU) (bU : Binds K dU ["self", "web"] []) :
    FnOk P w K mg base CX0 6 f fd ["_law_web"] (spWr K PA Ts) := by
  have GI : FnOk P w K mg base CX0 1 fI dI ["self", "people"] (spInit K CK) := ok_initK FI TK B
  have GJ : FnOk P w K mg base CX0 1 fJ dJ ["self", "people"] (spInit K CU) := ok_initU FJ TU B
  refine F.ok scWr (fun vs H Q E h => ?_) (fun cdv A outer s H vs Q E hr h => ?_)
  · obtain ⟨a, n, e, rfl, _⟩ := h
    rfl
  · obtain ⟨a, n, e, rfl, hA, hTk, q⟩ := h
    have r1 := hr.mono (j := 1) (by decide)
    have r2 := hr.mono (j := 2) (by decide)
    have r3 := hr.mono (j := 3) (by decide)
    have r4 := hr.mono (j := 4) (by decide)
    refine ⟨_, pss_cut (RWr PA Ts H a 5 0) (ps_par (i := 1) (j := 2) rfl scWr.nd rfl rfl (by decide) rfl rfl (pa_cons (pe_lst (pa_cons (pe_call GT r3 (by rfl) cT.g cT.kp cT.b .nil pass0 (pa_cons (pv 0) pa_nil)) (pa_cons (pe_call GA r4 (by rfl) cA.g cA.kp cA.b .nil pass0 (pa_cons (pv 0) pa_nil)) (pa_cons (pe_call GM r4 (by rfl) cM.g cM.kp cM.b .nil pass0 (pa_cons (pv 0) pa_nil)) (pa_cons (pe_fld (pe_call GS hr (by rfl) cS.g cS.kp cS.b .nil pass0 (pa_cons (pv 0) pa_nil)) rfl) (pa_cons (pe_fld (pe_call GF hr (by rfl) cF.g cF.kp cF.b .nil pass0 (pa_cons (pv 0) pa_nil)) rfl) pa_nil)))))) (pa_cons (pe_lst pa_nil) pa_nil)) rfl)
      (pss_cut (RW3 PA Ts CK CU H a) (ps_set (i := 3) scWr.nd rfl (.inl rfl) (pe_call G3 r3 (by rfl) c3.g c3.kp c3.b .nil pass0 (pa_cons (pv 0) pa_nil)))
      (pss_cut (RWr PA Ts H a 6 1) (ps_if (pt_cmpR op_notN (pv 3) pe_non (nomark _))
          (pss_cons (ps_expr (pe_bm PySem.F.plainAttrs_list PySem.F.slot_list_append PySem.F.type_list_append mt_append (pv 1) (pa_cons (pe_fld (pv 3) rfl) pa_nil)))
          (pss_one (ps_expr (pe_bm PySem.F.plainAttrs_list PySem.F.slot_list_append PySem.F.type_list_append mt_append (pv 2) (pa_cons (pe_methE (pv 3) TK.cl TU.cl mK mU GK GU r3 bK bU (pa_cons (pv 0) pa_nil)) pa_nil))))) pss_nil)
      (pss_cut (RWr PA Ts H a 7 2) (ps_if (pt_cmpR op_gt (pe_callB call_len_seq (by rfl) B.len PySem.boot_len (pa_cons (pv 0) pa_nil)) pe_int (nomark _))
          (pss_cut (RWr PA Ts H a 7 1) (ps_expr (pe_bm PySem.F.plainAttrs_list PySem.F.slot_list_append PySem.F.type_list_append mt_append (pv 1) (pa_cons (pe_fld (pe_call Go r4 (by rfl) co.g co.kp co.b .nil pass0 (pa_cons (pv 0) (pa_cons pe_int (pa_cons pe_int pa_nil)))) rfl) pa_nil)))
          (pss_one (ps_expr (pe_bm PySem.F.plainAttrs_list PySem.F.slot_list_append PySem.F.type_list_append mt_append (pv 2) (pa_cons (pe_methE (pe_call Go r4 (by rfl) co.g co.kp co.b .nil pass0 (pa_cons (pv 0) (pa_cons pe_int (pa_cons pe_int pa_nil)))) TK.cl TU.cl mK mU GK GU r3 bK bU (pa_cons (pv 0) pa_nil)) pa_nil))))) pss_nil)
      (pss_cut (RWr PA Ts H a 7 5) (ps_set (i := 2) scWr.nd rfl (.inl rfl) (pe_op op_cat (pv 2) (pe_lst (pa_cons (pe_methE (pe_call GS hr (by rfl) cS.g cS.kp cS.b .nil pass0 (pa_cons (pv 0) pa_nil)) TK.cl TU.cl mK mU GK GU r3 bK bU (pa_cons (pv 0) pa_nil)) (pa_cons (pe_methE (pe_call GF hr (by rfl) cF.g cF.kp cF.b .nil pass0 (pa_cons (pv 0) pa_nil)) TK.cl TU.cl mK mU GK GU r3 bK bU (pa_cons (pv 0) pa_nil)) (pa_cons (pe_methE (pe_make MK GI r2 (by rfl) gK bI .nil pass0 (pa_cons (pe_lst pa_nil) pa_nil)) TK.cl TU.cl mK mU GK GU r3 bK bU (pa_cons (pv 0) pa_nil)) pa_nil))))))
      (pss_cut (RWr PA Ts H a 7 6) (ps_set (i := 2) scWr.nd rfl (.inl rfl) (pe_op op_cat (pv 2) (pe_lst (pa_cons (pe_methE (pe_make MU GJ r2 (by rfl) gU bJ .nil pass0 (pa_cons (pe_lst (pa_cons pe_int (pa_cons pe_int pa_nil))) pa_nil)) TK.cl TU.cl mK mU GK GU r3 bK bU (pa_cons (pv 0) pa_nil)) pa_nil))))
      (pss_one (ps_ret (pe_and (pe_call GP r3 (by rfl) cP.g cP.kp cP.b .nil pass0 (pa_cons (pv 1) pa_nil)) (pe_and (pe_call GB r1 (by rfl) cB.g cB.kp cB.b .nil pass0 (pa_cons (pv 2) pa_nil)) (pe_one (pe_callB call_isi (by rfl) B.isi (by decide +kernel) (pa_cons (pe_call GM r4 (by rfl) cM.g cM.kp cM.b .nil pass0 (pa_cons (pv 0) pa_nil)) (pa_cons (pe_bltn (v := .ty "tuple") (u := .type "tuple") (by rfl) htup (by decide +kernel) rfl) pa_nil))))))))))))), ?_⟩
    obtain ⟨hS, n2, W⟩ := id hA
    have wl : ((web n e).map V.str).length = n := by rw [List.length_map, web_len]
    have wA : ∀ {H' : Hp}, Gr PA Ts H H' → WebAt K H' a n e := fun g => ⟨g.sq hS, n2, W⟩
    refine ⟨?_, ?_⟩
    · refine ⟨_, rfl, a, n, e, rfl, hA, fun H1 L s1 nL eL => ?_⟩
      have g1 := Gr.same (PA := PA) (Ts := Ts) s1
      refine ⟨_, rfl, a, n, e, rfl, wA g1, (g1.tk hTk).tb, fun H2 s2 => ?_⟩
      have g2 := Gr.smt hn (g1.tk hTk) s2
      have g12 := g1.trans g2
      refine ⟨_, rfl, a, n, e, rfl, wA g12, fun H3 t s3 nt et => ?_⟩
      have g23 := g2.trans (Gr.same (PA := PA) (Ts := Ts) s3)
      have g13 := g1.trans g23
      refine ⟨_, rfl, a, n, e, rfl, wA g13, (g13.tk hTk).tl, fun H4 p1 l1 d1 ns1 b1 t1 np1 nl1 c1 ep1 el1 => ⟨p1, CU, d1, _, .ref l1, rfl, ep1, TU.cl, TU.no, rfl, ?_⟩⟩
      have g4 := Gr.str hn (g13.tk hTk) b1 t1
      have g14 := g13.trans g4
      refine ⟨_, rfl, a, n, e, rfl, wA g14, (g14.tk hTk).tl, (g14.tk hTk).tb, fun H5 p2 l2 d2 ns2 b2 np2 nl2 c2 ep2 el2 => ⟨p2, CK, d2, _, .ref l2, rfl, ep2, TK.cl, TK.no, rfl, ?_⟩⟩
      have g5 := Gr.fri (g14.tk hTk) b2
      have g15 := g14.trans g5
      refine ⟨(by decide : (5 : Nat) ≤ sizeLine), fun R nR => ?_⟩
      have s6 := same_upd (o := .lst [.ref L, .int (alikeN n e), .ref t, .ref l1, .ref l2]) nR
      have eR : L2.upd H5 R (.lst [.ref L, .int (alikeN n e), .ref t, .ref l1, .ref l2]) R = some (.lst [.ref L, .int (alikeN n e), .ref t, .ref l1, .ref l2]) := upd_same
      have kL := (g23.trans (g4.trans g5)).lst eL
      have kt := (g4.trans g5).tup et
      have k1 := g5.lst el1
      have noR : NoO H R := NoO.of g15 nR
      have gs6 := Gr.same (PA := PA) (Ts := Ts) s6
      generalize L2.upd H5 R (.lst [.ref L, .int (alikeN n e), .ref t, .ref l1, .ref l2]) = H6 at s6 eR gs6 ⊢
      refine ⟨by decide, fun S nS => ?_⟩
      have s7 := same_upd (o := .lst []) nS
      have eS : L2.upd H6 S (.lst []) S = some (.lst []) := upd_same
      have noS : NoO H S := NoO.of (g15.trans gs6) nS
      have gs7 := Gr.same (PA := PA) (Ts := Ts) s7
      have hRS : R ≠ S := ne_of_none eR nS
      have s67 := s6.trans s7
      have eR7 := s7 _ _ eR
      generalize L2.upd H6 S (.lst []) = H7 at s7 eS gs7 s67 eR7 ⊢
      have fl : ∀ b o, H5 b = some o → b ≠ R ∧ b ≠ S := fun b o eb => ⟨ne_of_none eb nR, ne_of_none (s6 _ _ eb) nS⟩
      have ls1 : ns1.length ≤ 1000 := by have := (c1.good W).few; omega
      have ls2 : ns2.length ≤ 1000 := by have := (c2.good (turn_web W)).few; omega
      refine ⟨_, _, rfl, none, R, S, _, [], rfl, ⟨g15.trans (gs6.trans gs7), noR, noS, hRS, eR7, eS, fun x hx => ?_⟩, Nat.le_refl _, Nat.le_refl _, Nat.le_refl _⟩
      simp only [List.mem_cons, List.not_mem_nil, or_false] at hx
      rcases hx with rfl | rfl | rfl | rfl | rfl
      · exact .inr ⟨L, degs n e, rfl, (fl _ _ kL).1, (fl _ _ kL).2, .inl (s67 _ _ kL), by rw [degs_len]; omega⟩
      · exact .inl ⟨_, rfl⟩
      · exact .inr ⟨t, [((red (frac (degN n e))).1 : Int), ((red (frac (degN n e))).2 : Int)], rfl, (fl _ _ kt).1, (fl _ _ kt).2, .inr (s67 _ _ kt), by show 2 ≤ 1000; decide⟩
      · exact .inr ⟨l1, ns1, rfl, (fl _ _ k1).1, (fl _ _ k1).2, .inl (s67 _ _ k1), ls1⟩
      · exact .inr ⟨l2, ns2, rfl, (fl _ _ el2).1, (fl _ _ el2).2, .inl (s67 _ _ el2), ls2⟩
    rintro σ H1 ⟨y3, R, S, rows, bs, rfl, d, h5, hk, hj⟩
    refine ⟨?_, ?_⟩
    · refine ⟨_, rfl, a, n, e, rfl, wA d.g, fun H2 s2 _ => ?_, fun H2 p l dx i j k _ _ _ _ s2 ep el => ?_⟩
      · exact ⟨_, R, S, rows, bs, rfl, d.gr (Gr.same s2), by omega, by omega, .inl rfl⟩
      · refine ⟨_, R, S, rows, bs, rfl, d.gr (Gr.same s2), by omega, by omega, .inr ⟨p, l, _, dx, [(i : Int), j, k], rfl, ?_, ep, el, rfl⟩⟩
        split
        · exact .inl rfl
        · exact .inr rfl
    clear d h5 hk hj y3 R S rows bs H1
    rintro σ H1 ⟨x, R, S, rows, bs, rfl, d, h5, hj, hx⟩
    refine ⟨?_, ?_⟩
    · rcases hx with rfl | ⟨p, l, C, dx, ps, rfl, hC, ep, el, hl⟩
      · refine ⟨_, rfl, rfl, _, rfl, ?_⟩
        rw [decide_eq_true rfl]
        exact iteF ⟨_, R, S, rows, bs, rfl, d, by omega, by omega, by omega⟩
      · refine ⟨_, rfl, rfl, _, rfl, ?_⟩
        rw [decide_eq_false (show ¬ V.ref p = V.non from fun z => nomatch z)]
        have TC : AC K C := by rcases hC with rfl | rfl <;> assumption
        have nlR : l ≠ R := fun z => by
          rw [z, d.eR] at el
          have := congrArg (fun o => match o with | some (HO.lst xs) => xs.length | _ => 0) el
          simp at this
          omega
        have nlS : l ≠ S := fun z => by
          rw [z, d.eS] at el
          have := congrArg (fun o => match o with | some (HO.lst xs) => xs.length | _ => 0) el
          simp at this
          omega
        have d2 := d.row el nlR nlS (by omega)
        have npR : p ≠ R := fun z => by rw [z, d.eR] at ep; cases ep
        have ep2 : L2.upd H1 R (.lst (rows ++ [.ref l])) p = some (.ins C dx [("people", .ref l)]) := by rw [upd_ne npR]; exact ep
        have el2 : L2.upd H1 R (.lst (rows ++ [.ref l])) l = some (.lst (ps.map V.int)) := by rw [upd_ne nlR]; exact el
        refine iteT ⟨_, rfl, .inl ⟨rfl, _, SqL.of d.eR⟩, _, rfl, p, C, dx, _, .ref l, rfl, ep, TC.cl, TC.no, rfl, R, _, _, rfl, rfl, d.eR, small1000 (by omega), ?_⟩
        generalize L2.upd H1 R (.lst (rows ++ [.ref l])) = H2 at d2 ep2 el2 ⊢
        have fin : ∀ (r : Bool) (H3 : Hp), Same H2 H3 → RWr PA Ts H a 6 1 [some (.ref a), some (.ref R), some (.ref S), some (.ref p)] (L2.upd H3 S (.lst (bs.map V.bl ++ [.bl r]))) := fun r H3 s3 =>
          ⟨_, R, S, _, _, rfl, (d2.gr (Gr.same s3)).shown r, by rw [List.length_append]; omega, by rw [List.length_append]; show _ + 1 ≤ 6; omega, by rw [List.length_append]; show _ + 1 ≤ 1; omega⟩
        have lbs : (bs.map V.bl).length < sizeLine := by rw [List.length_map]; exact small1000 (by omega)
        refine ⟨_, rfl, .inl ⟨rfl, _, SqL.of d2.eS⟩, _, rfl, p, dx, [("people", .ref l)], rfl, rfl, ?_⟩
        rcases hC with rfl | rfl
        · exact .inl ⟨ep2, .ref a, rfl, p, a, l, dx, ps, n, e, rfl, ep2, SqL.of el2, (wA d2.g).1, n2, fun r H3 _ s3 => ⟨S, _, _, rfl, rfl, s3 _ _ d2.eS, lbs, fin r H3 s3⟩⟩
        · exact .inr ⟨ep2, .ref a, rfl, p, a, l, dx, ps, n, e, rfl, ep2, SqL.of el2, (wA d2.g).1, n2, fun r H3 _ s3 => ⟨S, _, _, rfl, rfl, s3 _ _ d2.eS, lbs, fin r H3 s3⟩⟩
    clear hx d h5 hj x R S rows bs H1
    rintro σ H1 ⟨y3, R, S, rows, bs, rfl, d, h5, hk, hj⟩
    have natM : ∀ ps : List Nat, ps.map natV = (ps.map natI).map V.int := fun ps => by rw [List.map_map] <;> rfl
    refine ⟨?_, ?_⟩
    · refine ⟨_, rfl, a, _, rfl, .inl (wA d.g).1, _, 5, rfl, rfl, _, rfl, ?_⟩
      rw [wl]
      by_cases hn5 : (5 : Int) < (n : Nat)
      · rw [decide_eq_true hn5]
        have hs : sureN (3 - 1) (3 - 1) ≤ n := by
          have : sureN (3 - 1) (3 - 1) = 6 := by decide
          omega
        refine iteT ⟨?_, ?_⟩
        · refine ⟨_, rfl, .inl ⟨rfl, _, SqL.of d.eR⟩, _, rfl, a, n, 3, 3, e, rfl, wA d.g, by decide, by decide, by decide, by decide, hs, fun H2 p l dx c ps hT hl s2 nl ep el => ?_⟩
          have d2 := d.gr (Gr.same s2)
          rw [natM] at el
          have nlR := (ne_of_none d.eR nl).symm
          have nlS := (ne_of_none d.eS nl).symm
          have lps : (ps.map natI).length ≤ 1000 := by rw [List.length_map, hl]; split <;> decide
          have d3 := d2.row el nlR nlS lps
          have fin : RWr PA Ts H a 7 1 [some (.ref a), some (.ref R), some (.ref S), y3] (L2.upd H2 R (.lst (rows ++ [.ref l]))) := ⟨_, R, S, _, _, rfl, d3, by rw [List.length_append]; omega, by rw [List.length_append]; show _ + 1 ≤ 7; omega, hj⟩
          cases c with
          | true => exact ⟨p, CK, dx, _, .ref l, rfl, ep, TK.cl, TK.no, rfl, R, _, _, rfl, rfl, d2.eR, small1000 (by omega), fin⟩
          | false => exact ⟨p, CU, dx, _, .ref l, rfl, ep, TU.cl, TU.no, rfl, R, _, _, rfl, rfl, d2.eR, small1000 (by omega), fin⟩
        · clear hj hk h5 d bs rows S R y3 H1
          rintro σ H1 ⟨y3, R, S, rows, bs, rfl, d, h5, hk, hj⟩
          have lbs : (bs.map V.bl).length < sizeLine := by rw [List.length_map]; exact small1000 (by omega)
          refine ⟨_, rfl, .inl ⟨rfl, _, SqL.of d.eS⟩, _, rfl, a, n, 3, 3, e, rfl, wA d.g, by decide, by decide, by decide, by decide, hs, fun H2 p l dx c ps hT hl s2 nl ep el => ?_⟩
          have d2 := d.gr (Gr.same s2)
          rw [natM] at el
          have fin : ∀ (r : Bool) (H3 : Hp), Same H2 H3 → RWr PA Ts H a 7 2 [some (.ref a), some (.ref R), some (.ref S), y3] (L2.upd H3 S (.lst (bs.map V.bl ++ [.bl r]))) := fun r H3 s3 =>
            ⟨_, R, S, _, _, rfl, (d2.gr (Gr.same s3)).shown r, h5, hk, by rw [List.length_append]; show _ + 1 ≤ 2; omega⟩
          cases c with
          | true => exact ⟨p, dx, [("people", .ref l)], rfl, rfl, .inl ⟨ep, .ref a, rfl, p, a, l, dx, _, n, e, rfl, ep, SqL.of el, (wA d2.g).1, n2, fun r H3 _ s3 => ⟨S, _, _, rfl, rfl, s3 _ _ d2.eS, lbs, fin r H3 s3⟩⟩⟩
          | false => exact ⟨p, dx, [("people", .ref l)], rfl, rfl, .inr ⟨ep, .ref a, rfl, p, a, l, dx, _, n, e, rfl, ep, SqL.of el, (wA d2.g).1, n2, fun r H3 _ s3 => ⟨S, _, _, rfl, rfl, s3 _ _ d2.eS, lbs, fin r H3 s3⟩⟩⟩
      · rw [decide_eq_false hn5]
        exact iteF ⟨y3, R, S, rows, bs, rfl, d, h5, by omega, by omega⟩
    clear hj hk h5 d bs rows S R y3 H1
    rintro σ H1 ⟨y3, R, S, rows, bs, rfl, d, h5, hk, hj⟩
    refine ⟨?_, ?_⟩
    · refine ⟨_, rfl, _, rfl, a, n, e, rfl, wA d.g, (d.g.tk hTk).tl, fun H2 p1 l1 d1 ns1 b1 t1 np1 nl1 c1 ep1 el1 => ?_⟩
      have d2 := d.gr (Gr.str hn (d.g.tk hTk) b1 t1)
      refine ⟨p1, d1, [("people", .ref l1)], rfl, rfl, .inr ⟨ep1, .ref a, rfl, p1, a, l1, d1, ns1, n, e, rfl, ep1, SqL.of el1, (wA d2.g).1, n2, fun r1 H3 _ s3 => ?_⟩⟩
      have d3 := d2.gr (Gr.same s3)
      refine ⟨_, rfl, a, n, e, rfl, wA d3.g, (d3.g.tk hTk).tl, (d3.g.tk hTk).tb, fun H4 p2 l2 dd2 ns2 b2 np2 nl2 c2 ep2 el2 => ?_⟩
      have d4 := d3.gr (Gr.fri (d3.g.tk hTk) b2)
      refine ⟨p2, dd2, [("people", .ref l2)], rfl, rfl, .inl ⟨ep2, .ref a, rfl, p2, a, l2, dd2, ns2, n, e, rfl, ep2, SqL.of el2, (wA d4.g).1, n2, fun r2 H5 _ s5 => ?_⟩⟩
      have d5 := d4.gr (Gr.same s5)
      refine ⟨by decide, fun e0 ne0 => ?_⟩
      have se := same_upd (o := .lst []) ne0
      have ee0 : L2.upd H5 e0 (.lst []) e0 = some (.lst []) := upd_same
      generalize L2.upd H5 e0 (.lst []) = J0 at se ee0 ⊢
      intro x dx nx ndx nex
      refine ⟨x, e0, dx, _, rfl, upd_same, SqL.of (xs := []) ?_, fun l H6 nl g1 g2 kp => ⟨rfl, ?_⟩⟩
      · rw [upd_ne (ne_of_none ee0 nx), upd_ne (ne_of_none ee0 ndx)]
        exact ee0
      have s6 : Same J0 H6 := fun b o eb => by
        refine kp b o ?_ (ne_of_none eb nx)
        rw [upd_ne (ne_of_none eb nx), upd_ne (ne_of_none eb ndx)]
        exact eb
      have d6 := d5.gr (Gr.same (se.trans s6))
      refine ⟨x, dx, [("people", .ref l)], rfl, rfl, .inl ⟨g2, .ref a, rfl, x, a, l, dx, [], n, e, rfl, g2, SqL.of g1, (wA d6.g).1, n2, fun r3 H7 _ s7 => ?_⟩⟩
      have d7 := d6.gr (Gr.same s7)
      refine ⟨(by decide : (3 : Nat) ≤ sizeLine), fun z nz => ?_⟩
      have sz := same_upd (o := .lst [V.bl r1, .bl r2, .bl r3]) nz
      have ez : L2.upd H7 z (.lst [V.bl r1, .bl r2, .bl r3]) z = some (.lst [V.bl r1, .bl r2, .bl r3]) := upd_same
      have d8 := d7.gr (Gr.same sz)
      generalize L2.upd H7 z (.lst [V.bl r1, .bl r2, .bl r3]) = H8 at sz ez d8 ⊢
      refine ⟨S, z, bs.map V.bl, _, rfl, rfl, d8.eS, ez, Nat.le_of_lt (small1000 (by rw [List.length_map]; show _ + 3 ≤ 1000; omega)), fun y ny => ?_⟩
      have eb : bs.map V.bl ++ [V.bl r1, .bl r2, .bl r3] = (bs ++ [r1, r2, r3]).map V.bl := by rw [List.map_append] <;> rfl
      rw [eb]
      exact ⟨y3, R, y, rows, _, rfl, d8.newS ny, h5, hk, by rw [List.length_append]; show _ + 3 ≤ 5; omega⟩
    clear hj hk h5 d bs rows S R y3 H1
    rintro σ H1 ⟨y3, R, S, rows, bs, rfl, d, h5, hk, hj⟩
    refine ⟨?_, ?_⟩
    · refine ⟨_, rfl, (by decide : (2 : Nat) ≤ sizeLine), fun e0 ne0 => ?_⟩
      have se := same_upd (o := .lst [.int 0, .int 1]) ne0
      have ee0 : L2.upd H1 e0 (.lst [.int 0, .int 1]) e0 = some (.lst [.int 0, .int 1]) := upd_same
      generalize L2.upd H1 e0 (.lst [.int 0, .int 1]) = J0 at se ee0 ⊢
      intro x dx nx ndx nex
      refine ⟨x, e0, dx, _, rfl, upd_same, SqL.of (xs := [.int 0, .int 1]) ?_, fun l H6 nl g1 g2 kp => ⟨rfl, ?_⟩⟩
      · rw [upd_ne (ne_of_none ee0 nx), upd_ne (ne_of_none ee0 ndx)]
        exact ee0
      have s6 : Same J0 H6 := fun b o eb => by
        refine kp b o ?_ (ne_of_none eb nx)
        rw [upd_ne (ne_of_none eb nx), upd_ne (ne_of_none eb ndx)]
        exact eb
      have d6 := d.gr (Gr.same (se.trans s6))
      refine ⟨x, dx, [("people", .ref l)], rfl, rfl, .inr ⟨g2, .ref a, rfl, x, a, l, dx, [0, 1], n, e, rfl, g2, SqL.of g1, (wA d6.g).1, n2, fun r3 H7 _ s7 => ?_⟩⟩
      have d7 := d6.gr (Gr.same s7)
      refine ⟨(by decide : (1 : Nat) ≤ sizeLine), fun z nz => ?_⟩
      have sz := same_upd (o := .lst [V.bl r3]) nz
      have ez : L2.upd H7 z (.lst [V.bl r3]) z = some (.lst [V.bl r3]) := upd_same
      have d8 := d7.gr (Gr.same sz)
      generalize L2.upd H7 z (.lst [V.bl r3]) = H8 at sz ez d8 ⊢
      refine ⟨S, z, bs.map V.bl, _, rfl, rfl, d8.eS, ez, Nat.le_of_lt (small1000 (by rw [List.length_map]; show _ + 1 ≤ 1000; omega)), fun y ny => ?_⟩
      have eb : bs.map V.bl ++ [V.bl r3] = (bs ++ [r3]).map V.bl := by rw [List.map_append] <;> rfl
      rw [eb]
      exact ⟨y3, R, y, rows, _, rfl, d8.newS ny, h5, hk, by rw [List.length_append]; show _ + 1 ≤ 6; omega⟩
    clear hj hk h5 d bs rows S R y3 H1
    rintro σ H1 ⟨y3, R, S, rows, bs, rfl, d, h5, hk, hj⟩
    refine ⟨_, rfl, .ref R, rfl, .inr (.inl ⟨R, rows, rfl, d.eR, by omega, d.fl.plain⟩), fun H2 s2 => ⟨_, rfl, iteT ?_⟩⟩
    have d2 := d.gr (Gr.same s2)
    refine ⟨_, rfl, S, bs, rfl, SqL.of d2.eS, by omega, fun H3 s3 => ⟨_, rfl, iteT ?_⟩⟩
    have d3 := d2.gr (Gr.same s3)
    refine ⟨_, rfl, a, n, e, rfl, wA d3.g, fun H4 t s4 nt et => ?_⟩
    refine ⟨.ref t, .ty "tuple", .type "tuple", .type "tuple", true, rfl, .ty "tuple", .base (.tup et), kit_ty (by decide +kernel), ?_⟩
    exact q _ (d3.g.trans (Gr.same s4))
end
end AK
set_option Elab.async false
set_option linter.all false
set_option maxRecDepth 100000
set_option maxHeartbeats 4000000
namespace AK
open PySem PySem.Spec PyProof.Rows L2
/-- * of two factors of together less than a hundred million bits -/
def CMulH (i j : Int) : Prop := i.natAbs.log2 + j.natAbs.log2 < 100000000
theorem CMulH.ok {i j : Int} (h : CMulH i j) : IntMulOk i j := by
  have b : ∀ x : Int, Builtin.Int.intBits x ≤ x.natAbs.log2 + 1 := fun x => by
    unfold Builtin.Int.intBits
    split <;> omega
  have h1 := b i
  have h2 := b j
  have h3 : i.natAbs.log2 + j.natAbs.log2 < 100000000 := h
  have e : bitsLine = 134217728 := by decide
  unfold IntMulOk
  intro z
  rw [Bool.and_eq_true] at z
  have z2 := z.2
  unfold Builtin.Int.intTooBig at z2
  have z3 := of_decide_eq_true z2
  rw [e] at z3
  omega
theorem hard_mul {i j : Int} {a b : Nat} (ha : i.natAbs < 2 ^ a) (hb : j.natAbs < 2 ^ b) (h0 : 0 < a) (h1 : 0 < b) (h : a + b ≤ 100000000) : CMulH i j := by
  have x := PySem.Flt.log2_lt_of h0 ha
  have y := PySem.Flt.log2_lt_of h1 hb
  unfold CMulH
  omega
theorem op_mulH {X : Cx} : OpR X (binaryOp .Mult) (rI CMulH fun i j => .int (i * j)) := opI fun _ _ _ _ _ _ _ hc q => mul_int q hc.ok
section
variable {P : Program} {w : World} {K : PySem.W.Frag} {mg : Str → Option Value} {base : Heap}
/-! ### _law_number -/
theorem scNum : FnScope ["_law_cell", "_law_at", "_law_whole", "_law_blend", "_law_more"] ["_law_cell", "_law_at", "_law_whole"] (defScope sNum) := ⟨rfl, rfl, rfl, by decide +kernel, rfl, by decide +kernel, by decide +kernel⟩
def spNum (K : PySem.W.Frag) (N : Nat) : Sp := fun vs H Q _ => ∃ c a t : Int, vs = [.int c, .int a, .int t] ∧ 0 ≤ a ∧ a ≤ 200 ∧ c.natAbs < 2 ^ N ∧ ∀ z, Q (.int z) H
theorem ok_num {f : Addr} {fd : FuncData} {N : Nat} (n0 : 40 ≤ N) (n1 : N ≤ 2000000) (F : Fun K "_law_number" "_law_number" sNum f fd) : FnOk P w K mg base CX0 1 f fd ["_law_cell", "_law_at", "_law_whole"] (spNum K N) := by
  refine F.ok scNum (fun vs H Q E h => ?_) (fun cdv A outer s H vs Q E hr h => ?_)
  · obtain ⟨c, a, t, rfl, _⟩ := h
    rfl
  · obtain ⟨c, a, t, rfl, a0, a1, hc, q⟩ := h
    refine ⟨_, pss_cons (ps_if (pt_cmpR op_ge (pv 0) (pe_op op_pow pe_int pe_int) (nomark _)) (pss_one (ps_ret (pe_op op_fdiv (pv 0) (pe_op op_add pe_int (pe_op op_mod (pv 1) pe_int))))) pss_nil)
      (pss_cons (ps_set (i := 3) scNum.nd rfl (.inl rfl) (pe_op op_mod (pe_op op_add (pe_op op_mul (pe_op op_add (pv 0) (pe_op op_mul pe_int (pv 1))) pe_int) (pv 2)) pe_int))
      (pss_cons (ps_set (i := 4) scNum.nd rfl (.inl rfl) (pe_op op_mulH (pv 3) (pe_op op_add (pe_op op_add (pv 0) (pe_op op_mul pe_int (pv 1))) pe_int)))
      (pss_one (ps_ret (pe_op op_fdiv (pe_op op_mul (pe_op op_mulH (pv 4) (pe_op op_add (pe_op op_add (pv 3) (pv 0)) pe_int)) (pe_op op_add (pe_op op_mul (pv 3) (pv 3)) pe_int)) (pe_op op_add pe_int (pv 1))))))), ?_⟩
    have hp : 2 ^ 40 ≤ 2 ^ N := Nat.pow_le_pow_right (by decide) n0
    have e1 : 2 ^ (N + 1) = 2 * 2 ^ N := by rw [Nat.pow_succ]; omega
    refine ⟨_, rfl, 10, 18, rfl, rfl, ⟨by decide, by decide, by decide⟩, c, _, rfl, rfl, _, rfl, ?_⟩
    by_cases h18 : (10 : Int) ^ (18 : Int).toNat ≤ c
    · rw [decide_eq_true h18]
      have k0 : 0 ≤ a % 7 := Int.emod_nonneg _ (by decide)
      have k1 : a % 7 < 7 := Int.emod_lt_of_pos _ (by decide)
      refine iteT ⟨_, rfl, _, rfl, a, 7, rfl, rfl, (show (0 : Int) < 7 by decide), 1, _, rfl, rfl, c, _, rfl, rfl, ⟨by omega, by omega⟩, ?_⟩
      exact q _
    · rw [decide_eq_false h18]
      refine iteF ?_
      refine ⟨_, rfl, _, rfl, 977, a, rfl, rfl, .inl ⟨by decide, by decide⟩, _, _, rfl, rfl, _, _, rfl, rfl, .inr ⟨by decide, by decide⟩, _, rfl, _, _, rfl, rfl, _, _, rfl, rfl, (show (0 : Int) < 2147483647 by decide), ?_⟩
      have m0 : 0 ≤ ((c + 977 * a) * 48271 + t) % 2147483647 := Int.emod_nonneg _ (by decide)
      have m1 : ((c + 977 * a) * 48271 + t) % 2147483647 < 2147483647 := Int.emod_lt_of_pos _ (by decide)
      have fx : ∀ m : Int, 0 ≤ m → m < 2147483647 → m.natAbs < 2 ^ 31 ∧ (c + 31 * a + 7).natAbs < 2 ^ (N + 1) ∧ (m + c + 5).natAbs < 2 ^ (N + 1) ∧ (m * (c + 31 * a + 7)).natAbs < 2 ^ (31 + (N + 1)) ∧ 0 ≤ m * m ∧ m * m < 2 ^ 62 := fun m m0 m1 => by
        have hm : m.natAbs < 2 ^ 31 := by omega
        have hx : (c + 31 * a + 7).natAbs < 2 ^ (N + 1) := by omega
        have h1 : m.natAbs * m.natAbs < 2 ^ 31 * 2 ^ 31 := Nat.mul_lt_mul'' hm hm
        have h2 := Int.natAbs_mul_self' m
        exact ⟨hm, hx, by omega, wide_lt hm hx, by omega, by omega⟩
      obtain ⟨hm, hx, hy, hz, mm0, mm1⟩ := fx _ m0 m1
      refine ⟨_, rfl, _, rfl, _, rfl, 31, a, rfl, rfl, .inl ⟨by decide, by decide⟩, _, _, rfl, rfl, _, _, rfl, rfl, _, _, rfl, rfl, hard_mul (a := 31) (b := N + 1) hm hx (by decide) (by omega) (by omega), ?_⟩
      refine ⟨_, rfl, _, rfl, _, rfl, _, _, rfl, rfl, _, _, rfl, rfl, _, _, rfl, rfl, hard_mul (a := 31 + (N + 1)) (b := N + 1) hz hy (by omega) (by omega) (by omega), ?_⟩
      refine ⟨_, rfl, _, rfl, _, _, rfl, rfl, .inl ⟨by omega, by omega⟩, _, _, rfl, rfl, _, _, rfl, rfl, .inr ⟨by omega, by omega⟩, ?_⟩
      refine ⟨_, rfl, _, _, rfl, rfl, _, _, rfl, rfl, ⟨by omega, by omega⟩, ?_⟩
      exact q _
end
end AK
set_option Elab.async false
set_option linter.all false
set_option maxRecDepth 100000
set_option maxHeartbeats 4000000
namespace AK
open PySem PySem.Spec PyProof.Rows L2
theorem signs_setB {n j : Nat} {e e' : Nat → Bool} {b : Bool} (hj : j < n) (h : ∀ k, k < n → e' k = if k = j then b else e k) : (signs n e).set j (.str ⟨#[sg b]⟩) = signs n e' := by
  unfold signs
  refine List.ext_getElem (by simp) fun k h1 h2 => ?_
  have hk : k < n := by simpa using h2
  rw [List.getElem_set, List.getElem_map, List.getElem_map, List.getElem_range, h k hk]
  by_cases hjk : j = k
  · rw [if_pos hjk, if_pos hjk.symm]
  · rw [if_neg hjk, if_neg (Ne.symm hjk)]
theorem Signs.writeB {H0 H : Hp} {D : Addr} {ps : List Addr} {n : Nat} {E : Nat → Nat → Bool} (b : Bool) (S : Signs H0 H D ps n E) {i j : Nat} {p : Addr} (hp : ps[i]? = some p) (hj : j < n) :
    Signs H0 (L2.upd H p (.lst ((signs n (E i)).set j (.str ⟨#[sg b]⟩)))) D ps n (fun a c => if a = i ∧ c = j then b else E a c) where
  same := fun c o e => by
    have nb : c ≠ p := fun z => by
      have := S.fr p (List.mem_of_getElem? hp)
      rw [z, this] at e
      cases e
    rw [upd_ne nb]
    exact S.same c o e
  hD := by
    have nb : D ≠ p := fun z => S.nD (by rw [z]; exact List.mem_of_getElem? hp)
    rw [upd_ne nb]
    exact S.hD
  len := S.len
  nd := S.nd
  nD := S.nD
  fr := S.fr
  frD := S.frD
  at_ := fun a q hq => by
    by_cases ha : a = i
    · subst ha
      rw [hp] at hq
      cases hq
      rw [upd_same]
      congr 2
      refine signs_setB hj fun k hk => ?_
      by_cases hkj : k = j
      · rw [if_pos hkj, if_pos ⟨rfl, hkj⟩]
      · rw [if_neg hkj, if_neg (fun z => hkj z.2)]
    · have nq : q ≠ p := fun z => by
        subst z
        exact ha (nodup_inj S.nd hq hp)
      rw [upd_ne nq, S.at_ a q hq]
      unfold signs
      congr 2
      refine List.map_congr_left fun k _ => ?_
      show _ = V.str ⟨#[sg (if a = i ∧ k = j then b else E a k)]⟩
      rw [if_neg (fun z => ha z.1)]
theorem Signs.ext {H0 H H' : Hp} {D : Addr} {ps : List Addr} {n : Nat} {E : Nat → Nat → Bool} (S : Signs H0 H D ps n E) (s : Same H H') : Signs H0 H' D ps n E := ⟨S.same.trans s, s _ _ S.hD, S.len, S.nd, S.nD, S.fr, S.frD, fun i p h => s _ _ (S.at_ i p h)⟩
/-- symmetric below n, none of itself -/
def SymB (E : Nat → Nat → Bool) : Prop := (∀ i j, E i j = E j i) ∧ ∀ i, E i i = false
theorem SymB.put {E : Nat → Nat → Bool} {b : Bool} {i j : Nat} (h : SymB E) (hij : j < i) : SymB (fun x y => if x = j ∧ y = i then b else if x = i ∧ y = j then b else E x y) := by
  refine ⟨fun x y => ?_, fun x => ?_⟩
  · show (if x = j ∧ y = i then b else if x = i ∧ y = j then b else E x y) = (if y = j ∧ x = i then b else if y = i ∧ x = j then b else E y x)
    by_cases h1 : x = j ∧ y = i
    · rw [if_pos h1]
      rw [if_neg (fun z : y = j ∧ x = i => by omega), if_pos ⟨h1.2, h1.1⟩]
    · rw [if_neg h1]
      by_cases h2 : x = i ∧ y = j
      · rw [if_pos h2, if_pos ⟨h2.2, h2.1⟩]
      · rw [if_neg h2, if_neg (fun z => h2 ⟨z.2, z.1⟩), if_neg (fun z => h1 ⟨z.2, z.1⟩), h.1]
  · show (if x = j ∧ x = i then b else if x = i ∧ x = j then b else E x x) = false
    rw [if_neg (fun z => by omega), if_neg (fun z => by omega)]
    exact h.2 x
theorem SymB.isWeb {E : Nat → Nat → Bool} (h : SymB E) (n : Nat) : IsWeb n E := ⟨fun i j _ _ => h.1 i j, fun i _ => h.2 i⟩
/-- a statement, then the rest from what holds after it, seen from before it -/
def tCutD (R : L2.St → Hp → L2.St → Hp → Prop) (t u : TS) : TS := fun D σ H => t { D with nx := R σ H } σ H ∧ ∀ σ' H', R σ H σ' H' → u D σ' H'
theorem pss_cutD {X : Cx} {st : Stmt} {rest : List Stmt} {t u : TS} (R : L2.St → Hp → L2.St → Hp → Prop) (h1 : PS X st t) (h2 : PSs X rest u) : PSs X (st :: rest) (tCutD R t u) := by
  refine ⟨fun pins s σ H D I h => ?_⟩
  refine wpAny_execs_cons (thn (h1.run pins s σ H { D with nx := R σ H } I h.1) fun f s1 q => ?_)
  cases f with
  | next =>
    obtain ⟨σ', H', I', q⟩ := q
    exact h2.run pins s1 σ' H' D I' (h.2 σ' H' q)
  | ret v => exact q
  | brk => exact q
  | cont => exact q
/-- only the slot i, an int, may change -/
def OnlyI (i : Nat) (σ : L2.St) (H : Hp) (σ' : L2.St) (H' : Hp) : Prop := H' = H ∧ ∃ z : Int, σ' = σ.set i (some (.int z))
end AK
set_option Elab.async false
set_option linter.all false
set_option maxRecDepth 100000
set_option maxHeartbeats 8000000
namespace AK
open PySem PySem.Spec PyProof.Rows L2
section
variable {P : Program} {w : World} {K : PySem.W.Frag} {mg : Str → Option Value} {base : Heap}
abbrev nL7 : List Str := ["_law_script", "_law_whole", "_law_many", "_law_one", "_law_signs", "_law_other", "_law_sign", "_law_drawn", "_law_row", "_law_web"]
theorem scL7 : FnScope nL7 ["_law_script"] (defScope sLaw) := ⟨rfl, rfl, rfl, by decide +kernel, rfl, by decide +kernel, by decide +kernel⟩
/-- webs -/
def EvOk (H : Hp) (xs : List V) : Prop := ∀ x ∈ xs, ∃ (t : Addr) (n : Nat) (e : Nat → Nat → Bool), x = .ref t ∧ H t = some (.lst ((web n e).map V.str)) ∧ n ≤ 200 ∧ IsWeb n e
/-- the whole is set -/
def RWh (N : Nat) (σ : L2.St) (H : Hp) (σ' : L2.St) (H' : Hp) : Prop := Same H H' ∧ ∃ z : Int, σ' = σ.set 1 (some (.int z)) ∧ 0 ≤ z ∧ z.natAbs < 2 ^ (N + 6)
def RMany (σ : L2.St) (H : Hp) (σ' : L2.St) (H' : Hp) : Prop := H' = H ∧ ∃ m : Nat, σ' = σ.set 2 (some (.int (m : Nat))) ∧ m < 9
/-- one of the two signs -/
def RSig (σ : L2.St) (H : Hp) (σ' : L2.St) (H' : Hp) : Prop := H' = H ∧ ∃ b : Bool, σ' = σ.set 6 (some (.str ⟨#[sg b]⟩))
theorem sum_bits {N : Nat} : ∀ {ns : List Int}, (∀ z ∈ ns, z.natAbs < 2 ^ N) → ns.sum.natAbs ≤ ns.length * 2 ^ N
  | [], _ => by simp
  | z :: ns, h => by
    have h1 := h z (List.mem_cons_self ..)
    have h2 := sum_bits fun y hy => h y (List.mem_cons_of_mem _ hy)
    rw [List.sum_cons, List.length_cons, Nat.succ_mul]
    omega
def spPR (PA : Addr) (Ts : List Addr) : Sp := fun vs H Q _ => vs = [] ∧ Tk PA Ts H ∧ ∀ H', Gr PA Ts H H' → Q (.bl true) H'
def spL7 (K : PySem.W.Frag) (PA : Addr) (Ts : List Addr) (N : Nat) : Sp := fun vs H Q _ => ∃ (a : Addr) (ns : List Int), vs = [.ref a] ∧ SqL K H a (ns.map V.int) ∧ ns.length ≤ 63 ∧ (∀ z ∈ ns, z.natAbs < 2 ^ N) ∧ Tk PA Ts H ∧ ∀ H', Q (.bl true) H'
theorem ok_l7 {f fR fN fP fF fS fW fO PA : Addr} {Ts : List Addr} {fd dR dN dP dF dS dW dO : FuncData} {N : Nat} (F : Fun K "law" "law" sLaw f fd) (B : Bl mg) (hn : PA ∉ Ts) (hall : mg "all" = none)
    (GR : FnOk P w K mg base CX0 7 fR dR [] (spPR PA Ts)) (cR : Cal K mg "_law_promises_right" fR dR [])
    (GN : FnOk P w K mg base CX0 1 fN dN ["_law_cell", "_law_at", "_law_whole"] (spNum K (N + 6))) (cN : Cal K mg "_law_number" fN dN ["_law_cell", "_law_at", "_law_whole"])
    (GP : FnOk P w K mg base CX0 3 fP dP ["_law_thing"] (spPlain K 2)) (cP : Cal K mg "_law_plain" fP dP ["_law_thing"])
    (GF : FnOk P w K mg base CX0 3 fF dF ["size"] (spFewest K)) (cF : Cal K mg "fewest" fF dF ["size"])
    (GS : FnOk P w K mg base CX0 3 fS dS ["known", "unknown"] (spSure K)) (cS : Cal K mg "sure" fS dS ["known", "unknown"])
    (GW : FnOk P w K mg base CX0 6 fW dW ["_law_web"] (spWr K PA Ts)) (cW : Cal K mg "_law_web_right" fW dW ["_law_web"])
    (GO : FnOk P w K mg base CX0 3 fO dO ["size"] (spWebOf K Ts)) (cO : Cal K mg "web_of" fO dO ["size"]) :
    FnOk P w K mg base CX0 8 f fd ["_law_script"] (spL7 K PA Ts N) := by
  refine F.ok scL7 (fun vs H Q E h => ?_) (fun cdv A outer s H vs Q E hr h => ?_)
  · obtain ⟨a, ns, rfl, _⟩ := h
    rfl
  · obtain ⟨a, ns, rfl, hS, hlen, hbits, hTk, q⟩ := h
    have r1 := hr.mono (j := 1) (by decide)
    have r3 := hr.mono (j := 3) (by decide)
    have r6 := hr.mono (j := 6) (by decide)
    refine ⟨_, pss_cons (ps_if (pt_not (pt_val (pe_call0 GR hr (by rfl) cR.g cR.kp cR.b .nil pass0))) (pss_one ps_never) pss_nil)
      (pss_cutD (RWh N) (ps_set (i := 1) scL7.nd rfl (.inl rfl) (pe_callB call_abs (by rfl) B.abs (by decide +kernel) (pa_cons (pe_callB (cr_sum rfl) (by rfl) B.sum (by decide +kernel) (pa_cons (pe_slice sl_list (pv 0) po_none (po_some pe_int)) pa_nil)) pa_nil)))
      (pss_cutD RMany (ps_set (i := 2) scL7.nd rfl (.inr rfl) (pe_op op_mod (pv 1) pe_int))
      (pss_cons (ps_setLc (i := 4) (own := [("_law_one", 3)]) (g := gName 3) (tt := tYes) rfl scL7.nd rfl rfl (sw_true rfl rfl rfl (by decide +kernel)) (pi_range1 (by rfl) B.range (pa_cons (pv 2) pa_nil)) (blkOk_by (N := nL7) (sc := defScope sLaw) (by decide +kernel))
        (fun _ _ _ _ _ => pg_name (i := 3) scL7.nd rfl (Or.inl rfl)) (fun _ _ _ _ _ => pts_nil) (fun _ _ _ _ _ => pe_op op_rep (pe_lst (pa_cons pe_str pa_nil)) (pv 2)))
      (pss_cons (ps_for PassesOwn.never rfl (pi_range1 (by rfl) B.range (pa_cons (pv 2) pa_nil)) (pg_name (i := 3) scL7.nd rfl (.inl rfl))
        (pss_one (ps_for PassesOwn.never rfl (pi_range1 (by rfl) B.range (pa_cons (pv 3) pa_nil)) (pg_name (i := 5) scL7.nd rfl (.inl rfl))
          (pss_cutD RSig (ps_set (i := 6) scL7.nd rfl (.inl rfl) (pe_ix ix_str pe_str (pe_op op_mod (pe_op op_fdiv (pe_callB call_abs (by rfl) B.abs (by decide +kernel) (pa_cons (pe_call GN r1 (by rfl) cN.g cN.kp cN.b .nil pass0 (pa_cons (pv 1) (pa_cons (pv 3) (pa_cons (pv 5) pa_nil)))) pa_nil)) pe_int) pe_int) (fun _ _ => rfl)))
          (pss_one (ps_asg (pe_tup (pa_cons (pv 6) (pa_cons (pv 6) pa_nil))) (pg_tupN (n := 2) K rfl rfl (pgs_cons (pg_sub (pe_ix ix_list (pv 4) (pv 3) (fun _ _ => rfl)) (pv 5) set_list) (pgs_cons (pg_sub (pe_ix ix_list (pv 4) (pv 5) (fun _ _ => rfl)) (pv 3) set_list) pgs_nil)))))))))
      (pss_cons (ps_setLc (i := 7) (own := [("_law_row", 8)]) (g := gName 8) (tt := tYes) rfl scL7.nd rfl rfl (sw_true rfl rfl rfl (by decide +kernel)) (pi_list (pv 4)) (blkOk_by (N := nL7) (sc := defScope sLaw) (by decide +kernel))
        (fun _ _ _ _ _ => pg_name (i := 8) scL7.nd rfl (Or.inl rfl)) (fun _ _ _ _ _ => pts_nil) (fun _ _ _ _ _ => pe_joinK K rfl pe_str (pv 8)))
      (pss_cons (ps_if (pt_not (pt_val (pe_call GP r3 (by rfl) cP.g cP.kp cP.b .nil pass0 (pa_cons (pe_lst (pa_cons (pe_call GF r3 (by rfl) cF.g cF.kp cF.b .nil pass0 (pa_cons (pe_op op_mod (pv 1) pe_int) pa_nil)) (pa_cons (pe_call GF r3 (by rfl) cF.g cF.kp cF.b .nil pass0 (pa_cons pe_int pa_nil)) (pa_cons (pe_call GF r3 (by rfl) cF.g cF.kp cF.b .nil pass0 (pa_cons pe_int pa_nil))
          (pa_cons (pe_call GS r3 (by rfl) cS.g cS.kp cS.b .nil pass0 (pa_cons pe_int (pa_cons pe_int pa_nil))) (pa_cons (pe_call GS r3 (by rfl) cS.g cS.kp cS.b .nil pass0 (pa_cons pe_int (pa_cons pe_int pa_nil))) (pa_cons (pe_call GS r3 (by rfl) cS.g cS.kp cS.b .nil pass0 (pa_cons pe_int (pa_cons (pe_op op_add pe_int (pe_op op_mod (pv 1) pe_int)) pa_nil))) pa_nil))))))) pa_nil)))) (pss_one ps_never) pss_nil)
      (pss_one (ps_ret (pe_callB (cr_all rfl) (by rfl) hall (by decide +kernel) (pa_cons
        (pe_lc (own := [("_law_web", 9)]) (g := gName 9) (tt := tYes) rfl scL7.nd (pi_list (pe_lst (pa_cons (pv 7) (pa_cons (pe_lst pa_nil) (pa_cons (pe_lst (pa_cons pe_str pa_nil)) (pa_cons (pe_lst (pa_cons pe_str (pa_cons pe_str pa_nil))) (pa_cons (pe_call GO r3 (by rfl) cO.g cO.kp cO.b .nil pass0 (pa_cons pe_int pa_nil)) (pa_cons (pe_call GO r3 (by rfl) cO.g cO.kp cO.b .nil pass0 (pa_cons (pe_op op_mod (pv 1) pe_int) pa_nil)) pa_nil)))))))) (blkOk_by (N := nL7) (sc := defScope sLaw) (by decide +kernel)) (fun _ _ _ _ _ => pg_name (i := 9) scL7.nd rfl (Or.inl rfl)) (fun _ _ _ _ _ => pts_nil)
          (fun _ _ _ _ _ => pe_call GW r6 (by rfl) cW.g cW.kp cW.b .nil pass0 (pa_cons (pv 9) pa_nil))) pa_nil)))))))))), ?_⟩
    refine ⟨rfl, hTk, fun H1 g1 => ⟨_, rfl, iteF ?_⟩⟩
    have hTk := g1.tk hTk
    have hS := g1.sq hS
    have cut63 : cutV (ns.map V.int) none (some 63) = ns.map V.int := by
      have e : cutV (ns.map V.int) none (some ((63 : Nat) : Int)) = (ns.map V.int).take 63 := cut_headN _ 63
      have e2 : (ns.map V.int).take 63 = ns.map V.int := List.take_of_length_le (by rw [List.length_map]; exact hlen)
      rw [e2] at e
      exact e
    refine ⟨?_, ?_⟩
    · refine ⟨_, rfl, _, rfl, a, _, rfl, hS, fun S1 nS1 => ?_⟩
      rw [cut63]
      refine ⟨S1, ns, rfl, SqL.of upd_same, ns.sum, rfl, same_upd nS1, _, rfl, ?_, ?_⟩
      · split <;> omega
      · have hb := sum_bits hbits
        have e6 : 2 ^ (N + 6) = 64 * 2 ^ N := by rw [Nat.pow_add, Nat.mul_comm] <;> rfl
        have h1 : ns.length * 2 ^ N ≤ 63 * 2 ^ N := Nat.mul_le_mul_right _ hlen
        have hp : 0 < 2 ^ N := Nat.two_pow_pos N
        rw [e6]
        generalize 2 ^ N = z at *
        split <;> omega
    rintro _ H2 ⟨s2, whole, rfl, w0, w1⟩
    have g2 := g1.trans (Gr.same (PA := PA) (Ts := Ts) s2)
    have hTk := (Gr.same s2).tk hTk
    refine ⟨⟨_, rfl, whole, 9, rfl, rfl, (show (0 : Int) < 9 by decide), rfl, (whole % 9).toNat, ?_, ?_⟩, ?_⟩
    · rw [Int.toNat_of_nonneg (Int.emod_nonneg _ (by decide))]
    · have := Int.emod_lt_of_pos whole (show (0 : Int) < 9 by decide)
      omega
    rintro _ HW ⟨rfl, m, rfl, hm⟩
    refine ⟨_, rfl, (m : Int), rfl, by omega, by omega, fun D nD => lc_range (fun i HQ => ∃ ps : List Addr, Same HW HQ ∧ HQ D = some (.lst (ps.map V.ref)) ∧ ps.length = i ∧ ps.Nodup ∧ D ∉ ps ∧ ∀ p ∈ ps, HW p = none ∧ HQ p = some (.lst (signs m fun _ => false))) ?_ ?_ ?_⟩
    · exact ⟨[], same_upd nD, upd_same, rfl, .nil, List.not_mem_nil, fun p hp => absurd hp List.not_mem_nil⟩
    · rintro i HQ hi ⟨ps, s2, e2, hl2, nd, nDp, hpp⟩
      refine ⟨rfl, by decide, fun p1 n1 => ⟨_, rfl, p1, (m : Int), _, rfl, rfl, upd_same, by omega, by omega, ?_, fun p2 n2 => ?_⟩⟩
      · rw [List.length_singleton, Nat.one_mul]
        exact Nat.le_of_lt (small1000 (by omega))
      · have ne21 : p2 ≠ p1 := fun z => by rw [z, upd_same] at n2; cases n2
        rw [upd_ne ne21] at n2
        have nD1 : D ≠ p1 := ne_of_none e2 n1
        have nD2 : D ≠ p2 := ne_of_none e2 n2
        have in1 : ∀ p ∈ ps, p ≠ p1 := fun p h => ne_of_none (hpp p h).2 n1
        have in2 : ∀ p ∈ ps, p ≠ p2 := fun p h => ne_of_none (hpp p h).2 n2
        have inD : ∀ p ∈ ps, p ≠ D := fun p h z => nDp (by rw [← z]; exact h)
        refine ⟨ps.map V.ref, by rw [upd_ne nD2, upd_ne nD1]; exact e2, by rw [List.length_map, hl2]; exact small1000 (by omega), ps ++ [p2], fun b o e => ?_, ?_, by rw [List.length_append, hl2] <;> rfl, ?_, ?_, fun p h => ?_⟩
        · have e' := s2 _ _ e
          rw [upd_ne (ne_of_none e nD), upd_ne (ne_of_none e' n2), upd_ne (ne_of_none e' n1)]
          exact e'
        · rw [upd_same, List.map_append] <;> rfl
        · rw [List.nodup_append]
          refine ⟨nd, by simp, fun a ha c hc => ?_⟩
          rw [List.mem_singleton.mp hc]
          exact in2 a ha
        · intro h
          rcases List.mem_append.mp h with h | h
          · exact nDp h
          · exact nD2 (List.mem_singleton.mp h)
        · rcases List.mem_append.mp h with h | h
          · refine ⟨(hpp p h).1, ?_⟩
            rw [upd_ne (inD p h), upd_ne (in2 p h), upd_ne (in1 p h)]
            exact (hpp p h).2
          · rw [List.mem_singleton.mp h]
            refine ⟨s2.free n2, ?_⟩
            rw [upd_ne nD2.symm, upd_same, flat_signs]
    · rintro HQ ⟨ps, s2, e2, hl2, nd, nDp, hpp⟩
      have hl2 : ps.length = m := by omega
      have S0 : Signs HW HQ D ps m (fun _ _ => false) := ⟨s2, e2, hl2, nd, nDp, fun p h => (hpp p h).1, nD, fun i p h => (hpp p (List.mem_of_getElem? h)).2⟩
      refine ⟨_, rfl, (m : Int), rfl, by omega, by omega, for_range (fun i σ H3 => ∃ (y3 y5 y6 : Option V) (E : Nat → Nat → Bool), σ = [some (.ref a), some (.int whole), some (.int (m : Nat)), y3, some (.ref D), y5, y6, none, none, none] ∧ Signs HW H3 D ps m E ∧ SymB E) ⟨none, none, none, _, rfl, S0, fun _ _ => rfl, fun _ => rfl⟩ ?_ ?_⟩
      · rintro i σ H3 hi ⟨y3, y5, y6, E1, rfl, S1, hE1⟩
        have hi : i < m := by omega
        refine ⟨_, rfl, _, rfl, by omega, by omega, for_range (fun j σ H4 => ∃ (y5 y6 : Option V) (E : Nat → Nat → Bool), σ = [some (.ref a), some (.int whole), some (.int (m : Nat)), some (.int (0 + (i : Int))), some (.ref D), y5, y6, none, none, none] ∧ Signs HW H4 D ps m E ∧ SymB E) ⟨y5, y6, E1, rfl, S1, hE1⟩ ?_ ?_⟩
        · rintro j σ H4 hj ⟨y5, y6, E2, rfl, S2, hE2⟩
          have hj : j < i := by omega
          have hjm : j < m := Nat.lt_trans hj hi
          obtain ⟨pi, hpi⟩ : ∃ p, ps[i]? = some p := ⟨ps[i]'(by rw [S2.len]; exact hi), List.getElem?_eq_getElem _⟩
          obtain ⟨pj, hpj⟩ : ∃ p, ps[j]? = some p := ⟨ps[j]'(by rw [S2.len]; exact hjm), List.getElem?_eq_getElem _⟩
          refine ⟨?_, ?_⟩
          · refine ⟨_, rfl, _, rfl, _, rfl, whole, (0 + (i : Int)), (0 + (j : Int)), rfl, by omega, by omega, w1, fun z => ?_⟩
            refine ⟨z, rfl, _, 3, rfl, rfl, ⟨by decide, by decide⟩, _, 2, rfl, rfl, (show (0 : Int) < 2 by decide), ?_⟩
            have k0 : 0 ≤ (if z < 0 then -z else z) / 3 % 2 := Int.emod_nonneg _ (by decide)
            have k1 : (if z < 0 then -z else z) / 3 % 2 < 2 := Int.emod_lt_of_pos _ (by decide)
            have hk : (if z < 0 then -z else z) / 3 % 2 = 0 ∨ (if z < 0 then -z else z) / 3 % 2 = 1 := by omega
            rcases hk with hk | hk
            · exact ⟨_, 0, 120, rfl, (by show V.int ((if z < 0 then -z else z) / 3 % 2) = V.int 0; rw [hk]), (by decide : (2 : Nat) ≤ sizeLine), rfl, rfl, true, rfl⟩
            · exact ⟨_, 1, 45, rfl, (by show V.int ((if z < 0 then -z else z) / 3 % 2) = V.int 1; rw [hk]), (by decide : (2 : Nat) ≤ sizeLine), rfl, rfl, false, rfl⟩
          rintro _ H4 ⟨rfl, b, rfl⟩
          refine ⟨_, rfl, _, rfl, (by decide : (2 : Nat) ≤ sizeLine), fun tp ntp => ⟨tp, _, rfl, SqT.of upd_same, rfl, ?_⟩⟩
          have st := same_upd (o := .tup [.str ⟨#[sg b]⟩, .str ⟨#[sg b]⟩]) ntp
          have S2t := S2.ext st
          generalize L2.upd H4 tp (.tup [.str ⟨#[sg b]⟩, .str ⟨#[sg b]⟩]) = H5 at S2t ⊢
          have S3 := (S2t.writeB b hpi hjm).writeB b hpj hi
          refine ⟨_, _, rfl, _, rfl, _, rfl, D, _, _, .ref pi, rfl, rfl, SqL.of S2t.hD, by rw [Int.zero_add]; exact atI_nat (by rw [List.getElem?_map, hpi] <;> rfl), _, rfl, pi, _, _, j, rfl, rfl, S2t.at_ i pi hpi, by rw [Int.zero_add, signs_len]; exact ixN_at hjm, ?_⟩
          refine ⟨_, _, rfl, _, rfl, _, rfl, D, _, _, .ref pj, rfl, rfl, SqL.of (S2t.writeB b hpi hjm).hD, by rw [Int.zero_add]; exact atI_nat (by rw [List.getElem?_map, hpj] <;> rfl), _, rfl, pj, _, _, i, rfl, rfl, (S2t.writeB b hpi hjm).at_ j pj hpj, by rw [Int.zero_add, signs_len]; exact ixN_at hi, ?_⟩
          exact ⟨rfl, _, _, _, rfl, S3, hE2.put hj⟩
        · rintro σ H4 ⟨y5, y6, E2, rfl, S2, hE2⟩
          exact ⟨_, _, _, E2, rfl, S2, hE2⟩
      · rintro σ H3 ⟨y3, y5, y6, E1, rfl, S, hE⟩
        refine ⟨_, rfl, D, rfl, ⟨_, SqL.of S.hD⟩, fun L nL => lc_list (K := K) (xs := ps.map V.ref) (fun i H4 => Same H3 H4 ∧ H4 L = some (.lst (((web m E1).take i).map V.str))) ⟨same_upd nL, upd_same⟩ (fun i H4 _ ⟨s4, _⟩ => SqL.of (s4 _ _ S.hD)) ?_ ?_⟩
        · rintro i x H4 hx ⟨s4, e4⟩
          rw [List.getElem?_map] at hx
          obtain ⟨r, hr2, rfl⟩ := Option.map_eq_some_iff.mp hx
          have hi : i < m := by rw [← S.len]; exact (List.getElem?_eq_some_iff.mp hr2).1
          have hq := s4 _ _ (S.at_ i r hr2)
          refine ⟨rfl, ⟨_, rfl⟩, _, rfl, _, r, (List.range m).map fun j => (⟨#[sg (E1 i j)]⟩ : Str), rfl, rfl, .inl (SqL.of (by rw [List.map_map]; exact hq)), ?_, _, e4, ?_, fun c o eb => ?_, ?_⟩
          · rw [List.map_map, List.length_map, List.length_range]
            have e1 : ∀ l : List Nat, (l.map ((fun x => x.length) ∘ fun j => (⟨#[sg (E1 i j)]⟩ : Str))).sum = l.length := fun l => by
              induction l with
              | nil => rfl
              | cons c l ih =>
                rw [List.map_cons, List.sum_cons, ih, List.length_cons]
                show 1 + l.length = _
                omega
            rw [e1, List.length_range]
            show m + m * 0 ≤ _
            omega
          · rw [List.length_map, List.length_take, web_len]
            exact small1000 (by omega)
          · rw [upd_ne (ne_of_none eb nL)]
            exact s4 _ _ eb
          · have ej := signs_join m (E1 i)
            have et : ((web m E1).take (i + 1)).map V.str = ((web m E1).take i).map V.str ++ [V.str (row m (E1 i))] := by
              rw [List.take_add_one, web_at hi, List.map_append] <;> rfl
            rw [upd_same, et, ← ej] <;> rfl
        · rintro H4 ⟨s4, e4⟩
          rw [List.length_map, S.len, List.take_of_length_le (by rw [web_len]; exact Nat.le_refl _)] at e4
          have g4 := g2.trans (Gr.same (PA := PA) (Ts := Ts) (S.same.trans s4))
          have hTk := (Gr.same (S.same.trans s4)).tk hTk
          have W := hE.isWeb m
          have h50 : 0 ≤ whole % 50 := Int.emod_nonneg _ (by decide)
          have h51 : whole % 50 < 50 := Int.emod_lt_of_pos _ (by decide)
          have h90 : 0 ≤ whole % 9 := Int.emod_nonneg _ (by decide)
          have h91 : whole % 9 < 9 := Int.emod_lt_of_pos _ (by decide)
          have h52 : (whole % 50).natAbs < 2 ^ 128 := by
            have e128 : (50 : Nat) ≤ 2 ^ 128 := by decide
            omega
          refine ⟨_, rfl, whole, 50, rfl, rfl, (show (0 : Int) < 50 by decide), _, rfl, h50, h52, 0, rfl, by decide, by decide, 6, rfl, by decide, by decide, 1, 1, rfl, by decide, by decide, by decide, by decide, 3, 3, rfl, by decide, by decide, by decide, by decide, _, rfl, whole, 9, rfl, rfl, (show (0 : Int) < 9 by decide), 1, _, rfl, rfl, 2, _, rfl, by decide, by decide, by omega, by omega, (by decide : (6 : Nat) ≤ sizeLine), fun z nz => ?_⟩
          refine ⟨.ref z, rfl, .inr (.inl ⟨z, _, rfl, upd_same, (by decide : (6 : Nat) ≤ 1000), fun y hy => ?_⟩), fun H6 s6 => ⟨_, rfl, iteF ?_⟩⟩
          · simp only [List.mem_cons, List.not_mem_nil, or_false] at hy
            rcases hy with rfl | rfl | rfl | rfl | rfl | rfl <;> exact .inl ⟨_, rfl⟩
          have s46 := (same_upd nz).trans s6
          have g6 := g4.trans (Gr.same (PA := PA) (Ts := Ts) s46)
          have hTk := (Gr.same s46).tk hTk
          have e4 := s46 _ _ e4
          have eT : ∀ e : Nat → Nat → Bool, IsWeb 0 e := fun e => ⟨fun i j hi => absurd hi (Nat.not_lt_zero _), fun i hi => absurd hi (Nat.not_lt_zero _)⟩
          refine ⟨_, rfl, by decide, fun t0 nt0 => ?_⟩
          have s7 := same_upd (o := .lst []) nt0
          have e7 : L2.upd H6 t0 (.lst []) t0 = some (.lst ((web 0 fun _ _ => false).map V.str)) := upd_same
          generalize L2.upd H6 t0 (.lst []) = H7 at s7 e7 ⊢
          refine ⟨(by decide : (1 : Nat) ≤ sizeLine), fun t1 nt1 => ?_⟩
          have s8 := same_upd (o := .lst [.str (Str.ofString "-")]) nt1
          have e8 : L2.upd H7 t1 (.lst [.str (Str.ofString "-")]) t1 = some (.lst ((web 1 fun _ _ => false).map V.str)) := upd_same
          generalize L2.upd H7 t1 (.lst [.str (Str.ofString "-")]) = H8 at s8 e8 ⊢
          refine ⟨(by decide : (2 : Nat) ≤ sizeLine), fun t2 nt2 => ?_⟩
          have s9 := same_upd (o := .lst [.str (Str.ofString "-x"), .str (Str.ofString "x-")]) nt2
          have e9 : L2.upd H8 t2 (.lst [.str (Str.ofString "-x"), .str (Str.ofString "x-")]) t2 = some (.lst ((web 2 fun i j => decide (i ≠ j)).map V.str)) := upd_same
          generalize L2.upd H8 t2 (.lst [.str (Str.ofString "-x"), .str (Str.ofString "x-")]) = H9 at s9 e9 ⊢
          have s69 := s7.trans (s8.trans s9)
          have hTk := (Gr.same s69).tk hTk
          refine ⟨6, rfl, by decide, hTk.tb, fun H10 t3 sm3 nt3 e10 => ?_⟩
          have g10 := Gr.smt hn hTk sm3
          have hTk10 := g10.tk hTk
          have h120 : 0 ≤ whole % 12 := Int.emod_nonneg _ (by decide)
          have h121 : whole % 12 < 12 := Int.emod_lt_of_pos _ (by decide)
          refine ⟨_, rfl, whole, 12, rfl, rfl, (show (0 : Int) < 12 by decide), (whole % 12).toNat, by rw [Int.toNat_of_nonneg h120] <;> rfl, by omega, hTk10.tb, fun H11 t4 sm4 nt4 e11 => ?_⟩
          have g11 := Gr.smt hn hTk10 sm4
          have hTk11 := g11.tk hTk10
          refine ⟨(by decide : (6 : Nat) ≤ sizeLine), fun T nT => ?_⟩
          have s12 := same_upd (o := .lst [.ref L, .ref t0, .ref t1, .ref t2, .ref t3, .ref t4]) nT
          have eTl : L2.upd H11 T (.lst [.ref L, .ref t0, .ref t1, .ref t2, .ref t3, .ref t4]) T = some (.lst [.ref L, .ref t0, .ref t1, .ref t2, .ref t3, .ref t4]) := upd_same
          generalize L2.upd H11 T (.lst [.ref L, .ref t0, .ref t1, .ref t2, .ref t3, .ref t4]) = H12 at s12 eTl ⊢
          have g912 := g10.trans (g11.trans (Gr.same s12))
          have g612 := (Gr.same (PA := PA) (Ts := Ts) s69).trans g912
          have hTk := (Gr.same s12).tk hTk11
          have hev : EvOk H12 [.ref L, .ref t0, .ref t1, .ref t2, .ref t3, .ref t4] := fun x hx => by
            simp only [List.mem_cons, List.not_mem_nil, or_false] at hx
            rcases hx with rfl | rfl | rfl | rfl | rfl | rfl
            · exact ⟨L, m, E1, rfl, g612.lst e4, by omega, W⟩
            · exact ⟨t0, 0, _, rfl, g912.lst ((s8.trans s9) _ _ e7), by decide, eT _⟩
            · exact ⟨t1, 1, _, rfl, g912.lst (s9 _ _ e8), by decide, ⟨fun _ _ _ _ => rfl, fun _ _ => rfl⟩⟩
            · exact ⟨t2, 2, _, rfl, g912.lst e9, by decide, ⟨fun i j _ _ => by rw [decide_eq_decide]; exact ⟨Ne.symm, Ne.symm⟩, fun i _ => decide_eq_false (by simp)⟩⟩
            · exact ⟨t3, 6, _, rfl, (g11.trans (Gr.same s12)).lst e10, by decide, ring_web 6⟩
            · exact ⟨t4, _, _, rfl, s12 _ _ e11, by omega, ring_web _⟩
          refine ⟨T, rfl, ⟨_, SqL.of eTl⟩, fun Da nDa => lc_list (K := K) (xs := [.ref L, .ref t0, .ref t1, .ref t2, .ref t3, .ref t4]) (fun i H' => Gr PA Ts H12 H' ∧ H' Da = some (.lst ((List.replicate i true).map V.bl))) ⟨Gr.same (same_upd nDa), upd_same⟩ (fun i H' _ ⟨g', _⟩ => SqL.of (g'.lst eTl)) ?_ ?_⟩
          · rintro i x H' hx ⟨g', e'⟩
            have hi : i < 6 := (List.getElem?_eq_some_iff.mp hx).1
            obtain ⟨t, n, e, rfl, et, n2, We⟩ := hev x (List.mem_of_getElem? hx)
            refine ⟨rfl, _, rfl, t, n, e, rfl, ⟨SqL.of (g'.lst et), n2, We⟩, g'.tk hTk, fun H'' g'' => ⟨_, g''.lst e', ?_, (g'.trans g'').put (NoO.of (Gr.refl (PA := PA) (Ts := Ts)) nDa) (g''.lst e'), ?_⟩⟩
            · rw [List.length_map, List.length_replicate]
              exact small1000 (by omega)
            · rw [upd_same, List.replicate_succ', List.map_append] <;> rfl
          · rintro H' ⟨g', e'⟩
            refine ⟨Da, _, rfl, SqL.of e', ?_⟩
            have er : ∀ k, (List.replicate k true).all id = true := fun k => by simp
            rw [er]
            exact q _
end
end AK
set_option Elab.async false
set_option linter.all false
set_option maxRecDepth 100000
set_option maxHeartbeats 4000000
namespace AK
open PySem PySem.Spec PyProof.Rows L2
/-- a sign's text so many times -/
abbrev sgs (b : Bool) (n : Nat) : Str := row n fun _ => b
theorem sgs_cps (b : Bool) (n : Nat) : (⟨(List.replicate n (⟨#[sg b]⟩ : Str).cps).foldl (· ++ ·) #[]⟩ : Str) = sgs b n := by
  show (⟨(List.replicate n #[sg b]).foldl (· ++ ·) #[]⟩ : Str) = sgs b n
  rw [fold_rep]
  have h : ∀ l : List Nat, l.map (fun _ => sg b) = List.replicate l.length (sg b) := fun l => by
    induction l with
    | nil => rfl
    | cons c l ih => rw [List.map_cons, ih, List.length_cons, List.replicate_succ] <;> rfl
  unfold sgs row
  rw [h, List.length_range]
  simp
def rSgn : R2 := fun x y H Q => ∃ (b : Bool) (n : Nat), x = .str ⟨#[sg b]⟩ ∧ y = .int n ∧ n ≤ 1000 ∧ Q (.str (sgs b n)) H
theorem op_sgn {X : Cx} : OpR X (binaryOp .Mult) rSgn := by
  intro pins s σ H x y v u Q I rx ry h
  obtain ⟨b, n, rfl, rfl, hn, q⟩ := h
  obtain ⟨t, rfl⟩ := rx
  obtain ⟨t', rfl⟩ := ry
  have hl : (⟨#[sg b]⟩ : Str).length = 1 := rfl
  refine PySem.P.mul_str ?_ (fun h1 _ => ?_) (fun h1 _ => ?_) ?_
  · rw [decide_eq_false (by omega), decide_eq_false (by omega)] <;> rfl
  · rw [hl]
    have : (1 : Int) ≤ (2 ^ 63 - 1) / (n : Int) := by
      rw [Int.le_ediv_iff_mul_le (by omega)]
      omega
    omega
  · rw [hl]
    show Builtin.Str.tooLong (1 * ((n : Int)).toNat) = false
    have e : ((n : Int)).toNat = n := by omega
    rw [e, Nat.one_mul]
    unfold Builtin.Str.tooLong
    exact decide_eq_false (Nat.not_lt.mpr (Nat.le_of_lt (small1000 hn)))
  · by_cases h1 : (n : Int) < 1
    · rw [if_pos h1]
      have e : n = 0 := by omega
      subst e
      exact ⟨by decide, .str _, H, I.tok _, ⟨_, rfl⟩, q⟩
    · rw [if_neg h1]
      by_cases h2 : n = 1
      · subst h2
        rw [if_pos (by rw [hl]; decide)]
        exact ⟨.str (sgs b 1), H, I, ⟨t, rfl⟩, q⟩
      · rw [if_neg (by rw [hl]; simp; omega)]
        have e : ((n : Int)).toNat = n := by omega
        rw [e, sgs_cps]
        exact ⟨by rw [row_len]; exact Nat.le_of_lt (small1000 hn), .str _, H, I.tok _, ⟨_, rfl⟩, q⟩
end AK
set_option Elab.async false
set_option linter.all false
set_option maxRecDepth 100000
set_option maxHeartbeats 4000000
namespace AK
open PySem PySem.Spec PyProof.Rows L2
/-- Known, Unknown and Answer as isinstance sees them -/
structure IC (K : PySem.W.Frag) (CK CU CA : Addr) : Prop where
  haK : PySem.W.findIn K (.ref CK) "__class__" = some (some (.builtin "object.__class__"))
  haU : PySem.W.findIn K (.ref CU) "__class__" = some (some (.builtin "object.__class__"))
  hn : PySem.W.specialIn K (.builtin "object.__class__") "__get__" = some (some (.builtin "getset_descriptor.__get__"))
  htk : PySem.W.takesIn K (.builtin "object.__class__") = some true
  hmK : PySem.W.mroIn K CK (.type "object") = some true
  hmU : PySem.W.mroIn K CU (.type "object") = some true
  ka : PySem.W.kitOne K (.ref CK) (.ref CA) = some true
  ua : PySem.W.kitOne K (.ref CU) (.ref CA) = some true
  kk : PySem.W.kitOne K (.ref CK) (.ref CK) = some true
  ku : PySem.W.kitOne K (.ref CK) (.ref CU) = some false
  uk : PySem.W.kitOne K (.ref CU) (.ref CK) = some false
  uu : PySem.W.kitOne K (.ref CU) (.ref CU) = some true
end AK
set_option Elab.async false
set_option linter.all false
set_option maxRecDepth 100000
set_option maxHeartbeats 16000000
namespace AK
open PySem PySem.Spec PyProof.Rows L2
/-- webs by hand -/
def fullE : Nat → Nat → Bool := fun i j => decide (i ≠ j)
def noE : Nat → Nat → Bool := fun _ _ => false
def r5E : Nat → Nat → Bool := fun i j => decide (i ≠ j ∧ ((i + 1) % 5 = j ∨ (j + 1) % 5 = i))
def starE : Nat → Nat → Bool := fun i j => decide (i ≠ j ∧ (i = 0 ∨ j = 0))
theorem full_web (n : Nat) : IsWeb n fullE := ⟨fun i j _ _ => by unfold fullE; rw [decide_eq_decide]; exact ⟨Ne.symm, Ne.symm⟩, fun i _ => by unfold fullE; exact decide_eq_false (by omega)⟩
theorem no_web (n : Nat) : IsWeb n noE := ⟨fun _ _ _ _ => rfl, fun _ _ => rfl⟩
theorem r5_web (n : Nat) : IsWeb n r5E := ⟨fun i j _ _ => by unfold r5E; rw [decide_eq_decide]; omega, fun i _ => by unfold r5E; exact decide_eq_false (by omega)⟩
theorem star_web (n : Nat) : IsWeb n starE := ⟨fun i j _ _ => by unfold starE; rw [decide_eq_decide]; omega, fun i _ => by unfold starE; exact decide_eq_false (by omega)⟩
theorem r5_lit : (web 5 r5E).map V.str = [.str (Str.ofString "-x--x"), .str (Str.ofString "x-x--"), .str (Str.ofString "-x-x-"), .str (Str.ofString "--x-x"), .str (Str.ofString "x--x-")] := rfl
theorem star_lit : (web 3 starE).map V.str = [.str (Str.ofString "-xx"), .str (Str.ofString "x--"), .str (Str.ofString "x--")] := rfl
theorem one_lit : (web 1 noE).map V.str = [.str (Str.ofString "-")] := rfl
theorem two_lit : (web 2 fullE).map V.str = [.str (Str.ofString "-x"), .str (Str.ofString "x-")] := rfl
theorem none_lit : (web 0 noE).map V.str = [] := rfl
theorem sure_add : (sureN 198 199 + sureN 199 198 : Nat) = sureN 199 199 := by
  unfold sureN
  show bin 397 198 + bin 397 199 = bin (397 + 1) (198 + 1)
  exact rfl
theorem full_row (i : Nat) (hi : i < 6) : sgs true i ++ Str.ofString "-" ++ sgs true (5 - i) = row 6 (fullE i) := by
  match i, hi with
  | 0, _ => rfl
  | 1, _ => rfl
  | 2, _ => rfl
  | 3, _ => rfl
  | 4, _ => rfl
  | 5, _ => rfl
theorem eqII (xs : List Int) : PyData.eqv (.list (xs.map PyData.int)) (.list (xs.map PyData.int)) = true := by simp only [PyData.eqv, eqvI, decide_true]
theorem shapedP (a b : Int) : SeqAt.shaped (.tuple ([a, b].map PyData.int)) = true := by
  unfold SeqAt.shaped
  simp only [PyData.canLay0, PyData.depth, canI [a, b], depthI [a, b]]
  rfl
theorem eqP (a b : Int) : PyData.eqv (.tuple ([a, b].map PyData.int)) (.tuple ([a, b].map PyData.int)) = true := by simp only [PyData.eqv, eqvI, decide_true]
theorem full_told {n : Nat} {c : Bool} {ps : List Nat} (h : Told fullE n c ps) (hl : 2 ≤ ps.length) : c = true := by
  match ps, hl, h.pw with
  | p :: q :: _, _, hp =>
    have h1 := List.rel_of_pairwise_cons hp (List.mem_cons_self ..)
    have h2 : fullE p q = true := decide_eq_true (by have := h1.1; omega)
    rw [← h1.2, h2]
theorem no_told {n : Nat} {c : Bool} {ps : List Nat} (h : Told noE n c ps) (hl : 2 ≤ ps.length) : c = false := by
  match ps, hl, h.pw with
  | p :: q :: _, _, hp =>
    have h1 := List.rel_of_pairwise_cons hp (List.mem_cons_self ..)
    exact h1.2.symm
/-- who don't know one another in the web turned know one another -/
theorem pairs_turn {n : Nat} {e : Nat → Nat → Bool} {ns : List Int} (h : rising n (-1) ns = true) (p : Pairs (turnE e) false (nats ns)) : Pairs e true (nats ns) := fun i j hij hj => by
  have h1 := p i j hij hj
  obtain ⟨r1, r2⟩ := rising_iff.mp h
  have hl : (nats ns).length = ns.length := List.length_map ..
  have gi : ∀ k, k < ns.length → (nats ns).getD k 0 = (ns.getD k 0).toNat := fun k hk => by
    unfold nats
    rw [List.getD_eq_getElem?_getD, List.getElem?_map, List.getElem?_eq_getElem hk, List.getD_eq_getElem?_getD, List.getElem?_eq_getElem hk] <;> rfl
  have hi : i < ns.length := by omega
  have hj' : j < ns.length := by omega
  have hlt := List.pairwise_iff_getElem.mp r1 i j hi hj' hij
  have b1 := r2 _ (List.getElem_mem hi)
  have b2 := r2 _ (List.getElem_mem hj')
  rw [gi i hi, gi j hj', List.getD_eq_getElem?_getD, List.getElem?_eq_getElem hi, List.getD_eq_getElem?_getD, List.getElem?_eq_getElem hj'] at h1 ⊢
  have h1' : turnE e (ns[i]).toNat (ns[j]).toNat = false := h1
  show e (ns[i]).toNat (ns[j]).toNat = true
  unfold turnE at h1'
  have hne : (ns[i]).toNat ≠ (ns[j]).toNat := by omega
  rw [decide_eq_true hne, Bool.and_true] at h1'
  simpa using h1'
theorem str_len (x y : Str) : (x ++ y).length = x.length + y.length := by
  show (x.cps ++ y.cps).size = _
  exact Array.size_append
theorem le_of_frac {p q i m : Nat} (h : i = 0 ∨ (i - 1) * q < p) (hm : p ≤ m * q) : i ≤ m := by
  rcases h with h | h
  · omega
  · by_cases hi : i ≤ m
    · exact hi
    · have := Nat.mul_le_mul_right q (show m ≤ i - 1 by omega)
      omega
/-- a web with how many at least -/
def EvG (H : Hp) (x : V) : Prop := ∃ (u t : Addr) (n : Nat) (e : Nat → Nat → Bool) (i j : Nat), x = .ref u ∧ H u = some (.tup [.ref t, .int i, .int j]) ∧ H t = some (.lst ((web n e).map V.str)) ∧ n ≤ 200 ∧ IsWeb n e ∧ (i = 0 ∨ (i - 1) * (frac (degN n e)).2 < (frac (degN n e)).1) ∧ (j = 0 ∨ (j - 1) * (frac (degN n (turnE e))).2 < (frac (degN n (turnE e))).1)
def RG0 (PA : Addr) (Ts : List Addr) (H : Hp) (σ : L2.St) (H' : Hp) : Prop := σ = [some (.int (sureN 199 199 : Nat)), none, none, none, none, none, none, none, none, none, none] ∧ Gr PA Ts H H'
def RGX (PA : Addr) (Ts : List Addr) (H : Hp) (σ : L2.St) (H' : Hp) : Prop := Gr PA Ts H H'
def RG3 (PA : Addr) (Ts : List Addr) (H : Hp) (σ : L2.St) (H' : Hp) : Prop := ∃ (a b : Addr) (x : V), σ = [some x, some (.ref a), some (.ref b), none, none, none, none, none, none, none, none] ∧ Gr PA Ts H H' ∧ H' a = some (.lst ((web 6 fullE).map V.str)) ∧ H' b = some (.lst ((web 6 noE).map V.str))
def RG6 (PA : Addr) (Ts : List Addr) (H : Hp) (σ : L2.St) (H' : Hp) : Prop := ∃ (a b c : Addr) (x : V), σ = [some x, some (.ref a), some (.ref b), some (.ref c), none, none, none, none, none, none, none] ∧ Gr PA Ts H H' ∧ H' a = some (.lst ((web 6 fullE).map V.str)) ∧ H' b = some (.lst ((web 6 noE).map V.str)) ∧ H' c = some (.lst ((web 5 r5E).map V.str))
def RG9 (PA : Addr) (Ts : List Addr) (H : Hp) (σ : L2.St) (H' : Hp) : Prop := ∃ (a b c d : Addr) (x : V), σ = [some x, some (.ref a), some (.ref b), some (.ref c), some (.ref d), none, none, none, none, none, none] ∧ Gr PA Ts H H' ∧ H' a = some (.lst ((web 6 fullE).map V.str)) ∧ H' b = some (.lst ((web 6 noE).map V.str)) ∧ H' c = some (.lst ((web 5 r5E).map V.str)) ∧ H' d = some (.lst ((web 3 starE).map V.str))
section
variable {P : Program} {w : World} {K : PySem.W.Frag} {mg : Str → Option Value} {base : Heap}
abbrev nGr : List Str := ["_law_great", "_law_whole", "_law_none", "_law_ring", "_law_star", "_law_web", "_law_some", "_law_pals", "_law_alone", "_law_all_known", "_law_at"]
theorem scGr : FnScope nGr [] (defScope sGroups) := ⟨rfl, rfl, rfl, by decide +kernel, rfl, by decide +kernel, by decide +kernel⟩
theorem ok_groups {f fS fO fT fM fA fF fK fU CK CU CA PA : Addr} {Ts : List Addr} {fd dS dO dT dM dA dF dK dU : FuncData} (F : Fun K "_law_groups_promises" "_law_groups_promises" sGroups f fd) (B : Bl mg) (hn : PA ∉ Ts)
    (TK : AC K CK) (TU : AC K CU) (gK : mg "Known" = some (.ref CK)) (gU : mg "Unknown" = some (.ref CU)) (IK : IC K CK CU CA)
    (GS : FnOk P w K mg base CX0 3 fS dS ["known", "unknown"] (spSure K)) (cS : Cal K mg "sure" fS dS ["known", "unknown"])
    (GO : FnOk P w K mg base CX0 4 fO dO ["web", "known", "unknown"] (spFound K CK CU)) (cO : Cal K mg "found" fO dO ["web", "known", "unknown"])
    (GT : FnOk P w K mg base CX0 5 fT dT ["_law_web", "_law_known", "_law_unknown"] (spTooFew K)) (cT : Cal K mg "_law_are_too_few" fT dT ["_law_web", "_law_known", "_law_unknown"])
    (GM : FnOk P w K mg base CX0 4 fM dM ["web"] (spProm K)) (cM : Cal K mg "promised" fM dM ["web"])
    (GA : FnOk P w K mg base CX0 5 fA dA ["web"] (spStr K PA CU)) (cA : Cal K mg "strangers" fA dA ["web"])
    (GF : FnOk P w K mg base CX0 5 fF dF ["web"] (spFri K PA Ts CK)) (cF : Cal K mg "friends" fF dF ["web"])
    (GK : FnOk P w K mg base CX0 3 fK dK ["self", "web"] (spShows K CK true)) (mK : Meth K CK "shows" fK) (bK : Binds K dK ["self", "web"] [])
    (GU : FnOk P w K mg base CX0 3 fU dU ["self", "web"] (spShows K CU false)) (mU : Meth K CU "shows" fU) (bU : Binds K dU ["self", "web"] []) :
    FnOk P w K mg base CX0 6 f fd [] (spPR PA Ts) := by
  refine F.ok scGr (fun vs H Q E h => ?_) (fun cdv A outer s H vs Q E hr h => ?_)
  · obtain ⟨rfl, _⟩ := h
    rfl
  · obtain ⟨rfl, hTk, q⟩ := h
    have r1 := hr.mono (j := 1) (by decide)
    have r3 := hr.mono (j := 3) (by decide)
    have r4 := hr.mono (j := 4) (by decide)
    refine ⟨_, pss_cut (RG0 PA Ts H) (ps_set (i := 0) scGr.nd rfl (.inl rfl) (pe_call GS r3 (by rfl) cS.g cS.kp cS.b .nil pass0 (pa_cons pe_int (pa_cons pe_int pa_nil))))
      (pss_cut (RG0 PA Ts H) (ps_if (pt_cmpR (op_neD hr.units) (pe_lst (pa_cons (pe_call GS r3 (by rfl) cS.g cS.kp cS.b .nil pass0 (pa_cons pe_int (pa_cons pe_int pa_nil))) (pa_cons (pe_call GS r3 (by rfl) cS.g cS.kp cS.b .nil pass0 (pa_cons pe_int (pa_cons pe_int pa_nil))) (pa_cons (pe_call GS r3 (by rfl) cS.g cS.kp cS.b .nil pass0 (pa_cons pe_int (pa_cons pe_int pa_nil))) (pa_cons (pe_call GS r3 (by rfl) cS.g cS.kp cS.b .nil pass0 (pa_cons pe_int (pa_cons pe_int pa_nil))) (pa_cons (pe_call GS r3 (by rfl) cS.g cS.kp cS.b .nil pass0 (pa_cons pe_int (pa_cons pe_int pa_nil))) (pa_cons (pe_call GS r3 (by rfl) cS.g cS.kp cS.b .nil pass0 (pa_cons pe_int (pa_cons pe_int pa_nil))) pa_nil)))))))
          (pe_lst (pa_cons pe_int (pa_cons pe_int (pa_cons pe_int (pa_cons pe_int (pa_cons pe_int (pa_cons pe_int pa_nil))))))) (nomark _)) (pss_one ps_never) pss_nil)
      (pss_cut (RG0 PA Ts H) (ps_if (pt_cmpR op_ne (pv 0) (pe_op op_add (pe_call GS r3 (by rfl) cS.g cS.kp cS.b .nil pass0 (pa_cons pe_int (pa_cons pe_int pa_nil))) (pe_call GS r3 (by rfl) cS.g cS.kp cS.b .nil pass0 (pa_cons pe_int (pa_cons pe_int pa_nil)))) (nomark _)) (pss_one ps_never) pss_nil)
      (pss_cut (RG3 PA Ts H) (ps_par (i := 1) (j := 2) rfl scGr.nd rfl rfl (by decide) rfl rfl (pa_cons (pe_lc (own := [("_law_at", 10)]) (g := gName 10) (tt := tYes) rfl scGr.nd (pi_range1 (by rfl) B.range (pa_cons pe_int pa_nil)) (blkOk_by (N := nGr) (sc := defScope sGroups) (by decide +kernel)) (fun _ _ _ _ _ => pg_name (i := 10) scGr.nd rfl (Or.inl rfl)) (fun _ _ _ _ _ => pts_nil)
          (fun _ _ _ _ _ => pe_op op_add_str (pe_op op_add_str (pe_op op_sgn pe_str (pv 10)) pe_str) (pe_op op_sgn pe_str (pe_op op_sub pe_int (pv 10))))) (pa_cons (pe_op op_rep (pe_lst (pa_cons (pe_op op_sgn pe_str pe_int) pa_nil)) pe_int) pa_nil)) rfl)
      (pss_cut (RG3 PA Ts H) (ps_if (PW.pt (pw_or (pt_not (pt_val (pe_callB call_isi (by rfl) B.isi (by decide +kernel) (pa_cons (pe_call GO r4 (by rfl) cO.g cO.kp cO.b .nil pass0 (pa_cons (pv 1) (pa_cons pe_int (pa_cons pe_int pa_nil)))) (pa_cons (pe_glob (v := .ref CK) (by rfl) gK rfl) pa_nil))))) (pw_or1 (pt_not (pt_val (pe_callB call_isi (by rfl) B.isi (by decide +kernel) (pa_cons (pe_call GO r4 (by rfl) cO.g cO.kp cO.b .nil pass0 (pa_cons (pv 2) (pa_cons pe_int (pa_cons pe_int pa_nil)))) (pa_cons (pe_glob (v := .ref CU) (by rfl) gU rfl) pa_nil)))))))) (pss_one ps_never) pss_nil)
      (pss_cut (RG3 PA Ts H) (ps_if (pt_cmpR op_ne (pe_callB call_len_seq (by rfl) B.len PySem.boot_len (pa_cons (pe_fld (pe_call GO r4 (by rfl) cO.g cO.kp cO.b .nil pass0 (pa_cons (pv 1) (pa_cons pe_int (pa_cons pe_int pa_nil)))) rfl) pa_nil)) pe_int (nomark _)) (pss_one ps_never) pss_nil)
      (pss_cut (RG6 PA Ts H) (ps_set (i := 3) scGr.nd rfl (.inl rfl) (pe_lst (pa_cons pe_str (pa_cons pe_str (pa_cons pe_str (pa_cons pe_str (pa_cons pe_str pa_nil)))))))
      (pss_cut (RG6 PA Ts H) (ps_if (PW.pt (pw_or (pt_not (pt_val (pe_call GT hr (by rfl) cT.g cT.kp cT.b .nil pass0 (pa_cons (pv 3) (pa_cons pe_int (pa_cons pe_int pa_nil)))))) (pw_or (pt_val (pe_call GT hr (by rfl) cT.g cT.kp cT.b .nil pass0 (pa_cons (pv 3) (pa_cons pe_int (pa_cons pe_int pa_nil))))) (pw_or1 (pt_val (pe_call GT hr (by rfl) cT.g cT.kp cT.b .nil pass0 (pa_cons (pe_lst (pa_cons pe_str pa_nil)) (pa_cons pe_int (pa_cons pe_int pa_nil))))))))) (pss_one ps_never) pss_nil)
      (pss_cut (RG6 PA Ts H) (ps_if (pt_not (pt_val (pe_call GT hr (by rfl) cT.g cT.kp cT.b .nil pass0 (pa_cons (pe_lst pa_nil) (pa_cons pe_int (pa_cons pe_int pa_nil)))))) (pss_one ps_never) pss_nil)
      (pss_cut (RG9 PA Ts H) (ps_set (i := 4) scGr.nd rfl (.inl rfl) (pe_lst (pa_cons pe_str (pa_cons pe_str (pa_cons pe_str pa_nil)))))
      (pss_cut (RG9 PA Ts H) (ps_if (PW.pt (pw_or (pt_cmpR (op_neD hr.units) (pe_call GM r4 (by rfl) cM.g cM.kp cM.b .nil pass0 (pa_cons (pe_lst pa_nil) pa_nil)) (pe_tup (pa_cons pe_int (pa_cons pe_int pa_nil))) (nomark _)) (pw_or (pt_cmpR (op_neD hr.units) (pe_call GM r4 (by rfl) cM.g cM.kp cM.b .nil pass0 (pa_cons (pe_lst (pa_cons pe_str pa_nil)) pa_nil)) (pe_tup (pa_cons pe_int (pa_cons pe_int pa_nil))) (nomark _))
          (pw_or1 (pt_cmpR (op_neD hr.units) (pe_call GM r4 (by rfl) cM.g cM.kp cM.b .nil pass0 (pa_cons (pe_lst (pa_cons pe_str (pa_cons pe_str pa_nil))) pa_nil)) (pe_tup (pa_cons pe_int (pa_cons pe_int pa_nil))) (nomark _)))))) (pss_one ps_never) pss_nil)
      (pss_cut (RG9 PA Ts H) (ps_if (PW.pt (pw_or (pt_cmpR (op_neD hr.units) (pe_call GM r4 (by rfl) cM.g cM.kp cM.b .nil pass0 (pa_cons (pv 4) pa_nil)) (pe_tup (pa_cons pe_int (pa_cons pe_int pa_nil))) (nomark _)) (pw_or1 (pt_cmpR (op_neD hr.units) (pe_call GM r4 (by rfl) cM.g cM.kp cM.b .nil pass0 (pa_cons (pv 3) pa_nil)) (pe_tup (pa_cons pe_int (pa_cons pe_int pa_nil))) (nomark _))))) (pss_one ps_never) pss_nil)
      (pss_cut (RGX PA Ts H) (ps_for PassesOwn.never rfl (pi_list (pe_lst (pa_cons (pe_tup (pa_cons (pe_lst pa_nil) (pa_cons pe_int (pa_cons pe_int pa_nil)))) (pa_cons (pe_tup (pa_cons (pe_lst (pa_cons pe_str pa_nil)) (pa_cons pe_int (pa_cons pe_int pa_nil)))) (pa_cons (pe_tup (pa_cons (pv 4) (pa_cons pe_int (pa_cons pe_int pa_nil)))) (pa_cons (pe_tup (pa_cons (pv 3) (pa_cons pe_int (pa_cons pe_int pa_nil)))) (pa_cons (pe_tup (pa_cons (pv 1) (pa_cons pe_int (pa_cons pe_int pa_nil)))) (pa_cons (pe_tup (pa_cons (pv 2) (pa_cons pe_int (pa_cons pe_int pa_nil)))) pa_nil)))))))) (pg_tup rfl (pgs_cons (pg_name (i := 5) scGr.nd rfl (.inl rfl)) (pgs_cons (pg_name (i := 6) scGr.nd rfl (.inl rfl)) (pgs_cons (pg_name (i := 7) scGr.nd rfl (.inl rfl)) pgs_nil))))
        (pss_cons (ps_par (i := 8) (j := 9) rfl scGr.nd rfl rfl (by decide) rfl rfl (pa_cons (pe_call GA hr (by rfl) cA.g cA.kp cA.b .nil pass0 (pa_cons (pv 5) pa_nil)) (pa_cons (pe_call GF hr (by rfl) cF.g cF.kp cF.b .nil pass0 (pa_cons (pv 5) pa_nil)) pa_nil)) rfl)
        (pss_one (ps_if (PW.pt (pw_or (pt_not (pt_val (pe_methE (pv 8) TK.cl TU.cl mK mU GK GU r3 bK bU (pa_cons (pv 5) pa_nil)))) (pw_or (pt_not (pt_val (pe_methE (pv 9) TK.cl TU.cl mK mU GK GU r3 bK bU (pa_cons (pv 5) pa_nil)))) (pw_or (pt_cmpR op_lt (pe_callB call_len_seq (by rfl) B.len PySem.boot_len (pa_cons (pe_fld (pv 8) rfl) pa_nil)) (pv 6) (nomark _)) (pw_or1 (pt_cmpR op_lt (pe_callB call_len_seq (by rfl) B.len PySem.boot_len (pa_cons (pe_fld (pv 9) rfl) pa_nil)) (pv 7) (nomark _))))))) (pss_one ps_never) pss_nil))))
      (pss_one (ps_ret pe_bl)))))))))))))), ?_⟩
    have tkG : ∀ {H' : Hp}, Gr PA Ts H H' → Tk PA Ts H' := fun g => g.tk hTk
    refine ⟨?_, ?_⟩
    · exact ⟨200, 200, rfl, by decide, by decide, by decide, by decide, rfl, Gr.refl⟩
    rintro _ H1 ⟨rfl, g1⟩
    refine ⟨?_, ?_⟩
    · refine ⟨1, 5, rfl, by decide, by decide, by decide, by decide, 1, 1, rfl, by decide, by decide, by decide, by decide, 2, 3, rfl, by decide, by decide, by decide, by decide, 3, 3, rfl, by decide, by decide, by decide, by decide, 3, 4, rfl, by decide, by decide, by decide, by decide, 4, 3, rfl, by decide, by decide, by decide, by decide, (by decide : (6 : Nat) ≤ sizeLine), fun p np => ?_⟩
      refine ⟨(by decide : (6 : Nat) ≤ sizeLine), fun p2 np2 => ?_⟩
      have e1 : L2.upd (L2.upd H1 p (.lst ([1, 1, 3, 6, 10, 10].map V.int))) p2 (.lst ([1, 1, 3, 6, 10, 10].map V.int)) p = some (.lst ([1, 1, 3, 6, 10, 10].map V.int)) := same_upd (o := .lst ([1, 1, 3, 6, 10, 10].map V.int)) np2 p _ upd_same
      refine ⟨.list ([1, 1, 3, 6, 10, 10].map PyData.int), .list ([1, 1, 3, 6, 10, 10].map PyData.int), .lst (SqL.of e1) (dpI [1, 1, 3, 6, 10, 10]), .lst (SqL.of upd_same) (dpI [1, 1, 3, 6, 10, 10]), shapedI _, shapedI _, _, rfl, ?_⟩
      rw [eqII]
      exact iteF ⟨rfl, g1.trans (Gr.same ((same_upd np).trans (same_upd np2)))⟩
    clear g1 H1
    rintro _ H1 ⟨rfl, g1⟩
    refine ⟨?_, ?_⟩
    · refine ⟨_, rfl, 199, 200, rfl, by decide, by decide, by decide, by decide, 200, 199, rfl, by decide, by decide, by decide, by decide, _, _, rfl, rfl, rfl, _, rfl, iteNS ?_ ⟨rfl, g1⟩⟩
      exact congrArg V.int (congrArg Int.ofNat sure_add.symm)
    clear g1 H1
    rintro _ H1 ⟨rfl, g1⟩
    refine ⟨?_, ?_⟩
    · refine ⟨6, rfl, by decide, by decide, fun D nD => lc_range (fun i H2 => Same H1 H2 ∧ H2 D = some (.lst (((web 6 fullE).take i).map V.str))) ⟨same_upd nD, upd_same⟩ ?_ ?_⟩
      · rintro i H2 hi ⟨s2, e2⟩
        have hi : i < 6 := by omega
        have lx : ∀ k, (sgs true k).length = k := fun k => row_len _ _
        have l1 : (Str.ofString "-").length = 1 := rfl
        refine ⟨rfl, _, rfl, true, i, rfl, by rw [Int.zero_add], by omega, _, _, rfl, rfl, ?_, _, rfl, _, _, rfl, rfl, true, 5 - i, rfl, ?_, by omega, _, _, rfl, rfl, ?_, _, e2, ?_, fun b o eb => ?_, ?_⟩
        · rw [lx, l1]
          exact Nat.le_of_lt (small1000 (by omega))
        · exact congrArg V.int (show (5 : Int) - (0 + (i : Int)) = ((5 - i : Nat) : Int) by omega)
        · rw [str_len, lx, lx, l1]
          exact Nat.le_of_lt (small1000 (by omega))
        · rw [List.length_map, List.length_take, web_len]
          exact small1000 (by omega)
        · rw [upd_ne (ne_of_none eb nD)]
          exact s2 _ _ eb
        · have et : ((web 6 fullE).take (i + 1)).map V.str = ((web 6 fullE).take i).map V.str ++ [V.str (row 6 (fullE i))] := by
            rw [List.take_add_one, web_at hi, List.map_append] <;> rfl
          rw [upd_same, et, ← full_row i hi] <;> rfl
      · rintro H2 ⟨s2, e2⟩
        rw [List.take_of_length_le (by rw [web_len]; decide)] at e2
        refine ⟨false, 6, rfl, rfl, by decide, (by decide : (1 : Nat) ≤ sizeLine), fun p1 n1 => ⟨p1, 6, _, rfl, rfl, upd_same, by decide, by decide, (by decide : (6 : Nat) ≤ sizeLine), fun p2 n2 => ?_⟩⟩
        have s3 := (same_upd (o := .lst [V.str (sgs false 6)]) n1).trans (same_upd (o := .lst ((web 6 noE).map V.str)) n2)
        exact ⟨_, _, rfl, D, p2, _, rfl, g1.trans (Gr.same (s2.trans s3)), s3 _ _ e2, upd_same⟩
    clear g1 H1
    rintro _ H1 ⟨a, b, x, rfl, g1, ea, eb⟩
    refine ⟨?_, ?_⟩
    · refine ⟨_, rfl, a, 6, 3, 3, fullE, rfl, ⟨SqL.of ea, by decide, full_web 6⟩, by decide, by decide, by decide, by decide, by decide, fun H2 p l dx c ps hT hl s2 nl ep el => ?_⟩
      obtain rfl := full_told hT (by rw [hl]; split <;> decide)
      refine ⟨.ref p, .ref CK, .ref CK, .ref CK, true, rfl, .own CK, .base (.ins ep TK.cl IK.haK IK.hn IK.htk IK.hmK), IK.kk, true, rfl, iteF ?_⟩
      clear el ep nl hl hT
      refine ⟨_, rfl, b, 6, 3, 3, noE, rfl, ⟨SqL.of (s2 _ _ eb), by decide, no_web 6⟩, by decide, by decide, by decide, by decide, by decide, fun H3 p l dx c ps hT hl s3 nl ep el => ?_⟩
      obtain rfl := no_told hT (by rw [hl]; split <;> decide)
      refine ⟨.ref p, .ref CU, .ref CU, .ref CU, true, rfl, .own CU, .base (.ins ep TU.cl IK.haU IK.hn IK.htk IK.hmU), IK.uu, true, rfl, iteF ?_⟩
      have s23 := s2.trans s3
      exact ⟨a, b, x, rfl, g1.trans (Gr.same s23), s23 _ _ ea, s23 _ _ eb⟩
    clear ea eb g1 H1 a b x
    rintro _ H1 ⟨a, b, x, rfl, g1, ea, eb⟩
    refine ⟨?_, ?_⟩
    · refine ⟨_, rfl, a, 6, 3, 3, fullE, rfl, ⟨SqL.of ea, by decide, full_web 6⟩, by decide, by decide, by decide, by decide, by decide, fun H2 p l dx c ps hT hl s2 nl ep el => ?_⟩
      obtain rfl := full_told hT (by rw [hl]; split <;> decide)
      have hl3 : (ps.map natV).length = 3 := by rw [List.length_map]; exact hl
      refine ⟨p, CK, dx, _, .ref l, rfl, ep, TK.cl, TK.no, rfl, l, _, rfl, .inl (SqL.of el), ?_⟩
      rw [hl3]
      exact ⟨rfl, _, rfl, iteNS rfl ⟨a, b, x, rfl, g1.trans (Gr.same s2), s2 _ _ ea, s2 _ _ eb⟩⟩
    clear ea eb g1 H1 a b x
    rintro _ H1 ⟨a, b, x, rfl, g1, ea, eb⟩
    refine ⟨?_, ?_⟩
    · refine ⟨(by decide : (5 : Nat) ≤ sizeLine), fun c nc => ?_⟩
      have s := same_upd (o := .lst [.str (Str.ofString "-x--x"), .str (Str.ofString "x-x--"), .str (Str.ofString "-x-x-"), .str (Str.ofString "--x-x"), .str (Str.ofString "x--x-")]) nc
      exact ⟨a, b, c, x, rfl, g1.trans (Gr.same s), s _ _ ea, s _ _ eb, by rw [r5_lit]; exact upd_same⟩
    clear ea eb g1 H1 a b x
    rintro _ H1 ⟨a, b, c, x, rfl, g1, ea, eb, ec⟩
    refine ⟨?_, ?_⟩
    · refine ⟨_, rfl, c, 5, 3, 3, r5E, rfl, ⟨SqL.of ec, by decide, r5_web 5⟩, by decide, by decide, by decide, by decide, fun H2 s2 => ⟨true, rfl, iteF ?_⟩⟩
      refine ⟨_, rfl, c, 5, 2, 3, r5E, rfl, ⟨SqL.of (s2 _ _ ec), by decide, r5_web 5⟩, by decide, by decide, by decide, by decide, fun H3 s3 => ⟨false, rfl, iteF ?_⟩⟩
      refine ⟨(by decide : (1 : Nat) ≤ sizeLine), fun t nt => ⟨t, 1, 1, 200, noE, rfl, ⟨SqL.of (by rw [one_lit]; exact upd_same), by decide, no_web 1⟩, by decide, by decide, by decide, by decide, fun H4 s4 => ⟨false, rfl, iteF ?_⟩⟩⟩
      have s := s2.trans (s3.trans ((same_upd nt).trans s4))
      exact ⟨a, b, c, x, rfl, g1.trans (Gr.same s), s _ _ ea, s _ _ eb, s _ _ ec⟩
    clear ea eb ec g1 H1 a b c x
    rintro _ H1 ⟨a, b, c, x, rfl, g1, ea, eb, ec⟩
    refine ⟨?_, ?_⟩
    · refine ⟨by decide, fun t nt => ⟨t, 0, 1, 1, noE, rfl, ⟨SqL.of (by rw [none_lit]; exact upd_same), by decide, no_web 0⟩, by decide, by decide, by decide, by decide, fun H4 s4 => ⟨true, rfl, iteF ?_⟩⟩⟩
      have s := (same_upd nt).trans s4
      exact ⟨a, b, c, x, rfl, g1.trans (Gr.same s), s _ _ ea, s _ _ eb, s _ _ ec⟩
    clear ea eb ec g1 H1 a b c x
    rintro _ H1 ⟨a, b, c, x, rfl, g1, ea, eb, ec⟩
    refine ⟨?_, ?_⟩
    · refine ⟨(by decide : (3 : Nat) ≤ sizeLine), fun d nd => ?_⟩
      have s := same_upd (o := .lst [.str (Str.ofString "-xx"), .str (Str.ofString "x--"), .str (Str.ofString "x--")]) nd
      exact ⟨a, b, c, d, x, rfl, g1.trans (Gr.same s), s _ _ ea, s _ _ eb, s _ _ ec, by rw [star_lit]; exact upd_same⟩
    clear ea eb ec g1 H1 a b c x
    rintro _ H1 ⟨a, b, c, d, x, rfl, g1, ea, eb, ec, ed⟩
    have pr : ∀ {H' : Hp} {t u : Addr} {n : Nat} {e : Nat → Nat → Bool} {i j : Nat}, H' t = some (.tup (prV n e)) → red (frac (degN n e)) = (i, j) → H' u = some (.tup [.int i, .int j]) → Dp K H' (.ref t) (.tuple ([(i : Int), (j : Int)].map PyData.int)) ∧ Dp K H' (.ref u) (.tuple ([(i : Int), (j : Int)].map PyData.int)) := fun et h eu => by
      unfold prV at et
      rw [h] at et
      exact ⟨.tup (SqT.of et) (.cons (.int _) (.cons (.int _) .nil)), .tup (SqT.of eu) (.cons (.int _) (.cons (.int _) .nil))⟩
    refine ⟨?_, ?_⟩
    · refine ⟨by decide, fun t nt => ⟨t, 0, noE, rfl, ⟨SqL.of (by rw [none_lit]; exact upd_same), by decide, no_web 0⟩, fun H2 t2 s2 n2 e2 => ⟨(by decide : (2 : Nat) ≤ sizeLine), fun u nu => ?_⟩⟩⟩
      have s3 := same_upd (o := .tup [.int 0, .int 1]) nu
      obtain ⟨d1, d2⟩ := pr (i := 0) (j := 1) (s3 _ _ e2) (by decide) upd_same
      refine ⟨_, _, d1, d2, shapedP _ _, shapedP _ _, _, rfl, ?_⟩
      rw [eqP]
      refine iteF ?_
      have s13 := (same_upd nt).trans (s2.trans s3)
      clear d1 d2 e2 n2
      generalize L2.upd H2 u (.tup [.int 0, .int 1]) = H3 at s13 ⊢
      clear s3 nu u s2 t2 H2 nt t
      refine ⟨(by decide : (1 : Nat) ≤ sizeLine), fun t nt => ⟨t, 1, noE, rfl, ⟨SqL.of (by rw [one_lit]; exact upd_same), by decide, no_web 1⟩, fun H2 t2 s2 n2 e2 => ⟨(by decide : (2 : Nat) ≤ sizeLine), fun u nu => ?_⟩⟩⟩
      have s4 := same_upd (o := .tup [.int 1, .int 1]) nu
      obtain ⟨d1, d2⟩ := pr (i := 1) (j := 1) (s4 _ _ e2) (by decide) upd_same
      refine ⟨_, _, d1, d2, shapedP _ _, shapedP _ _, _, rfl, ?_⟩
      rw [eqP]
      refine iteF ?_
      have s14 := s13.trans ((same_upd nt).trans (s2.trans s4))
      clear d1 d2 e2 n2
      generalize L2.upd H2 u (.tup [.int 1, .int 1]) = H4 at s14 ⊢
      clear s4 nu u s2 t2 H2 nt t s13 H3
      refine ⟨(by decide : (2 : Nat) ≤ sizeLine), fun t nt => ⟨t, 2, fullE, rfl, ⟨SqL.of (by rw [two_lit]; exact upd_same), by decide, full_web 2⟩, fun H2 t2 s2 n2 e2 => ⟨(by decide : (2 : Nat) ≤ sizeLine), fun u nu => ?_⟩⟩⟩
      have s4 := same_upd (o := .tup [.int 1, .int 1]) nu
      obtain ⟨d1, d2⟩ := pr (i := 1) (j := 1) (s4 _ _ e2) (by decide) upd_same
      refine ⟨_, _, d1, d2, shapedP _ _, shapedP _ _, _, rfl, ?_⟩
      rw [eqP]
      refine iteF ?_
      have s := s14.trans ((same_upd nt).trans (s2.trans s4))
      exact ⟨a, b, c, d, x, rfl, g1.trans (Gr.same s), s _ _ ea, s _ _ eb, s _ _ ec, s _ _ ed⟩
    clear ea eb ec ed g1 H1 a b c d x
    rintro _ H1 ⟨a, b, c, d, x, rfl, g1, ea, eb, ec, ed⟩
    refine ⟨?_, ?_⟩
    · refine ⟨_, rfl, d, 3, starE, rfl, ⟨SqL.of ed, by decide, star_web 3⟩, fun H2 t2 s2 n2 e2 => ⟨(by decide : (2 : Nat) ≤ sizeLine), fun u nu => ?_⟩⟩
      have s4 := same_upd (o := .tup [.int 4, .int 3]) nu
      obtain ⟨d1, d2⟩ := pr (i := 4) (j := 3) (s4 _ _ e2) (by decide) upd_same
      refine ⟨_, _, d1, d2, shapedP _ _, shapedP _ _, _, rfl, ?_⟩
      rw [eqP]
      refine iteF ?_
      have s14 := s2.trans s4
      clear d1 d2 e2 n2
      generalize L2.upd H2 u (.tup [.int 4, .int 3]) = H4 at s14 ⊢
      clear s4 nu u s2 t2 H2
      refine ⟨_, rfl, c, 5, r5E, rfl, ⟨SqL.of (s14 _ _ ec), by decide, r5_web 5⟩, fun H2 t2 s2 n2 e2 => ⟨(by decide : (2 : Nat) ≤ sizeLine), fun u nu => ?_⟩⟩
      have s4 := same_upd (o := .tup [.int 5, .int 3]) nu
      obtain ⟨d1, d2⟩ := pr (i := 5) (j := 3) (s4 _ _ e2) (by decide) upd_same
      refine ⟨_, _, d1, d2, shapedP _ _, shapedP _ _, _, rfl, ?_⟩
      rw [eqP]
      refine iteF ?_
      have s := s14.trans (s2.trans s4)
      exact ⟨a, b, c, d, x, rfl, g1.trans (Gr.same s), s _ _ ea, s _ _ eb, s _ _ ec, s _ _ ed⟩
    clear ea eb ec ed g1 H1 a b c d x
    rintro _ H1 ⟨a, b, c, d, x, rfl, g1, ea, eb, ec, ed⟩
    refine ⟨?_, ?_⟩
    · refine ⟨by decide, fun t0 n0 => ⟨(by decide : (3 : Nat) ≤ sizeLine), fun u0 m0 => ?_⟩⟩
      have sA := (same_upd (o := .lst []) n0).trans (same_upd (o := .tup [.ref t0, .int 0, .int 0]) m0)
      have f0 : L2.upd (L2.upd H1 t0 (.lst [])) u0 (.tup [.ref t0, .int 0, .int 0]) u0 = some (.tup [.ref t0, .int 0, .int 0]) := upd_same
      have e0 := (same_upd (o := .tup [.ref t0, .int 0, .int 0]) m0) t0 (.lst []) upd_same
      generalize L2.upd (L2.upd H1 t0 (.lst [])) u0 (.tup [.ref t0, .int 0, .int 0]) = J0 at sA f0 e0 ⊢
      refine ⟨(by decide : (1 : Nat) ≤ sizeLine), fun t1 n1 => ⟨(by decide : (3 : Nat) ≤ sizeLine), fun u1 m1 => ?_⟩⟩
      have sB := (same_upd (o := .lst [.str (Str.ofString "-")]) n1).trans (same_upd (o := .tup [.ref t1, .int 1, .int 1]) m1)
      have f1 : L2.upd (L2.upd J0 t1 (.lst [.str (Str.ofString "-")])) u1 (.tup [.ref t1, .int 1, .int 1]) u1 = some (.tup [.ref t1, .int 1, .int 1]) := upd_same
      have e1 := (same_upd (o := .tup [.ref t1, .int 1, .int 1]) m1) t1 (.lst [.str (Str.ofString "-")]) upd_same
      generalize L2.upd (L2.upd J0 t1 (.lst [.str (Str.ofString "-")])) u1 (.tup [.ref t1, .int 1, .int 1]) = J1 at sB f1 e1 ⊢
      refine ⟨_, rfl, (by decide : (3 : Nat) ≤ sizeLine), fun u2 m2 => ?_⟩
      have sC := same_upd (o := .tup [.ref d, .int 2, .int 2]) m2
      have f2 : L2.upd J1 u2 (.tup [.ref d, .int 2, .int 2]) u2 = some (.tup [.ref d, .int 2, .int 2]) := upd_same
      generalize L2.upd J1 u2 (.tup [.ref d, .int 2, .int 2]) = J2 at sC f2 ⊢
      refine ⟨_, rfl, (by decide : (3 : Nat) ≤ sizeLine), fun u3 m3 => ?_⟩
      have sD := same_upd (o := .tup [.ref c, .int 2, .int 2]) m3
      have f3 : L2.upd J2 u3 (.tup [.ref c, .int 2, .int 2]) u3 = some (.tup [.ref c, .int 2, .int 2]) := upd_same
      generalize L2.upd J2 u3 (.tup [.ref c, .int 2, .int 2]) = J3 at sD f3 ⊢
      refine ⟨_, rfl, (by decide : (3 : Nat) ≤ sizeLine), fun u4 m4 => ?_⟩
      have sE := same_upd (o := .tup [.ref a, .int 1, .int 6]) m4
      have f4 : L2.upd J3 u4 (.tup [.ref a, .int 1, .int 6]) u4 = some (.tup [.ref a, .int 1, .int 6]) := upd_same
      generalize L2.upd J3 u4 (.tup [.ref a, .int 1, .int 6]) = J4 at sE f4 ⊢
      refine ⟨_, rfl, (by decide : (3 : Nat) ≤ sizeLine), fun u5 m5 => ?_⟩
      have sF := same_upd (o := .tup [.ref b, .int 6, .int 1]) m5
      have f5 : L2.upd J4 u5 (.tup [.ref b, .int 6, .int 1]) u5 = some (.tup [.ref b, .int 6, .int 1]) := upd_same
      generalize L2.upd J4 u5 (.tup [.ref b, .int 6, .int 1]) = J5 at sF f5 ⊢
      refine ⟨(by decide : (6 : Nat) ≤ sizeLine), fun D nD => ?_⟩
      have sG := same_upd (o := .lst [.ref u0, .ref u1, .ref u2, .ref u3, .ref u4, .ref u5]) nD
      have eD : L2.upd J5 D (.lst [.ref u0, .ref u1, .ref u2, .ref u3, .ref u4, .ref u5]) D = some (.lst [.ref u0, .ref u1, .ref u2, .ref u3, .ref u4, .ref u5]) := upd_same
      generalize L2.upd J5 D (.lst [.ref u0, .ref u1, .ref u2, .ref u3, .ref u4, .ref u5]) = J6 at sG eD ⊢
      have s56 := sF.trans sG
      have s46 := sE.trans s56
      have s36 := sD.trans s46
      have s26 := sC.trans s36
      have s16 := sB.trans s26
      have sAll := sA.trans s16
      have hev : ∀ x ∈ [V.ref u0, .ref u1, .ref u2, .ref u3, .ref u4, .ref u5], EvG J6 x := fun x hx => by
        simp only [List.mem_cons, List.not_mem_nil, or_false] at hx
        rcases hx with rfl | rfl | rfl | rfl | rfl | rfl
        · exact ⟨u0, t0, 0, noE, 0, 0, rfl, s16 _ _ f0, s16 _ _ e0, by decide, no_web 0, .inl rfl, .inl rfl⟩
        · exact ⟨u1, t1, 1, noE, 1, 1, rfl, s26 _ _ f1, s26 _ _ e1, by decide, no_web 1, by decide, by decide⟩
        · exact ⟨u2, d, 3, starE, 2, 2, rfl, s36 _ _ f2, sAll _ _ ed, by decide, star_web 3, by decide, by decide⟩
        · exact ⟨u3, c, 5, r5E, 2, 2, rfl, s46 _ _ f3, sAll _ _ ec, by decide, r5_web 5, by decide, by decide⟩
        · exact ⟨u4, a, 6, fullE, 1, 6, rfl, s56 _ _ f4, sAll _ _ ea, by decide, full_web 6, by decide, by decide⟩
        · exact ⟨u5, b, 6, noE, 6, 1, rfl, sG _ _ f5, sAll _ _ eb, by decide, no_web 6, by decide, by decide⟩
      have g6 := g1.trans (Gr.same sAll)
      clear sA sB sC sD sE sF sG s56 s46 s36 s26 s16 f0 f1 f2 f3 f4 f5 e0 e1 n0 m0 n1 m1 m2 m3 m4 m5 nD
      refine ⟨D, rfl, ⟨_, SqL.of eD⟩, for_list (K := K) (xs := [.ref u0, .ref u1, .ref u2, .ref u3, .ref u4, .ref u5]) (fun i σ H' => ∃ y5 y6 y7 y8 y9, σ = [some x, some (.ref a), some (.ref b), some (.ref c), some (.ref d), y5, y6, y7, y8, y9, none] ∧ Gr PA Ts J6 H') ⟨_, _, _, _, _, rfl, Gr.refl⟩ (fun i σ H' _ ⟨_, _, _, _, _, _, g'⟩ => SqL.of (g'.lst eD)) ?_ ?_⟩
      · rintro i y σ H' hy ⟨y5, y6, y7, y8, y9, rfl, g'⟩
        obtain ⟨u, t, n, e, i0, j0, rfl, eu, et, n2, W, c1, c2⟩ := hev y (List.mem_of_getElem? hy)
        have eu := g'.tup eu
        have et := g'.lst et
        have tk := g'.tk (g6.tk hTk)
        refine ⟨u, _, rfl, SqT.of eu, rfl, _, _, rfl, _, _, rfl, _, _, rfl, rfl, ?_⟩
        refine ⟨_, rfl, t, n, e, rfl, ⟨SqL.of et, n2, W⟩, tk.tl, fun H2 p1 l1 d1 ns1 b1 t1 np1 nl1 ch1 ep1 el1 => ?_⟩
        have g2 := Gr.str hn tk b1 t1
        have tk2 := g2.tk tk
        have et := g2.lst et
        refine ⟨_, rfl, t, n, e, rfl, ⟨SqL.of et, n2, W⟩, tk2.tl, tk2.tb, fun H3 p2 l2 d2 ns2 b2 np2 nl2 ch2 ep2 el2 => ?_⟩
        have g3 := Gr.fri tk2 b2
        have et := g3.lst et
        have ep1 := g3.ins ep1
        have el1 := g3.lst el1
        have G1 := ch1.good W
        have G2 := ch2.good (turn_web W)
        have h1 : i0 ≤ ns1.length := le_of_frac c1 G1.many
        have h2 : j0 ≤ ns2.length := le_of_frac c2 G2.many
        refine ⟨_, _, rfl, ?_⟩
        refine ⟨_, rfl, p1, d1, [("people", .ref l1)], rfl, rfl, .inr ⟨ep1, .ref t, rfl, p1, t, l1, d1, ns1, n, e, rfl, ep1, SqL.of el1, SqL.of et, n2, fun r3 H4 hr3 s4 => ?_⟩⟩
        obtain rfl := hr3.mpr ⟨G1.rise, G1.prs⟩
        refine ⟨true, rfl, iteF ?_⟩
        have ep2 := s4 _ _ ep2
        have el2 := s4 _ _ el2
        have et := s4 _ _ et
        refine ⟨_, rfl, p2, d2, [("people", .ref l2)], rfl, rfl, .inl ⟨ep2, .ref t, rfl, p2, t, l2, d2, ns2, n, e, rfl, ep2, SqL.of el2, SqL.of et, n2, fun r4 H5 hr4 s5 => ?_⟩⟩
        obtain rfl := hr4.mpr ⟨G2.rise, pairs_turn G2.rise G2.prs⟩
        refine ⟨true, rfl, iteF ?_⟩
        have s45 := s4.trans s5
        refine ⟨_, rfl, p1, CU, d1, _, .ref l1, rfl, s45 _ _ ep1, TU.cl, TU.no, rfl, l1, _, rfl, .inl (SqL.of (s45 _ _ el1)), _, rfl, ?_⟩
        refine ⟨_, _, rfl, rfl, false, congrArg V.bl (decide_eq_false (by rw [List.length_map]; omega)), iteF ?_⟩
        refine ⟨_, rfl, p2, CK, d2, _, .ref l2, rfl, s5 _ _ ep2, TK.cl, TK.no, rfl, l2, _, rfl, .inl (SqL.of (s5 _ _ el2)), _, rfl, _, _, rfl, rfl, false, congrArg V.bl (decide_eq_false (by rw [List.length_map]; omega)), iteF ?_⟩
        exact ⟨_, _, _, _, _, rfl, g'.trans (g2.trans (g3.trans (Gr.same s45)))⟩
      · rintro σ H' ⟨y5, y6, y7, y8, y9, rfl, g'⟩
        exact g6.trans g'
    rintro _ H1 g1
    exact q _ g1
end
end AK
set_option Elab.async false
set_option linter.all false
set_option maxRecDepth 100000
set_option maxHeartbeats 16000000
namespace AK
open PySem PySem.Spec PyProof.Rows L2
/-- a test of each two -/
def pairsB (e : Nat → Nat → Bool) (c : Bool) (ps : List Nat) : Bool := (List.range ps.length).all fun j => (List.range j).all fun i => e (ps.getD i 0) (ps.getD j 0) == c
theorem pairsB_iff {e : Nat → Nat → Bool} {c : Bool} {ps : List Nat} : pairsB e c ps = true ↔ Pairs e c ps := by
  unfold pairsB Pairs
  simp only [List.all_eq_true, List.mem_range, beq_iff_eq]
  exact ⟨fun h i j hij hj => h j hj i hij, fun h j hj i hij => h i j hij hj⟩
def sayB (n : Int) (e : Nat → Nat → Bool) (c : Bool) (ps : List Int) : Bool := rising n (-1) ps && pairsB e c (nats ps)
theorem says_eq {r : Bool} {n : Int} {e : Nat → Nat → Bool} {c : Bool} {ps : List Int} (h : r = true ↔ rising n (-1) ps = true ∧ Pairs e c (nats ps)) : r = sayB n e c ps := by
  unfold sayB
  rw [← pairsB_iff] at h
  cases h1 : rising n (-1) ps <;> cases h2 : pairsB e c (nats ps) <;> cases r <;> simp_all
theorem shapedW (n : Nat) (e : Nat → Nat → Bool) : SeqAt.shaped (.list ((web n e).map PyData.str)) = true := shapedS fun b hb => by
  obtain ⟨i, _, rfl⟩ := web_mem hb
  exact row_ok _ _
theorem eqSS (ws : List Str) : PyData.eqv (.list (ws.map PyData.str)) (.list (ws.map PyData.str)) = true := by simp only [PyData.eqv, eqvS, decide_true]
theorem r5_none (i j k : Nat) (h1 : i < j) (h2 : j < k) (h3 : k < min 5 6) : ¬ Mono r5E i j k :=
  (by unfold Mono; decide : ∀ k, k < 5 → ∀ j, j < k → ∀ i, i < j → ¬ Mono r5E i j k) k (by omega) j h2 i h1
theorem two_turn : web 2 (turnE fullE) = web 2 noE := rfl
theorem two_lit0 : (web 2 noE).map V.str = [.str (Str.ofString "--"), .str (Str.ofString "--")] := rfl
theorem r5_turn : web 5 (turnE (turnE r5E)) = web 5 r5E := rfl
theorem one_turn : web 1 (turnE noE) = web 1 noE := rfl
theorem none_turn : web 0 (turnE noE) = [] := rfl
theorem r5_degs : degs 5 r5E = [2, 2, 2, 2, 2] := rfl
def fewL : List Int := [0, 0, 0, 0, 0, 0, 2, 4, 8, 12]
theorem few_list : (List.range 10).map (fun k : Nat => fewestN k) = fewL := by decide
theorem few_at {i : Nat} (h : i < 10) : fewL[i]? = some (fewestN i) := by
  rw [← few_list, List.getElem?_map, List.getElem?_range h] <;> rfl
def halfZ : Int := 5 * 10 ^ 29
theorem few_great : fewestN (2 * halfZ) = halfZ * (halfZ - 1) * (halfZ - 2) / 3 := by decide
/-- a case: people, a web, what both kinds say -/
def EvC (H : Hp) (x : V) : Prop := ∃ (u t w : Addr) (ps : List Int) (n : Nat) (e : Nat → Nat → Bool), x = .ref u ∧ H u = some (.tup [.ref t, .ref w, .bl (sayB n e true ps), .bl (sayB n e false ps)]) ∧ H t = some (.lst (ps.map V.int)) ∧ H w = some (.lst ((web n e).map V.str)) ∧ n ≤ 200
theorem EvC.same {H H' : Hp} {x : V} (s : Same H H') : EvC H x → EvC H' x := fun ⟨u, t, w, ps, n, e, a, b, c, d, f⟩ => ⟨u, t, w, ps, n, e, a, s _ _ b, s _ _ c, s _ _ d, f⟩
/-- a case is made -/
theorem EvC.new {H : Hp} {w : Addr} {n : Nat} {e : Nat → Nat → Bool} {o : HO} {zs : List V} (ps : List Int) {k u : Bool} (hw : H w = some (.lst ((web n e).map V.str))) (hn : n ≤ 200) {t q : Addr} (nt : H t = none) (nq : L2.upd H t o q = none) (ho : o = .lst (ps.map V.int)) (hz : zs = [.ref t, .ref w, .bl k, .bl u]) (hk : k = sayB n e true ps) (hu : u = sayB n e false ps) :
    Same H (L2.upd (L2.upd H t o) q (.tup zs)) ∧ EvC (L2.upd (L2.upd H t o) q (.tup zs)) (.ref q) := by
  subst ho hz hk hu
  have s1 := same_upd (o := .lst (ps.map V.int)) nt
  have s2 := same_upd (o := .tup [.ref t, .ref w, .bl (sayB n e true ps), .bl (sayB n e false ps)]) nq
  exact ⟨s1.trans s2, q, t, w, ps, n, e, rfl, upd_same, s2 _ _ upd_same, s2 _ _ (s1 _ _ hw), hn⟩
abbrev WB (a b : Addr) (H' : Hp) : Prop := H' a = some (.lst ((web 5 r5E).map V.str)) ∧ H' b = some (.lst ((web 2 fullE).map V.str))
def RP0 (PA : Addr) (Ts : List Addr) (H : Hp) (σ : L2.St) (H' : Hp) : Prop := ∃ (a b : Addr), σ = [some (.ref a), some (.ref b), none, none, none, none, none, none, none] ∧ Gr PA Ts H H' ∧ WB a b H'
def RP5 (PA : Addr) (Ts : List Addr) (H : Hp) (σ : L2.St) (H' : Hp) : Prop := ∃ (a b : Addr), σ = [some (.ref a), some (.ref b), some (.int halfZ), none, none, none, none, none, none] ∧ Gr PA Ts H H' ∧ WB a b H'
def RP8 (PA : Addr) (Ts : List Addr) (H : Hp) (σ : L2.St) (H' : Hp) : Prop := ∃ (a b : Addr) (y2 y3 y4 : Option V), σ = [some (.ref a), some (.ref b), y2, y3, y4, none, none, none, none] ∧ Gr PA Ts H H' ∧ WB a b H'
def RPC (k : Nat) (PA : Addr) (Ts : List Addr) (H : Hp) (σ : L2.St) (H' : Hp) : Prop := ∃ (a b D : Addr) (y2 y3 y4 : Option V) (xs : List V), σ = [some (.ref a), some (.ref b), y2, y3, y4, some (.ref D), none, none, none] ∧ Gr PA Ts H H' ∧ WB a b H' ∧ H' D = some (.lst xs) ∧ xs.length ≤ k ∧ ∀ x ∈ xs, EvC H' x
def RPX (PA : Addr) (Ts : List Addr) (H : Hp) (σ : L2.St) (H' : Hp) : Prop := Gr PA Ts H H'
section
variable {P : Program} {w : World} {K : PySem.W.Frag} {mg : Str → Option Value} {base : Heap}
abbrev nPm : List Str := ["_law_ring", "_law_two", "_law_half", "_law_size", "_law_web", "_law_cases", "_law_people", "_law_known", "_law_unknown"]
theorem scPm : FnScope nPm [] (defScope sPromises) := ⟨rfl, rfl, rfl, by decide +kernel, rfl, by decide +kernel, by decide +kernel⟩
theorem ok_promises {f fG fT fU fA f3 fF fO fK fW fI fJ CK CU PA : Addr} {Ts : List Addr} {fd dG dT dU dA d3 dF dO dK dW dI dJ : FuncData} (F : Fun K "_law_promises_right" "_law_promises_right" sPromises f fd) (B : Bl mg) (hn : PA ∉ Ts)
    (TK : AC K CK) (TU : AC K CU) (gK : mg "Known" = some (.ref CK)) (gU : mg "Unknown" = some (.ref CU))
    (MK : Mk K CK fI) (FI : Fun K "__init__" "Known.__init__" sInitK fI dI) (bI : Binds K dI ["self", "people"] []) (MU : Mk K CU fJ) (FJ : Fun K "__init__" "Unknown.__init__" sInitU fJ dJ) (bJ : Binds K dJ ["self", "people"] [])
    (GG : FnOk P w K mg base CX0 6 fG dG [] (spPR PA Ts)) (cG : Cal K mg "_law_groups_promises" fG dG [])
    (GT : FnOk P w K mg base CX0 3 fT dT ["web"] (spTies K)) (cT : Cal K mg "ties" fT dT ["web"])
    (GU : FnOk P w K mg base CX0 3 fU dU ["web"] (spTurned K Ts)) (cU : Cal K mg "turned" fU dU ["web"])
    (GA : FnOk P w K mg base CX0 4 fA dA ["web"] (spAlike K Ts)) (cA : Cal K mg "alike" fA dA ["web"])
    (G3 : FnOk P w K mg base CX0 3 f3 d3 ["web"] (spThree K CK CU)) (c3 : Cal K mg "three" f3 d3 ["web"])
    (GF : FnOk P w K mg base CX0 3 fF dF ["size"] (spFewest K)) (cF : Cal K mg "fewest" fF dF ["size"])
    (GO : FnOk P w K mg base CX0 3 fO dO ["size"] (spWebOf K Ts)) (cO : Cal K mg "web_of" fO dO ["size"])
    (GK : FnOk P w K mg base CX0 3 fK dK ["self", "web"] (spShows K CK true)) (mK : Meth K CK "shows" fK) (bK : Binds K dK ["self", "web"] [])
    (GW : FnOk P w K mg base CX0 3 fW dW ["self", "web"] (spShows K CU false)) (mU : Meth K CU "shows" fW) (bU : Binds K dW ["self", "web"] []) :
    FnOk P w K mg base CX0 7 f fd [] (spPR PA Ts) := by
  have GI : FnOk P w K mg base CX0 1 fI dI ["self", "people"] (spInit K CK) := ok_initK FI TK B
  have GJ : FnOk P w K mg base CX0 1 fJ dJ ["self", "people"] (spInit K CU) := ok_initU FJ TU B
  refine F.ok scPm (fun vs H Q E h => ?_) (fun cdv A outer s H vs Q E hr h => ?_)
  · obtain ⟨rfl, _⟩ := h
    rfl
  · obtain ⟨rfl, hTk, q⟩ := h
    have r2 := hr.mono (j := 2) (by decide)
    have r3 := hr.mono (j := 3) (by decide)
    have r4 := hr.mono (j := 4) (by decide)
    refine ⟨_, pss_cut (RP0 PA Ts H) (ps_par (i := 0) (j := 1) rfl scPm.nd rfl rfl (by decide) rfl rfl (pa_cons (pe_lst (pa_cons pe_str (pa_cons pe_str (pa_cons pe_str (pa_cons pe_str (pa_cons pe_str pa_nil)))))) (pa_cons (pe_lst (pa_cons pe_str (pa_cons pe_str pa_nil))) pa_nil)) rfl)
      (pss_cut (RP0 PA Ts H) (ps_if (PW.pt (pw_or (pt_cmpR (op_neD hr.units) (pe_call GT r3 (by rfl) cT.g cT.kp cT.b .nil pass0 (pa_cons (pe_lst pa_nil) pa_nil)) (pe_lst pa_nil) (nomark _)) (pw_or (pt_cmpR (op_neD hr.units) (pe_call GU r3 (by rfl) cU.g cU.kp cU.b .nil pass0 (pa_cons (pe_lst pa_nil) pa_nil)) (pe_lst pa_nil) (nomark _))
          (pw_or (pt_cmpR (op_neD hr.units) (pe_call GU r3 (by rfl) cU.g cU.kp cU.b .nil pass0 (pa_cons (pv 1) pa_nil)) (pe_lst (pa_cons pe_str (pa_cons pe_str pa_nil))) (nomark _)) (pw_or1 (pt_cmpR (op_neD hr.units) (pe_call GU r3 (by rfl) cU.g cU.kp cU.b .nil pass0 (pa_cons (pe_call GU r3 (by rfl) cU.g cU.kp cU.b .nil pass0 (pa_cons (pv 0) pa_nil)) pa_nil)) (pv 0) (nomark _))))))) (pss_one ps_never) pss_nil)
      (pss_cut (RP0 PA Ts H) (ps_if (PW.pt (pw_or (pt_cmpR (op_neD hr.units) (pe_call GT r3 (by rfl) cT.g cT.kp cT.b .nil pass0 (pa_cons (pv 0) pa_nil)) (pe_op op_rep (pe_lst (pa_cons pe_int pa_nil)) pe_int) (nomark _)) (pw_or1 (pt_cmpR (op_neD hr.units) (pe_call GU r3 (by rfl) cU.g cU.kp cU.b .nil pass0 (pa_cons (pe_lst (pa_cons pe_str pa_nil)) pa_nil)) (pe_lst (pa_cons pe_str pa_nil)) (nomark _))))) (pss_one ps_never) pss_nil)
      (pss_cut (RP0 PA Ts H) (ps_if (PW.pt (pw_or (pt_cmpR op_ne (pe_call GA r4 (by rfl) cA.g cA.kp cA.b .nil pass0 (pa_cons (pe_lst pa_nil) pa_nil)) pe_int (nomark _)) (pw_or (pt_cmpR op_notN (pe_call G3 r3 (by rfl) c3.g c3.kp c3.b .nil pass0 (pa_cons (pe_lst pa_nil) pa_nil)) pe_non (nomark _)) (pw_or (pt_cmpR op_notN (pe_call G3 r3 (by rfl) c3.g c3.kp c3.b .nil pass0 (pa_cons (pv 1) pa_nil)) pe_non (nomark _))
          (pw_or1 (pt_cmpR op_ne (pe_call GA r4 (by rfl) cA.g cA.kp cA.b .nil pass0 (pa_cons (pv 0) pa_nil)) pe_int (nomark _))))))) (pss_one ps_never) pss_nil)
      (pss_cut (RP0 PA Ts H) (ps_if (PW.pt (pw_or (pt_cmpR op_notN (pe_call G3 r3 (by rfl) c3.g c3.kp c3.b .nil pass0 (pa_cons (pv 0) pa_nil)) pe_non (nomark _)) (pw_or1 (pt_cmpR op_ne (pe_call GA r4 (by rfl) cA.g cA.kp cA.b .nil pass0 (pa_cons (pe_op op_rep (pe_lst (pa_cons pe_str pa_nil)) pe_int) pa_nil)) pe_int (nomark _))))) (pss_one ps_never) pss_nil)
      (pss_cut (RP5 PA Ts H) (ps_set (i := 2) scPm.nd rfl (.inl rfl) (pe_op op_mulW pe_int (pe_op op_pow pe_int pe_int)))
      (pss_cut (RP5 PA Ts H) (ps_if (pt_cmpR (op_neD hr.units) (pe_lc (own := [("_law_size", 3)]) (g := gName 3) (tt := tYes) rfl scPm.nd (pi_range1 (by rfl) B.range (pa_cons pe_int pa_nil)) (blkOk_by (N := nPm) (sc := defScope sPromises) (by decide +kernel)) (fun _ _ _ _ _ => pg_name (i := 3) scPm.nd rfl (Or.inl rfl)) (fun _ _ _ _ _ => pts_nil)
          (fun _ _ _ _ _ => pe_call GF r3 (by rfl) cF.g cF.kp cF.b .nil pass0 (pa_cons (pv 3) pa_nil))) (pe_lst (pa_cons pe_int (pa_cons pe_int (pa_cons pe_int (pa_cons pe_int (pa_cons pe_int (pa_cons pe_int (pa_cons pe_int (pa_cons pe_int (pa_cons pe_int (pa_cons pe_int pa_nil))))))))))) (nomark _)) (pss_one ps_never) pss_nil)
      (pss_cut (RP5 PA Ts H) (ps_if (pt_cmpR op_ne (pe_call GF r3 (by rfl) cF.g cF.kp cF.b .nil pass0 (pa_cons (pe_op op_mulW pe_int (pv 2)) pa_nil)) (pe_op op_fdiv (pe_op op_mulW (pe_op op_mulW (pv 2) (pe_op op_sub (pv 2) pe_int)) (pe_op op_sub (pv 2) pe_int)) pe_int) (nomark _)) (pss_one ps_never) pss_nil)
      (pss_cut (RP8 PA Ts H) (ps_for PassesOwn.never rfl (pi_list (pe_lst (pa_cons pe_int (pa_cons pe_int (pa_cons pe_int (pa_cons pe_int (pa_cons pe_int (pa_cons pe_int (pa_cons pe_int (pa_cons pe_int (pa_cons pe_int (pa_cons pe_int (pa_cons pe_int (pa_cons pe_int pa_nil)))))))))))))) (pg_name (i := 3) scPm.nd rfl (.inl rfl))
        (pss_cons (ps_set (i := 4) scPm.nd rfl (.inl rfl) (pe_call GO r3 (by rfl) cO.g cO.kp cO.b .nil pass0 (pa_cons (pv 3) pa_nil)))
        (pss_cons (ps_if (PW.pt (pw_or (pt_cmpR op_ne (pe_callB call_len_seq (by rfl) B.len PySem.boot_len (pa_cons (pv 4) pa_nil)) (pv 3) (nomark _)) (pw_or1 (pt_cmpR op_ne (pe_call GA r4 (by rfl) cA.g cA.kp cA.b .nil pass0 (pa_cons (pv 4) pa_nil)) (pe_call GF r3 (by rfl) cF.g cF.kp cF.b .nil pass0 (pa_cons (pv 3) pa_nil)) (nomark _))))) (pss_one ps_never) pss_nil)
        (pss_one (ps_if (PW.pt (pw_and (pt_cmpR op_gt (pe_call GF r3 (by rfl) cF.g cF.kp cF.b .nil pass0 (pa_cons (pv 3) pa_nil)) pe_int (nomark _)) (pw_and1 (PW.pt (pw_or (pt_not (pt_val (pe_methE (pe_call G3 r3 (by rfl) c3.g c3.kp c3.b .nil pass0 (pa_cons (pv 4) pa_nil)) TK.cl TU.cl mK mU GK GW r3 bK bU (pa_cons (pv 4) pa_nil)))) (pw_or1 (pt_cmpR op_ne (pe_callB call_len_seq (by rfl) B.len PySem.boot_len (pa_cons (pe_fld (pe_call G3 r3 (by rfl) c3.g c3.kp c3.b .nil pass0 (pa_cons (pv 4) pa_nil)) rfl) pa_nil)) pe_int (nomark _)))))))) (pss_one ps_never) pss_nil)))))
      (pss_cut (RPC 3 PA Ts H) (ps_set (i := 5) scPm.nd rfl (.inl rfl) (pe_lst (pa_cons (pe_tup (pa_cons (pe_lst pa_nil) (pa_cons (pv 1) (pa_cons pe_bl (pa_cons pe_bl pa_nil))))) (pa_cons (pe_tup (pa_cons (pe_lst (pa_cons pe_int pa_nil)) (pa_cons (pv 1) (pa_cons pe_bl (pa_cons pe_bl pa_nil))))) (pa_cons (pe_tup (pa_cons (pe_lst (pa_cons pe_int (pa_cons pe_int pa_nil))) (pa_cons (pv 1) (pa_cons pe_bl (pa_cons pe_bl pa_nil))))) pa_nil)))))
      (pss_cut (RPC 6 PA Ts H) (ps_set (i := 5) scPm.nd rfl (.inl rfl) (pe_op op_cat (pv 5) (pe_lst (pa_cons (pe_tup (pa_cons (pe_lst (pa_cons pe_int (pa_cons pe_int pa_nil))) (pa_cons (pv 1) (pa_cons pe_bl (pa_cons pe_bl pa_nil))))) (pa_cons (pe_tup (pa_cons (pe_lst (pa_cons pe_int (pa_cons pe_int pa_nil))) (pa_cons (pv 1) (pa_cons pe_bl (pa_cons pe_bl pa_nil))))) (pa_cons (pe_tup (pa_cons (pe_lst (pa_cons (pe_un un_neg pe_int) pa_nil)) (pa_cons (pv 1) (pa_cons pe_bl (pa_cons pe_bl pa_nil))))) pa_nil))))))
      (pss_cut (RPC 9 PA Ts H) (ps_set (i := 5) scPm.nd rfl (.inl rfl) (pe_op op_cat (pv 5) (pe_lst (pa_cons (pe_tup (pa_cons (pe_lst (pa_cons pe_int (pa_cons pe_int pa_nil))) (pa_cons (pv 1) (pa_cons pe_bl (pa_cons pe_bl pa_nil))))) (pa_cons (pe_tup (pa_cons (pe_lst (pa_cons pe_int (pa_cons pe_int pa_nil))) (pa_cons (pv 0) (pa_cons pe_bl (pa_cons pe_bl pa_nil))))) (pa_cons (pe_tup (pa_cons (pe_lst (pa_cons pe_int (pa_cons pe_int pa_nil))) (pa_cons (pv 0) (pa_cons pe_bl (pa_cons pe_bl pa_nil))))) pa_nil))))))
      (pss_cut (RPC 10 PA Ts H) (ps_set (i := 5) scPm.nd rfl (.inl rfl) (pe_op op_cat (pv 5) (pe_lst (pa_cons (pe_tup (pa_cons (pe_lst (pa_cons pe_int (pa_cons pe_int (pa_cons pe_int pa_nil)))) (pa_cons (pv 0) (pa_cons pe_bl (pa_cons pe_bl pa_nil))))) pa_nil))))
      (pss_cut (RPX PA Ts H) (ps_for PassesOwn.never rfl (pi_list (pv 5)) (pg_tup rfl (pgs_cons (pg_name (i := 6) scPm.nd rfl (.inl rfl)) (pgs_cons (pg_name (i := 4) scPm.nd rfl (.inl rfl)) (pgs_cons (pg_name (i := 7) scPm.nd rfl (.inl rfl)) (pgs_cons (pg_name (i := 8) scPm.nd rfl (.inl rfl)) pgs_nil)))))
        (pss_one (ps_if (PW.pt (pw_or (pt_cmpR op_ne (pe_methE (pe_make MK GI r2 (by rfl) gK bI .nil pass0 (pa_cons (pv 6) pa_nil)) TK.cl TU.cl mK mU GK GW r3 bK bU (pa_cons (pv 4) pa_nil)) (pv 7) (nomark _)) (pw_or1 (pt_cmpR op_ne (pe_methE (pe_make MU GJ r2 (by rfl) gU bJ .nil pass0 (pa_cons (pv 6) pa_nil)) TK.cl TU.cl mK mU GK GW r3 bK bU (pa_cons (pv 4) pa_nil)) (pv 8) (nomark _))))) (pss_one ps_never) pss_nil)))
      (pss_one (ps_ret (pe_call0 GG hr (by rfl) cG.g cG.kp cG.b .nil pass0)))))))))))))))), ?_⟩
    refine ⟨?_, ?_⟩
    · refine ⟨(by decide : (5 : Nat) ≤ sizeLine), fun a na => ⟨(by decide : (2 : Nat) ≤ sizeLine), fun b nb => ?_⟩⟩
      have s1 := same_upd (o := .lst [.str (Str.ofString "-x--x"), .str (Str.ofString "x-x--"), .str (Str.ofString "-x-x-"), .str (Str.ofString "--x-x"), .str (Str.ofString "x--x-")]) na
      have s2 := same_upd (o := .lst [.str (Str.ofString "-x"), .str (Str.ofString "x-")]) nb
      exact ⟨_, _, rfl, a, b, rfl, Gr.same (s1.trans s2), s2 _ _ (by rw [r5_lit]; exact upd_same), by rw [two_lit]; exact upd_same⟩
    rintro _ H1 ⟨a, b, rfl, g1, ea, eb⟩
    refine ⟨?_, ?_⟩
    · refine ⟨(by decide : (0 : Nat) ≤ sizeLine), fun t1 n1 => ?_⟩
      have s1_ := same_upd (o := .lst []) n1
      have g1_ := g1.trans (Gr.same (PA := PA) (Ts := Ts) s1_)
      have ea1_ := s1_ _ _ ea
      have eb1_ := s1_ _ _ eb
      have x1_ : L2.upd H1 t1 (.lst []) t1 = some (.lst []) := upd_same
      generalize L2.upd H1 t1 (.lst []) = H1_ at s1_ g1_ x1_ ea1_ eb1_ ⊢
      refine ⟨t1, 0, noE, rfl, ⟨SqL.of (by rw [none_lit]; exact x1_), by decide, no_web 0⟩, fun J2 p2 r2 np2 ep2 => ?_⟩
      have g2_ := g1_.trans (Gr.same (PA := PA) (Ts := Ts) r2)
      have ea2_ := r2 _ _ ea1_
      have eb2_ := r2 _ _ eb1_
      rw [show degs 0 noE = [] from rfl] at ep2
      refine ⟨(by decide : (0 : Nat) ≤ sizeLine), fun t3 n3 => ?_⟩
      have s3_ := same_upd (o := .lst []) n3
      have g3_ := g2_.trans (Gr.same (PA := PA) (Ts := Ts) s3_)
      have ea3_ := s3_ _ _ ea2_
      have eb3_ := s3_ _ _ eb2_
      have ep3_ := s3_ _ _ ep2
      have x3_ : L2.upd J2 t3 (.lst []) t3 = some (.lst []) := upd_same
      generalize L2.upd J2 t3 (.lst []) = H3_ at s3_ g3_ x3_ ea3_ eb3_ ep3_ ⊢
      refine ⟨.list (([] : List Int).map PyData.int), .list (([] : List Int).map PyData.int), .lst (SqL.of ep3_) (dpI []), .lst (SqL.of x3_) (dpI []), shapedI _, shapedI _, _, rfl, ?_⟩
      rw [eqII]
      refine iteF ?_
      refine ⟨(by decide : (0 : Nat) ≤ sizeLine), fun t4 n4 => ?_⟩
      have s4_ := same_upd (o := .lst []) n4
      have g4_ := g3_.trans (Gr.same (PA := PA) (Ts := Ts) s4_)
      have ea4_ := s4_ _ _ ea3_
      have eb4_ := s4_ _ _ eb3_
      have x4_ : L2.upd H3_ t4 (.lst []) t4 = some (.lst []) := upd_same
      generalize L2.upd H3_ t4 (.lst []) = H4_ at s4_ g4_ x4_ ea4_ eb4_ ⊢
      refine ⟨t4, 0, noE, rfl, ⟨SqL.of (by rw [none_lit]; exact x4_), by decide, no_web 0⟩, (g4_.tk hTk).tb, fun J5 p5 r5 np5 ep5 => ?_⟩
      have q5_ := Gr.smt hn (g4_.tk hTk) r5
      have g5_ := g4_.trans q5_
      have ea5_ := q5_.lst ea4_
      have eb5_ := q5_.lst eb4_
      rw [none_turn] at ep5
      refine ⟨(by decide : (0 : Nat) ≤ sizeLine), fun t6 n6 => ?_⟩
      have s6_ := same_upd (o := .lst []) n6
      have g6_ := g5_.trans (Gr.same (PA := PA) (Ts := Ts) s6_)
      have ea6_ := s6_ _ _ ea5_
      have eb6_ := s6_ _ _ eb5_
      have ep6_ := s6_ _ _ ep5
      have x6_ : L2.upd J5 t6 (.lst []) t6 = some (.lst []) := upd_same
      generalize L2.upd J5 t6 (.lst []) = H6_ at s6_ g6_ x6_ ea6_ eb6_ ep6_ ⊢
      refine ⟨.list ((web 0 noE).map PyData.str), .list ((web 0 noE).map PyData.str), .lst (SqL.of ep6_) (dpS (web 0 noE)), .lst (SqL.of x6_) (dpS (web 0 noE)), shapedW 0 noE, shapedW 0 noE, _, rfl, ?_⟩
      rw [eqSS]
      refine iteF ?_
      refine ⟨_, rfl, b, 2, fullE, rfl, ⟨SqL.of eb6_, by decide, full_web 2⟩, (g6_.tk hTk).tb, fun J7 p7 r7 np7 ep7 => ?_⟩
      have q7_ := Gr.smt hn (g6_.tk hTk) r7
      have g7_ := g6_.trans q7_
      have ea7_ := q7_.lst ea6_
      have eb7_ := q7_.lst eb6_
      rw [two_turn] at ep7
      refine ⟨(by decide : (2 : Nat) ≤ sizeLine), fun t8 n8 => ?_⟩
      have s8_ := same_upd (o := .lst [.str (Str.ofString "--"), .str (Str.ofString "--")]) n8
      have g8_ := g7_.trans (Gr.same (PA := PA) (Ts := Ts) s8_)
      have ea8_ := s8_ _ _ ea7_
      have eb8_ := s8_ _ _ eb7_
      have ep8_ := s8_ _ _ ep7
      have x8_ : L2.upd J7 t8 (.lst [.str (Str.ofString "--"), .str (Str.ofString "--")]) t8 = some (.lst [.str (Str.ofString "--"), .str (Str.ofString "--")]) := upd_same
      generalize L2.upd J7 t8 (.lst [.str (Str.ofString "--"), .str (Str.ofString "--")]) = H8_ at s8_ g8_ x8_ ea8_ eb8_ ep8_ ⊢
      refine ⟨.list ((web 2 noE).map PyData.str), .list ((web 2 noE).map PyData.str), .lst (SqL.of ep8_) (dpS (web 2 noE)), .lst (SqL.of (by rw [two_lit0]; exact x8_)) (dpS (web 2 noE)), shapedW 2 noE, shapedW 2 noE, _, rfl, ?_⟩
      rw [eqSS]
      refine iteF ?_
      refine ⟨_, rfl, a, 5, r5E, rfl, ⟨SqL.of ea8_, by decide, r5_web 5⟩, (g8_.tk hTk).tb, fun J9 p9 r9 np9 ep9 => ?_⟩
      have q9_ := Gr.smt hn (g8_.tk hTk) r9
      have g9_ := g8_.trans q9_
      have ea9_ := q9_.lst ea8_
      have eb9_ := q9_.lst eb8_
      refine ⟨p9, 5, (turnE r5E), rfl, ⟨SqL.of ep9, by decide, turn_web (r5_web 5)⟩, (g9_.tk hTk).tb, fun J10 p10 r10 np10 ep10 => ?_⟩
      have q10_ := Gr.smt hn (g9_.tk hTk) r10
      have g10_ := g9_.trans q10_
      have ea10_ := q10_.lst ea9_
      have eb10_ := q10_.lst eb9_
      rw [r5_turn] at ep10
      refine ⟨_, rfl, ?_⟩
      refine ⟨.list ((web 5 r5E).map PyData.str), .list ((web 5 r5E).map PyData.str), .lst (SqL.of ep10) (dpS (web 5 r5E)), .lst (SqL.of ea10_) (dpS (web 5 r5E)), shapedW 5 r5E, shapedW 5 r5E, _, rfl, ?_⟩
      rw [eqSS]
      refine iteF ?_
      exact ⟨a, b, rfl, g10_, ea10_, eb10_⟩
    clear g1 ea eb H1 a b
    rintro _ H1 ⟨a, b, rfl, g1, ea, eb⟩
    refine ⟨?_, ?_⟩
    · refine ⟨_, rfl, a, 5, r5E, rfl, ⟨SqL.of ea, by decide, r5_web 5⟩, fun J11 p11 r11 np11 ep11 => ?_⟩
      have g11_ := g1.trans (Gr.same (PA := PA) (Ts := Ts) r11)
      have ea11_ := r11 _ _ ea
      have eb11_ := r11 _ _ eb
      rw [r5_degs] at ep11
      refine ⟨(by decide : (1 : Nat) ≤ sizeLine), fun t12 n12 => ?_⟩
      have s12_ := same_upd (o := .lst [.int 2]) n12
      have g12_ := g11_.trans (Gr.same (PA := PA) (Ts := Ts) s12_)
      have ea12_ := s12_ _ _ ea11_
      have eb12_ := s12_ _ _ eb11_
      have ep12_ := s12_ _ _ ep11
      have x12_ : L2.upd J11 t12 (.lst [.int 2]) t12 = some (.lst [.int 2]) := upd_same
      generalize L2.upd J11 t12 (.lst [.int 2]) = H12_ at s12_ g12_ x12_ ea12_ eb12_ ep12_ ⊢
      refine ⟨t12, 5, _, rfl, rfl, x12_, by decide, by decide, (by decide : (5 : Nat) ≤ sizeLine), fun t13 n13 => ?_⟩
      have s13_ := same_upd (o := .lst (List.replicate (5 : Int).toNat [V.int 2]).flatten) n13
      have g13_ := g12_.trans (Gr.same (PA := PA) (Ts := Ts) s13_)
      have ea13_ := s13_ _ _ ea12_
      have eb13_ := s13_ _ _ eb12_
      have ep13_ := s13_ _ _ ep12_
      have x13_ : L2.upd H12_ t13 (.lst (List.replicate (5 : Int).toNat [V.int 2]).flatten) t13 = some (.lst (List.replicate (5 : Int).toNat [V.int 2]).flatten) := upd_same
      generalize L2.upd H12_ t13 (.lst (List.replicate (5 : Int).toNat [V.int 2]).flatten) = H13_ at s13_ g13_ x13_ ea13_ eb13_ ep13_ ⊢
      refine ⟨.list (([2, 2, 2, 2, 2] : List Int).map PyData.int), .list (([2, 2, 2, 2, 2] : List Int).map PyData.int), .lst (SqL.of ep13_) (dpI [2, 2, 2, 2, 2]), .lst (SqL.of x13_) (dpI [2, 2, 2, 2, 2]), shapedI _, shapedI _, _, rfl, ?_⟩
      rw [eqII]
      refine iteF ?_
      refine ⟨(by decide : (1 : Nat) ≤ sizeLine), fun t14 n14 => ?_⟩
      have s14_ := same_upd (o := .lst [.str (Str.ofString "-")]) n14
      have g14_ := g13_.trans (Gr.same (PA := PA) (Ts := Ts) s14_)
      have ea14_ := s14_ _ _ ea13_
      have eb14_ := s14_ _ _ eb13_
      have x14_ : L2.upd H13_ t14 (.lst [.str (Str.ofString "-")]) t14 = some (.lst [.str (Str.ofString "-")]) := upd_same
      generalize L2.upd H13_ t14 (.lst [.str (Str.ofString "-")]) = H14_ at s14_ g14_ x14_ ea14_ eb14_ ⊢
      refine ⟨t14, 1, noE, rfl, ⟨SqL.of (by rw [one_lit]; exact x14_), by decide, no_web 1⟩, (g14_.tk hTk).tb, fun J15 p15 r15 np15 ep15 => ?_⟩
      have q15_ := Gr.smt hn (g14_.tk hTk) r15
      have g15_ := g14_.trans q15_
      have ea15_ := q15_.lst ea14_
      have eb15_ := q15_.lst eb14_
      rw [one_turn] at ep15
      refine ⟨(by decide : (1 : Nat) ≤ sizeLine), fun t16 n16 => ?_⟩
      have s16_ := same_upd (o := .lst [.str (Str.ofString "-")]) n16
      have g16_ := g15_.trans (Gr.same (PA := PA) (Ts := Ts) s16_)
      have ea16_ := s16_ _ _ ea15_
      have eb16_ := s16_ _ _ eb15_
      have ep16_ := s16_ _ _ ep15
      have x16_ : L2.upd J15 t16 (.lst [.str (Str.ofString "-")]) t16 = some (.lst [.str (Str.ofString "-")]) := upd_same
      generalize L2.upd J15 t16 (.lst [.str (Str.ofString "-")]) = H16_ at s16_ g16_ x16_ ea16_ eb16_ ep16_ ⊢
      refine ⟨.list ((web 1 noE).map PyData.str), .list ((web 1 noE).map PyData.str), .lst (SqL.of ep16_) (dpS (web 1 noE)), .lst (SqL.of (by rw [one_lit]; exact x16_)) (dpS (web 1 noE)), shapedW 1 noE, shapedW 1 noE, _, rfl, ?_⟩
      rw [eqSS]
      refine iteF ?_
      exact ⟨a, b, rfl, g16_, ea16_, eb16_⟩
    clear g1 ea eb H1 a b
    rintro _ H1 ⟨a, b, rfl, g1, ea, eb⟩
    refine ⟨?_, ?_⟩
    · refine ⟨(by decide : (0 : Nat) ≤ sizeLine), fun t17 n17 => ?_⟩
      have s17_ := same_upd (o := .lst []) n17
      have g17_ := g1.trans (Gr.same (PA := PA) (Ts := Ts) s17_)
      have ea17_ := s17_ _ _ ea
      have eb17_ := s17_ _ _ eb
      have x17_ : L2.upd H1 t17 (.lst []) t17 = some (.lst []) := upd_same
      generalize L2.upd H1 t17 (.lst []) = H17_ at s17_ g17_ x17_ ea17_ eb17_ ⊢
      refine ⟨t17, 0, noE, rfl, ⟨SqL.of (by rw [none_lit]; exact x17_), by decide, no_web 0⟩, (g17_.tk hTk).tb, fun J18 r18 => ⟨rfl, _, rfl, iteNS (congrArg V.int (by decide +kernel : alikeN 0 noE = 0)) ?_⟩⟩
      have q18_ := Gr.smt hn (g17_.tk hTk) r18
      have g18_ := g17_.trans q18_
      have ea18_ := q18_.lst ea17_
      have eb18_ := q18_.lst eb17_
      refine ⟨(by decide : (0 : Nat) ≤ sizeLine), fun t19 n19 => ?_⟩
      have s19_ := same_upd (o := .lst []) n19
      have g19_ := g18_.trans (Gr.same (PA := PA) (Ts := Ts) s19_)
      have ea19_ := s19_ _ _ ea18_
      have eb19_ := s19_ _ _ eb18_
      have x19_ : L2.upd J18 t19 (.lst []) t19 = some (.lst []) := upd_same
      generalize L2.upd J18 t19 (.lst []) = H19_ at s19_ g19_ x19_ ea19_ eb19_ ⊢
      refine ⟨t19, 0, noE, rfl, ⟨SqL.of (by rw [none_lit]; exact x19_), by decide, no_web 0⟩, fun J20 r20 _ => ?_, fun _ _ _ _ i j k h1 h2 h3 hm => absurd hm (by omega)⟩
      refine ⟨rfl, _, rfl, ?_⟩
      rw [decide_eq_true rfl]
      refine iteF ?_
      have g20_ := g19_.trans (Gr.same (PA := PA) (Ts := Ts) r20)
      have ea20_ := r20 _ _ ea19_
      have eb20_ := r20 _ _ eb19_
      refine ⟨_, rfl, b, 2, fullE, rfl, ⟨SqL.of eb20_, by decide, full_web 2⟩, fun J21 r21 _ => ?_, fun _ _ _ _ i j k h1 h2 h3 hm => absurd hm (by omega)⟩
      refine ⟨rfl, _, rfl, ?_⟩
      rw [decide_eq_true rfl]
      refine iteF ?_
      have g21_ := g20_.trans (Gr.same (PA := PA) (Ts := Ts) r21)
      have ea21_ := r21 _ _ ea20_
      have eb21_ := r21 _ _ eb20_
      refine ⟨_, rfl, a, 5, r5E, rfl, ⟨SqL.of ea21_, by decide, r5_web 5⟩, (g21_.tk hTk).tb, fun J22 r22 => ⟨rfl, _, rfl, iteNS (congrArg V.int (by decide +kernel : alikeN 5 r5E = 0)) ?_⟩⟩
      have q22_ := Gr.smt hn (g21_.tk hTk) r22
      have g22_ := g21_.trans q22_
      have ea22_ := q22_.lst ea21_
      have eb22_ := q22_.lst eb21_
      exact ⟨a, b, rfl, g22_, ea22_, eb22_⟩
    clear g1 ea eb H1 a b
    rintro _ H1 ⟨a, b, rfl, g1, ea, eb⟩
    refine ⟨?_, ?_⟩
    · refine ⟨_, rfl, a, 5, r5E, rfl, ⟨SqL.of ea, by decide, r5_web 5⟩, fun J23 r23 _ => ?_, fun _ _ _ _ i j k h1 h2 h3 hm => absurd hm (r5_none i j k h1 h2 h3)⟩
      refine ⟨rfl, _, rfl, ?_⟩
      rw [decide_eq_true rfl]
      refine iteF ?_
      have g23_ := g1.trans (Gr.same (PA := PA) (Ts := Ts) r23)
      have ea23_ := r23 _ _ ea
      have eb23_ := r23 _ _ eb
      refine ⟨(by decide : (1 : Nat) ≤ sizeLine), fun t24 n24 => ?_⟩
      have s24_ := same_upd (o := .lst [.str (Str.ofString "---")]) n24
      have g24_ := g23_.trans (Gr.same (PA := PA) (Ts := Ts) s24_)
      have ea24_ := s24_ _ _ ea23_
      have eb24_ := s24_ _ _ eb23_
      have x24_ : L2.upd J23 t24 (.lst [.str (Str.ofString "---")]) t24 = some (.lst [.str (Str.ofString "---")]) := upd_same
      generalize L2.upd J23 t24 (.lst [.str (Str.ofString "---")]) = H24_ at s24_ g24_ x24_ ea24_ eb24_ ⊢
      refine ⟨t24, 3, _, rfl, rfl, x24_, by decide, by decide, (by decide : (3 : Nat) ≤ sizeLine), fun t25 n25 => ?_⟩
      have s25_ := same_upd (o := .lst (List.replicate (3 : Int).toNat [V.str (Str.ofString "---")]).flatten) n25
      have g25_ := g24_.trans (Gr.same (PA := PA) (Ts := Ts) s25_)
      have ea25_ := s25_ _ _ ea24_
      have eb25_ := s25_ _ _ eb24_
      have x25_ : L2.upd H24_ t25 (.lst (List.replicate (3 : Int).toNat [V.str (Str.ofString "---")]).flatten) t25 = some (.lst (List.replicate (3 : Int).toNat [V.str (Str.ofString "---")]).flatten) := upd_same
      generalize L2.upd H24_ t25 (.lst (List.replicate (3 : Int).toNat [V.str (Str.ofString "---")]).flatten) = H25_ at s25_ g25_ x25_ ea25_ eb25_ ⊢
      refine ⟨t25, 3, noE, rfl, ⟨SqL.of (xs := (web 3 noE).map V.str) x25_, by decide, no_web 3⟩, (g25_.tk hTk).tb, fun J26 r26 => ⟨rfl, _, rfl, iteNS (congrArg V.int (by decide +kernel : alikeN 3 noE = 1)) ?_⟩⟩
      have q26_ := Gr.smt hn (g25_.tk hTk) r26
      have g26_ := g25_.trans q26_
      have ea26_ := q26_.lst ea25_
      have eb26_ := q26_.lst eb25_
      exact ⟨a, b, rfl, g26_, ea26_, eb26_⟩
    clear g1 ea eb H1 a b
    rintro _ H1 ⟨a, b, rfl, g1, ea, eb⟩
    refine ⟨?_, ?_⟩
    · exact ⟨10, 29, rfl, rfl, ⟨by decide, by decide, by decide⟩, 5, _, rfl, rfl, (by unfold CMulW; decide +kernel), a, b, rfl, g1, ea, eb⟩
    clear g1 ea eb H1 a b
    rintro _ H1 ⟨a, b, rfl, g1, ea, eb⟩
    refine ⟨?_, ?_⟩
    · refine ⟨10, rfl, by decide, by decide, fun D nD => lc_range (fun i H2 => Same H1 H2 ∧ H2 D = some (.lst ((fewL.take i).map V.int))) ⟨same_upd nD, upd_same⟩ ?_ ?_⟩
      · rintro i H2 hi ⟨s2, e2⟩
        have hi : i < 10 := by omega
        refine ⟨rfl, _, rfl, (i : Int), congrArg (fun z => [V.int z]) (Int.zero_add _), by omega, by omega, _, e2, ?_, fun c o ec => ?_, ?_⟩
        · rw [List.length_map, List.length_take]
          exact small1000 (by omega)
        · rw [upd_ne (ne_of_none ec nD)]
          exact s2 _ _ ec
        · have et : ((fewL.take (i + 1)).map V.int) = (fewL.take i).map V.int ++ [V.int (fewestN i)] := by
            rw [List.take_add_one, few_at hi, List.map_append] <;> rfl
          rw [upd_same, et]
      · rintro H2 ⟨s2, e2⟩
        refine ⟨(by decide : (10 : Nat) ≤ sizeLine), fun u nu => ?_⟩
        have s3 := same_upd (o := .lst (fewL.map V.int)) nu
        have s := s2.trans s3
        refine ⟨.list (fewL.map PyData.int), .list (fewL.map PyData.int), .lst (SqL.of (s3 _ _ e2)) (dpI fewL), .lst (SqL.of upd_same) (dpI fewL), shapedI _, shapedI _, _, rfl, ?_⟩
        rw [eqII]
        exact iteF ⟨a, b, rfl, g1.trans (Gr.same s), s _ _ ea, s _ _ eb⟩
    clear g1 ea eb H1 a b
    rintro _ H1 ⟨a, b, rfl, g1, ea, eb⟩
    refine ⟨?_, ?_⟩
    · refine ⟨_, rfl, 2, halfZ, rfl, rfl, (by unfold CMulW; decide +kernel), 2 * halfZ, rfl, by decide, by decide, ?_⟩
      have h1 : CMulW halfZ (halfZ - 1) := by unfold CMulW; decide +kernel
      have h2 : CMulW (halfZ * (halfZ - 1)) (halfZ - 2) := by unfold CMulW; decide +kernel
      have h3 : CDiv (halfZ * (halfZ - 1) * (halfZ - 2)) 3 := by unfold CDiv; decide +kernel
      refine ⟨_, rfl, _, rfl, _, _, rfl, rfl, _, _, rfl, rfl, h1, _, rfl, _, _, rfl, rfl, _, _, rfl, rfl, h2, _, _, rfl, rfl, h3, rfl, _, rfl, ?_⟩
      exact iteNS (congrArg V.int few_great) ⟨a, b, rfl, g1, ea, eb⟩
    clear g1 ea eb H1 a b
    rintro _ H1 ⟨a, b, rfl, g1, ea, eb⟩
    refine ⟨?_, ?_⟩
    · refine ⟨(by decide : (12 : Nat) ≤ sizeLine), fun D nD => ?_⟩
      have s1 := same_upd (o := .lst [.int 0, .int 1, .int 5, .int 6, .int 7, .int 8, .int 9, .int 10, .int 11, .int 40, .int 41, .int 43]) nD
      have eD : L2.upd H1 D (.lst [.int 0, .int 1, .int 5, .int 6, .int 7, .int 8, .int 9, .int 10, .int 11, .int 40, .int 41, .int 43]) D = some (.lst [.int 0, .int 1, .int 5, .int 6, .int 7, .int 8, .int 9, .int 10, .int 11, .int 40, .int 41, .int 43]) := upd_same
      have g2 := g1.trans (Gr.same (PA := PA) (Ts := Ts) s1)
      have ea := s1 _ _ ea
      have eb := s1 _ _ eb
      generalize L2.upd H1 D (.lst [.int 0, .int 1, .int 5, .int 6, .int 7, .int 8, .int 9, .int 10, .int 11, .int 40, .int 41, .int 43]) = H2 at eD g2 ea eb ⊢
      clear s1 g1 nD
      refine ⟨D, rfl, ⟨_, SqL.of eD⟩, for_list (K := K) (xs := [.int 0, .int 1, .int 5, .int 6, .int 7, .int 8, .int 9, .int 10, .int 11, .int 40, .int 41, .int 43]) (fun i σ H' => ∃ y3 y4, σ = [some (.ref a), some (.ref b), some (.int halfZ), y3, y4, none, none, none, none] ∧ Gr PA Ts H2 H') ⟨_, _, rfl, Gr.refl⟩ (fun i σ H' _ ⟨_, _, _, g'⟩ => SqL.of (g'.lst eD)) ?_ ?_⟩
      · rintro i y σ H' hy ⟨y3, y4, rfl, g'⟩
        have hm := List.mem_of_getElem? hy
        obtain ⟨n, rfl, n2⟩ : ∃ n : Nat, y = .int n ∧ n ≤ 200 := by
          simp only [List.mem_cons, List.not_mem_nil, or_false] at hm
          rcases hm with rfl | rfl | rfl | rfl | rfl | rfl | rfl | rfl | rfl | rfl | rfl | rfl
          · exact ⟨0, rfl, by decide⟩
          · exact ⟨1, rfl, by decide⟩
          · exact ⟨5, rfl, by decide⟩
          · exact ⟨6, rfl, by decide⟩
          · exact ⟨7, rfl, by decide⟩
          · exact ⟨8, rfl, by decide⟩
          · exact ⟨9, rfl, by decide⟩
          · exact ⟨10, rfl, by decide⟩
          · exact ⟨11, rfl, by decide⟩
          · exact ⟨40, rfl, by decide⟩
          · exact ⟨41, rfl, by decide⟩
          · exact ⟨43, rfl, by decide⟩
        have gA := g2.trans g'
        clear hm hy
        refine ⟨_, rfl, n, rfl, n2, (gA.tk hTk).tb, fun H3 p t3 np ep => ?_⟩
        have gB := g'.trans (Gr.smt hn (gA.tk hTk) t3)
        have W := ring_web n
        have h128 : (n : Int).natAbs < 2 ^ 128 := Nat.lt_of_le_of_lt (show n ≤ 200 from n2) (by decide)
        have wl : ((web n (ringE n)).map V.str).length = n := by rw [List.length_map, web_len]
        refine ⟨_, rfl, p, _, rfl, .inl (SqL.of ep), _, rfl, rfl, _, rfl, iteNS (congrArg (fun m : Nat => V.int m) wl) ?_⟩
        refine ⟨_, rfl, p, n, ringE n, rfl, ⟨SqL.of ep, n2, W⟩, ((g2.trans gB).tk hTk).tb, fun H4 s4 => ⟨_, rfl, n, rfl, by omega, h128, rfl, _, rfl, iteNS (congrArg V.int (alike_ring n)) ?_⟩⟩
        have gs4 := Gr.smt hn ((g2.trans gB).tk hTk) s4
        have gC := gB.trans gs4
        have ep := gs4.lst ep
        refine ⟨_, rfl, n, rfl, by omega, h128, _, 0, rfl, rfl, _, rfl, ?_⟩
        by_cases hf : 0 < fewestN n
        · rw [decide_eq_true hf]
          refine iteT ?_
          have none_ : ¬ ∀ i j k, i < j → j < k → k < min n 6 → ¬ Mono (ringE n) i j k := fun h => by
            have h1 := alike_zero W h
            rw [alike_ring] at h1
            omega
          refine ⟨_, rfl, p, n, ringE n, rfl, ⟨SqL.of ep, n2, W⟩, fun _ _ h => absurd h none_, fun H5 q1 l dx i1 j1 k1 hij hjk hk hm s5 eq el => ?_⟩
          have hkn : k1 < n := Nat.lt_of_lt_of_le hk (Nat.min_le_left _ _)
          have ep5 := s5 _ _ ep
          have hR := rising_three hij hjk hkn
          have hP := pairs_three (n := n) hij hjk hm
          cases hc : ringE n i1 j1 with
          | true =>
            rw [if_pos hc] at eq
            rw [hc] at hP
            refine ⟨q1, dx, [("people", .ref l)], rfl, rfl, .inl ⟨eq, .ref p, rfl, q1, p, l, dx, [(i1 : Int), j1, k1], n, ringE n, rfl, eq, SqL.of el, SqL.of ep5, n2, fun r H6 hr s6 => ?_⟩⟩
            obtain rfl := hr.mpr ⟨hR, hP⟩
            refine ⟨true, rfl, iteF ?_⟩
            have ep6 := s6 _ _ ep5
            refine ⟨_, rfl, p, n, ringE n, rfl, ⟨SqL.of ep6, n2, W⟩, fun _ _ h => absurd h none_, fun H7 q2 l2 dx2 i2 j2 k2 _ _ _ _ s7 eq2 el2 => ?_⟩
            have TC : AC K (if ringE n i2 j2 = true then CK else CU) := by split <;> assumption
            exact ⟨q2, _, dx2, _, .ref l2, rfl, eq2, TC.cl, TC.no, rfl, l2, _, rfl, .inl (SqL.of el2), rfl, _, rfl, iteNS rfl ⟨_, _, rfl, gC.trans (Gr.same (s5.trans (s6.trans s7)))⟩⟩
          | false =>
            rw [if_neg (by rw [hc]; decide)] at eq
            rw [hc] at hP
            refine ⟨q1, dx, [("people", .ref l)], rfl, rfl, .inr ⟨eq, .ref p, rfl, q1, p, l, dx, [(i1 : Int), j1, k1], n, ringE n, rfl, eq, SqL.of el, SqL.of ep5, n2, fun r H6 hr s6 => ?_⟩⟩
            obtain rfl := hr.mpr ⟨hR, hP⟩
            refine ⟨true, rfl, iteF ?_⟩
            have ep6 := s6 _ _ ep5
            refine ⟨_, rfl, p, n, ringE n, rfl, ⟨SqL.of ep6, n2, W⟩, fun _ _ h => absurd h none_, fun H7 q2 l2 dx2 i2 j2 k2 _ _ _ _ s7 eq2 el2 => ?_⟩
            have TC : AC K (if ringE n i2 j2 = true then CK else CU) := by split <;> assumption
            exact ⟨q2, _, dx2, _, .ref l2, rfl, eq2, TC.cl, TC.no, rfl, l2, _, rfl, .inl (SqL.of el2), rfl, _, rfl, iteNS rfl ⟨_, _, rfl, gC.trans (Gr.same (s5.trans (s6.trans s7)))⟩⟩
        · rw [decide_eq_false hf]
          exact iteF ⟨_, _, rfl, gC⟩
      · rintro σ H' ⟨y3, y4, rfl, g'⟩
        exact ⟨a, b, _, y3, y4, rfl, g2.trans g', g'.lst ea, g'.lst eb⟩
    clear g1 ea eb H1 a b
    rintro _ H1 ⟨a, b, y2, y3, y4, rfl, g1, ea, eb⟩
    refine ⟨?_, ?_⟩
    · refine ⟨(by decide : (0 : Nat) ≤ sizeLine), fun t27 n27 => ⟨_, rfl, (by decide : (4 : Nat) ≤ sizeLine), fun q27 m27 => ?_⟩⟩
      obtain ⟨s27_, v27_⟩ := EvC.new (n := 2) (e := fullE) (k := true) (u := true) (zs := [.ref t27, .ref b, .bl true, .bl true]) [] eb (by decide) n27 m27 rfl rfl (by decide) (by decide)
      have g27_ := g1.trans (Gr.same (PA := PA) (Ts := Ts) s27_)
      have ea27_ := s27_ _ _ ea
      have eb27_ := s27_ _ _ eb
      generalize L2.upd (L2.upd H1 t27 (.lst [])) q27 (.tup [.ref t27, .ref b, .bl true, .bl true]) = H27_ at ea27_ eb27_ g27_ v27_ ⊢
      clear s27_
      refine ⟨(by decide : (1 : Nat) ≤ sizeLine), fun t28 n28 => ⟨_, rfl, (by decide : (4 : Nat) ≤ sizeLine), fun q28 m28 => ?_⟩⟩
      obtain ⟨s28_, v28_⟩ := EvC.new (n := 2) (e := fullE) (k := true) (u := true) (zs := [.ref t28, .ref b, .bl true, .bl true]) [0] eb27_ (by decide) n28 m28 rfl rfl (by decide) (by decide)
      have g28_ := g27_.trans (Gr.same (PA := PA) (Ts := Ts) s28_)
      have ea28_ := s28_ _ _ ea27_
      have eb28_ := s28_ _ _ eb27_
      have c028_ := EvC.same s28_ v27_
      generalize L2.upd (L2.upd H27_ t28 (.lst [.int 0])) q28 (.tup [.ref t28, .ref b, .bl true, .bl true]) = H28_ at ea28_ eb28_ g28_ c028_ v28_ ⊢
      clear s28_
      refine ⟨(by decide : (2 : Nat) ≤ sizeLine), fun t29 n29 => ⟨_, rfl, (by decide : (4 : Nat) ≤ sizeLine), fun q29 m29 => ?_⟩⟩
      obtain ⟨s29_, v29_⟩ := EvC.new (n := 2) (e := fullE) (k := true) (u := false) (zs := [.ref t29, .ref b, .bl true, .bl false]) [0, 1] eb28_ (by decide) n29 m29 rfl rfl (by decide) (by decide)
      have g29_ := g28_.trans (Gr.same (PA := PA) (Ts := Ts) s29_)
      have ea29_ := s29_ _ _ ea28_
      have eb29_ := s29_ _ _ eb28_
      have c029_ := EvC.same s29_ c028_
      have c129_ := EvC.same s29_ v28_
      generalize L2.upd (L2.upd H28_ t29 (.lst [.int 0, .int 1])) q29 (.tup [.ref t29, .ref b, .bl true, .bl false]) = H29_ at ea29_ eb29_ g29_ c029_ c129_ v29_ ⊢
      clear s29_
      refine ⟨(by decide : (3 : Nat) ≤ sizeLine), fun Z nZ => ?_⟩
      have sZ := same_upd (o := .lst [.ref q27, .ref q28, .ref q29]) nZ
      have sE := sZ
      refine ⟨a, b, Z, y2, y3, y4, _, rfl, g29_.trans (Gr.same sZ), ⟨sZ _ _ ea29_, sZ _ _ eb29_⟩, upd_same, Nat.le_refl _, fun x hx => ?_⟩
      simp only [List.mem_cons, List.not_mem_nil, or_false] at hx
      rcases hx with rfl | rfl | rfl
      · exact EvC.same sE c029_
      · exact EvC.same sE c129_
      · exact EvC.same sE v29_
    clear g1 ea eb H1 a b y2 y3 y4
    rintro _ H1 ⟨a, b, D, y2, y3, y4, xs, rfl, g1, ⟨ea, eb⟩, eD, hl, hev⟩
    refine ⟨?_, ?_⟩
    · refine ⟨_, rfl, ?_⟩
      refine ⟨(by decide : (2 : Nat) ≤ sizeLine), fun t31 n31 => ⟨_, rfl, (by decide : (4 : Nat) ≤ sizeLine), fun q31 m31 => ?_⟩⟩
      obtain ⟨s31_, v31_⟩ := EvC.new (n := 2) (e := fullE) (k := false) (u := false) (zs := [.ref t31, .ref b, .bl false, .bl false]) [1, 0] eb (by decide) n31 m31 rfl rfl (by decide) (by decide)
      have g31_ := g1.trans (Gr.same (PA := PA) (Ts := Ts) s31_)
      have ea31_ := s31_ _ _ ea
      have eb31_ := s31_ _ _ eb
      have eD31_ := s31_ _ _ eD
      have hev31_ := fun x hx => EvC.same s31_ (hev x hx)
      generalize L2.upd (L2.upd H1 t31 (.lst [.int 1, .int 0])) q31 (.tup [.ref t31, .ref b, .bl false, .bl false]) = H31_ at ea31_ eb31_ eD31_ g31_ v31_ hev31_ ⊢
      clear s31_
      refine ⟨(by decide : (2 : Nat) ≤ sizeLine), fun t32 n32 => ⟨_, rfl, (by decide : (4 : Nat) ≤ sizeLine), fun q32 m32 => ?_⟩⟩
      obtain ⟨s32_, v32_⟩ := EvC.new (n := 2) (e := fullE) (k := false) (u := false) (zs := [.ref t32, .ref b, .bl false, .bl false]) [0, 0] eb31_ (by decide) n32 m32 rfl rfl (by decide) (by decide)
      have g32_ := g31_.trans (Gr.same (PA := PA) (Ts := Ts) s32_)
      have ea32_ := s32_ _ _ ea31_
      have eb32_ := s32_ _ _ eb31_
      have eD32_ := s32_ _ _ eD31_
      have c032_ := EvC.same s32_ v31_
      have hev32_ := fun x hx => EvC.same s32_ (hev31_ x hx)
      generalize L2.upd (L2.upd H31_ t32 (.lst [.int 0, .int 0])) q32 (.tup [.ref t32, .ref b, .bl false, .bl false]) = H32_ at ea32_ eb32_ eD32_ g32_ c032_ v32_ hev32_ ⊢
      clear s32_
      refine ⟨_, rfl, (by decide : (1 : Nat) ≤ sizeLine), fun t33 n33 => ⟨_, rfl, (by decide : (4 : Nat) ≤ sizeLine), fun q33 m33 => ?_⟩⟩
      obtain ⟨s33_, v33_⟩ := EvC.new (n := 2) (e := fullE) (k := false) (u := false) (zs := [.ref t33, .ref b, .bl false, .bl false]) [-1] eb32_ (by decide) n33 m33 rfl rfl (by decide) (by decide)
      have g33_ := g32_.trans (Gr.same (PA := PA) (Ts := Ts) s33_)
      have ea33_ := s33_ _ _ ea32_
      have eb33_ := s33_ _ _ eb32_
      have eD33_ := s33_ _ _ eD32_
      have c033_ := EvC.same s33_ c032_
      have c133_ := EvC.same s33_ v32_
      have hev33_ := fun x hx => EvC.same s33_ (hev32_ x hx)
      generalize L2.upd (L2.upd H32_ t33 (.lst [.int (-1)])) q33 (.tup [.ref t33, .ref b, .bl false, .bl false]) = H33_ at ea33_ eb33_ eD33_ g33_ c033_ c133_ v33_ hev33_ ⊢
      clear s33_
      refine ⟨(by decide : (3 : Nat) ≤ sizeLine), fun Z nZ => ?_⟩
      have sZ := same_upd (o := .lst [.ref q31, .ref q32, .ref q33]) nZ
      refine ⟨D, Z, xs, _, rfl, rfl, sZ _ _ eD33_, upd_same, Nat.le_of_lt (small1000 (show xs.length + 3 ≤ 1000 by omega)), fun Y nY => ?_⟩
      have sY := same_upd (o := .lst (xs ++ [.ref q31, .ref q32, .ref q33])) nY
      have sE := sZ.trans sY
      refine ⟨a, b, Y, y2, y3, y4, _, rfl, g33_.trans (Gr.same sE), ⟨sE _ _ ea33_, sE _ _ eb33_⟩, upd_same, ?_, fun x hx => ?_⟩
      · rw [List.length_append]
        show xs.length + 3 ≤ 6
        omega
      rcases List.mem_append.mp hx with hx | hx
      · exact EvC.same sE (hev33_ x hx)
      simp only [List.mem_cons, List.not_mem_nil, or_false] at hx
      rcases hx with rfl | rfl | rfl
      · exact EvC.same sE c033_
      · exact EvC.same sE c133_
      · exact EvC.same sE v33_
    clear hev hl eD g1 ea eb H1 a b D xs y2 y3 y4
    rintro _ H1 ⟨a, b, D, y2, y3, y4, xs, rfl, g1, ⟨ea, eb⟩, eD, hl, hev⟩
    refine ⟨?_, ?_⟩
    · refine ⟨_, rfl, ?_⟩
      refine ⟨(by decide : (2 : Nat) ≤ sizeLine), fun t35 n35 => ⟨_, rfl, (by decide : (4 : Nat) ≤ sizeLine), fun q35 m35 => ?_⟩⟩
      obtain ⟨s35_, v35_⟩ := EvC.new (n := 2) (e := fullE) (k := false) (u := false) (zs := [.ref t35, .ref b, .bl false, .bl false]) [0, 9] eb (by decide) n35 m35 rfl rfl (by decide) (by decide)
      have g35_ := g1.trans (Gr.same (PA := PA) (Ts := Ts) s35_)
      have ea35_ := s35_ _ _ ea
      have eb35_ := s35_ _ _ eb
      have eD35_ := s35_ _ _ eD
      have hev35_ := fun x hx => EvC.same s35_ (hev x hx)
      generalize L2.upd (L2.upd H1 t35 (.lst [.int 0, .int 9])) q35 (.tup [.ref t35, .ref b, .bl false, .bl false]) = H35_ at ea35_ eb35_ eD35_ g35_ v35_ hev35_ ⊢
      clear s35_
      refine ⟨(by decide : (2 : Nat) ≤ sizeLine), fun t36 n36 => ⟨_, rfl, (by decide : (4 : Nat) ≤ sizeLine), fun q36 m36 => ?_⟩⟩
      obtain ⟨s36_, v36_⟩ := EvC.new (n := 5) (e := r5E) (k := false) (u := true) (zs := [.ref t36, .ref a, .bl false, .bl true]) [0, 2] ea35_ (by decide) n36 m36 rfl rfl (by decide) (by decide)
      have g36_ := g35_.trans (Gr.same (PA := PA) (Ts := Ts) s36_)
      have ea36_ := s36_ _ _ ea35_
      have eb36_ := s36_ _ _ eb35_
      have eD36_ := s36_ _ _ eD35_
      have c036_ := EvC.same s36_ v35_
      have hev36_ := fun x hx => EvC.same s36_ (hev35_ x hx)
      generalize L2.upd (L2.upd H35_ t36 (.lst [.int 0, .int 2])) q36 (.tup [.ref t36, .ref a, .bl false, .bl true]) = H36_ at ea36_ eb36_ eD36_ g36_ c036_ v36_ hev36_ ⊢
      clear s36_
      refine ⟨(by decide : (2 : Nat) ≤ sizeLine), fun t37 n37 => ⟨_, rfl, (by decide : (4 : Nat) ≤ sizeLine), fun q37 m37 => ?_⟩⟩
      obtain ⟨s37_, v37_⟩ := EvC.new (n := 5) (e := r5E) (k := true) (u := false) (zs := [.ref t37, .ref a, .bl true, .bl false]) [0, 1] ea36_ (by decide) n37 m37 rfl rfl (by decide) (by decide)
      have g37_ := g36_.trans (Gr.same (PA := PA) (Ts := Ts) s37_)
      have ea37_ := s37_ _ _ ea36_
      have eb37_ := s37_ _ _ eb36_
      have eD37_ := s37_ _ _ eD36_
      have c037_ := EvC.same s37_ c036_
      have c137_ := EvC.same s37_ v36_
      have hev37_ := fun x hx => EvC.same s37_ (hev36_ x hx)
      generalize L2.upd (L2.upd H36_ t37 (.lst [.int 0, .int 1])) q37 (.tup [.ref t37, .ref a, .bl true, .bl false]) = H37_ at ea37_ eb37_ eD37_ g37_ c037_ c137_ v37_ hev37_ ⊢
      clear s37_
      refine ⟨(by decide : (3 : Nat) ≤ sizeLine), fun Z nZ => ?_⟩
      have sZ := same_upd (o := .lst [.ref q35, .ref q36, .ref q37]) nZ
      refine ⟨D, Z, xs, _, rfl, rfl, sZ _ _ eD37_, upd_same, Nat.le_of_lt (small1000 (show xs.length + 3 ≤ 1000 by omega)), fun Y nY => ?_⟩
      have sY := same_upd (o := .lst (xs ++ [.ref q35, .ref q36, .ref q37])) nY
      have sE := sZ.trans sY
      refine ⟨a, b, Y, y2, y3, y4, _, rfl, g37_.trans (Gr.same sE), ⟨sE _ _ ea37_, sE _ _ eb37_⟩, upd_same, ?_, fun x hx => ?_⟩
      · rw [List.length_append]
        show xs.length + 3 ≤ 9
        omega
      rcases List.mem_append.mp hx with hx | hx
      · exact EvC.same sE (hev37_ x hx)
      simp only [List.mem_cons, List.not_mem_nil, or_false] at hx
      rcases hx with rfl | rfl | rfl
      · exact EvC.same sE c037_
      · exact EvC.same sE c137_
      · exact EvC.same sE v37_
    clear hev hl eD g1 ea eb H1 a b D xs y2 y3 y4
    rintro _ H1 ⟨a, b, D, y2, y3, y4, xs, rfl, g1, ⟨ea, eb⟩, eD, hl, hev⟩
    refine ⟨?_, ?_⟩
    · refine ⟨_, rfl, ?_⟩
      refine ⟨(by decide : (3 : Nat) ≤ sizeLine), fun t39 n39 => ⟨_, rfl, (by decide : (4 : Nat) ≤ sizeLine), fun q39 m39 => ?_⟩⟩
      obtain ⟨s39_, v39_⟩ := EvC.new (n := 5) (e := r5E) (k := false) (u := false) (zs := [.ref t39, .ref a, .bl false, .bl false]) [0, 1, 2] ea (by decide) n39 m39 rfl rfl (by decide) (by decide)
      have g39_ := g1.trans (Gr.same (PA := PA) (Ts := Ts) s39_)
      have ea39_ := s39_ _ _ ea
      have eb39_ := s39_ _ _ eb
      have eD39_ := s39_ _ _ eD
      have hev39_ := fun x hx => EvC.same s39_ (hev x hx)
      generalize L2.upd (L2.upd H1 t39 (.lst [.int 0, .int 1, .int 2])) q39 (.tup [.ref t39, .ref a, .bl false, .bl false]) = H39_ at ea39_ eb39_ eD39_ g39_ v39_ hev39_ ⊢
      clear s39_
      refine ⟨(by decide : (1 : Nat) ≤ sizeLine), fun Z nZ => ?_⟩
      have sZ := same_upd (o := .lst [.ref q39]) nZ
      refine ⟨D, Z, xs, _, rfl, rfl, sZ _ _ eD39_, upd_same, Nat.le_of_lt (small1000 (show xs.length + 1 ≤ 1000 by omega)), fun Y nY => ?_⟩
      have sY := same_upd (o := .lst (xs ++ [.ref q39])) nY
      have sE := sZ.trans sY
      refine ⟨a, b, Y, y2, y3, y4, _, rfl, g39_.trans (Gr.same sE), ⟨sE _ _ ea39_, sE _ _ eb39_⟩, upd_same, ?_, fun x hx => ?_⟩
      · rw [List.length_append]
        show xs.length + 1 ≤ 10
        omega
      rcases List.mem_append.mp hx with hx | hx
      · exact EvC.same sE (hev39_ x hx)
      simp only [List.mem_cons, List.not_mem_nil, or_false] at hx
      subst hx
      exact EvC.same sE v39_
    clear hev hl eD g1 ea eb H1 a b D xs y2 y3 y4
    rintro _ H1 ⟨a, b, D, y2, y3, y4, xs, rfl, g1, ⟨ea, eb⟩, eD, hl, hev⟩
    refine ⟨?_, ?_⟩
    · refine ⟨_, rfl, D, rfl, ⟨_, SqL.of eD⟩, for_list (K := K) (xs := xs) (fun i σ H' => ∃ y4 y6 y7 y8, σ = [some (.ref a), some (.ref b), y2, y3, y4, some (.ref D), y6, y7, y8] ∧ Same H1 H') ⟨_, _, _, _, rfl, Same.refl _⟩ (fun i σ H' _ ⟨_, _, _, _, _, s'⟩ => SqL.of (s' _ _ eD)) ?_ ?_⟩
      · rintro i y σ H' hy ⟨y4, y6, y7, y8, rfl, s'⟩
        obtain ⟨u, t, v, ps, n, e, rfl, eu, et, ev, n2⟩ := EvC.same s' (hev y (List.mem_of_getElem? hy))
        refine ⟨u, _, rfl, SqT.of eu, rfl, _, _, rfl, _, _, rfl, _, _, rfl, _, _, rfl, rfl, ?_⟩
        refine ⟨_, rfl, ?_⟩
        intro x dx nx ndx nex
        refine ⟨x, t, dx, _, rfl, upd_same, SqL.of (xs := ps.map V.int) ?_, fun l H6 nl f1 f2 kp => ⟨rfl, ?_⟩⟩
        · rw [upd_ne (ne_of_none et nx), upd_ne (ne_of_none et ndx)]
          exact et
        have s6 : Same H' H6 := fun b o eb => by
          refine kp b o ?_ (ne_of_none eb nx)
          rw [upd_ne (ne_of_none eb nx), upd_ne (ne_of_none eb ndx)]
          exact eb
        refine ⟨x, dx, [("people", .ref l)], rfl, rfl, .inl ⟨f2, .ref v, rfl, x, v, l, dx, ps, n, e, rfl, f2, SqL.of f1, SqL.of (s6 _ _ ev), n2, fun r H7 hr s7 => ?_⟩⟩
        obtain rfl := says_eq hr
        refine ⟨_, rfl, rfl, _, rfl, iteNS rfl ?_⟩
        have sA := s6.trans s7
        have et := sA _ _ et
        have ev := sA _ _ ev
        have s' := s'.trans sA
        clear s6 kp nex ndx nx eu f1 f2 nl
        refine ⟨_, rfl, ?_⟩
        intro x dx nx ndx nex
        refine ⟨x, t, dx, _, rfl, upd_same, SqL.of (xs := ps.map V.int) ?_, fun l H6 nl f1 f2 kp => ⟨rfl, ?_⟩⟩
        · rw [upd_ne (ne_of_none et nx), upd_ne (ne_of_none et ndx)]
          exact et
        have s6 : Same H7 H6 := fun b o eb => by
          refine kp b o ?_ (ne_of_none eb nx)
          rw [upd_ne (ne_of_none eb nx), upd_ne (ne_of_none eb ndx)]
          exact eb
        refine ⟨x, dx, [("people", .ref l)], rfl, rfl, .inr ⟨f2, .ref v, rfl, x, v, l, dx, ps, n, e, rfl, f2, SqL.of f1, SqL.of (s6 _ _ ev), n2, fun r H8 hr s7 => ?_⟩⟩
        obtain rfl := says_eq hr
        refine ⟨_, rfl, rfl, _, rfl, iteNS rfl ?_⟩
        exact ⟨_, _, _, _, rfl, s'.trans (s6.trans s7)⟩
      · rintro σ H' ⟨y4, y6, y7, y8, rfl, s'⟩
        exact g1.trans (Gr.same s')
    rintro _ H1 g1
    exact ⟨rfl, g1.tk hTk, fun H' g' => q _ (g1.trans g')⟩
end
end AK
set_option Elab.async false
set_option linter.all false
set_option maxRecDepth 100000
set_option maxHeartbeats 4000000
namespace AK
open PySem PySem.Spec PyProof.Rows L2
theorem bits_lt {z : Int} {N : Nat} (h : Builtin.Int.intBits z ≤ N) : z.natAbs < 2 ^ N := by
  unfold Builtin.Int.intBits at h
  split at h
  · rename_i e
    have : z = 0 := by simpa using e
    subst this
    exact Nat.two_pow_pos N
  · exact Nat.lt_of_lt_of_le Nat.lt_log2_self (Nat.pow_le_pow_right (by decide) h)
/-- a def's code table at the head's heap -/
theorem tab_here {q : Program} {loose : List Str} {mean : ExcName → Option Value} {mg mb : Str → Option Value} {h : Heap} {K : PySem.W.Frag} {x : Str} {c P : Addr} (T : Top q loose mean mg mb h) (X : K.In h) (hs : ((recsOf q).find? (fun e => e.name == x)).isSome = true) (ht : PySem.W.tabIn K x = some (c, P)) :
    PySem.W.CodeHd h c P ∧ h.get? P = some { cls := .none, data := .fields #[] } := by
  obtain ⟨d, hd⟩ := Option.isSome_iff_exists.mp hs
  exact PySem.W.tab_of T X hd ht
/-! ### what the written part holds -/
def FAt (K : PySem.W.Frag) (x : Str) (st : Stmt) : Prop := ∃ (f : Addr) (fd : FuncData), PySem.W.nsIn K mainGlobals x = some (some (.ref f)) ∧ Fun K x x st f fd
theorem fat_mk {K : PySem.W.Frag} {x : Str} {st : Stmt} {f : Addr} {oc : Value} {od an : Option Addr} {osl : Array (Option Value)} {kV doc pm cdv ct : Value} (a : PySem.W.nsIn K mainGlobals x = some (some (.ref f))) (l : K.lookup f = some ⟨oc, od, .func (PySem.W.fnOf x x (defArgs st) (defBody st) (defScope st) .none kV doc pm an cdv ct), osl⟩)
    (c : PySem.W.codeIn K cdv x = true) (k : PySem.W.keepIn K (.ref f) = true) : FAt K x st := ⟨f, _, a, fun_mk l c k⟩
def TAt (K : PySem.W.Frag) (x : Str) (st : Stmt) : Prop := ∃ (c P f : Addr) (fd : FuncData), PySem.W.nsIn K mainGlobals x = some (some (.ref f)) ∧ FunR K x x st c f fd ∧ K.lookup P = none ∧ PySem.W.tabIn K x = some (c, P)
theorem tat_mk {K : PySem.W.Frag} {x : Str} {st : Stmt} {f c P : Addr} {oc oc2 : Value} {od od2 an : Option Addr} {osl osl2 : Array (Option Value)} {kV doc pm ct : Value} {vs : Array Value} (a : PySem.W.nsIn K mainGlobals x = some (some (.ref f))) (l : K.lookup f = some ⟨oc, od, .func (PySem.W.fnOf x x (defArgs st) (defBody st) (defScope st) .none kV doc pm an (.ref c) ct), osl⟩)
    (hc : PySem.W.codeIn K (.ref c) x = true) (k : PySem.W.keepIn K (.ref f) = true) (lc : K.lookup c = some ⟨oc2, od2, .fields vs, osl2⟩) (hv : vs[11]? = some (.ref P)) (lP : K.lookup P = none) : TAt K x st := by
  refine ⟨c, P, f, _, a, funR_mk rfl l hc k, lP, ?_⟩
  unfold PySem.W.tabIn
  rw [a]
  dsimp only
  rw [l]
  dsimp only [PySem.W.fnOf]
  rw [lc]
  dsimp only
  rw [hv]
def DAt (K : PySem.W.Frag) : Prop := ∃ (f : Addr) (fd : FuncData), PySem.W.nsIn K mainGlobals "check_count" = some (some (.ref f)) ∧ FunC K f fd
theorem dat_mk {K : PySem.W.Frag} {f T : Addr} {oc o1 : Value} {od an o2 : Option Addr} {osl o3 : Array (Option Value)} {kV doc pm cdv ct : Value} {n : Nat} (a : PySem.W.nsIn K mainGlobals "check_count" = some (some (.ref f))) (l : K.lookup f = some ⟨oc, od, .func (PySem.W.fnOf "check_count" "check_count" (defArgs sCount) (defBody sCount) (defScope sCount) (.ref T) kV doc pm an cdv ct), osl⟩)
    (c : PySem.W.codeIn K cdv "check_count" = true) (k : PySem.W.keepIn K (.ref f) = true) (lT : K.lookup T = some ⟨o1, o2, .seq #[.none] n, o3⟩) : DAt K :=
  ⟨f, _, a, ⟨oc, od, .ref T, kV, doc, pm, an, cdv, ct, osl, rfl, l, c, .inr ⟨by simp, T, _, [.none], n, rfl, lT, rfl, .cons rfl .nil⟩, .inl rfl⟩, k⟩
def SAt (K : PySem.W.Frag) (x y : Str) : Prop := ∃ t, PySem.W.nsIn K mainGlobals x = some (some (.str y t))
theorem sat_mk {K : PySem.W.Frag} {x y : Str} {t : Tok} (a : PySem.W.nsIn K mainGlobals x = some (some (.str y t))) : SAt K x y := ⟨t, a⟩
def IAt (K : PySem.W.Frag) (x : Str) (i : Int) : Prop := ∃ t, PySem.W.nsIn K mainGlobals x = some (some (.int i t))
theorem iat_mk {K : PySem.W.Frag} {x : Str} {i : Int} {t : Tok} (a : PySem.W.nsIn K mainGlobals x = some (some (.int i t))) : IAt K x i := ⟨t, a⟩
/-- a built-in's name is not the module's -/
abbrev NAt (K : PySem.W.Frag) (x : Str) : Prop := PySem.W.nsIn K mainGlobals x = some none
/-- Known, Unknown -/
structure CAt (K : PySem.W.Frag) (x qi qs : Str) (sI sS : Stmt) (C f g : Addr) : Prop where
  gx : PySem.W.nsIn K mainGlobals x = some (some (.ref C))
  cl : Cls K C
  no : NoAttr K C "people"
  mkk : Mk K C f
  fi : ∃ fd, Fun K "__init__" qi sI f fd
  ms : Meth K C "shows" g
  fs : ∃ fd, Fun K "shows" qs sS g fd
theorem cat_mk {K : PySem.W.Frag} {x qi qs : Str} {sI sS : Stmt} {C f g : Addr} {oc oc2 : Value} {od an od2 an2 : Option Addr} {osl osl2 : Array (Option Value)} {kV doc pm cdv ct kV2 doc2 pm2 cdv2 ct2 : Value} (gx : PySem.W.nsIn K mainGlobals x = some (some (.ref C))) (pg : PySem.W.plainGet K C Str.empty = true) (hd : PySem.W.hasDictIn K C = true) (po : PySem.W.plainOver K C = true)
    (sa : PySem.W.findIn K (.ref C) "__setattr__" = some (some (.builtin "object.__setattr__"))) (no : PySem.W.findIn K (.ref C) "people" = some none) (mk : PySem.W.makesIn K C = true) (ini : PySem.W.findIn K (.ref C) "__init__" = some (some (.ref f))) (fn : PySem.W.isFn K (.ref f) = true) (kp : PySem.W.keepIn K (.ref C) = true)
    (l : K.lookup f = some ⟨oc, od, .func (PySem.W.fnOf "__init__" qi (defArgs sI) (defBody sI) (defScope sI) .none kV doc pm an cdv ct), osl⟩) (c : PySem.W.codeIn K cdv qi = true) (k : PySem.W.keepIn K (.ref f) = true)
    (sh : PySem.W.findIn K (.ref C) "shows" = some (some (.ref g))) (fn2 : PySem.W.isFn K (.ref g) = true) (k2 : PySem.W.keepIn K (.ref g) = true) (l2 : K.lookup g = some ⟨oc2, od2, .func (PySem.W.fnOf "shows" qs (defArgs sS) (defBody sS) (defScope sS) .none kV2 doc2 pm2 an2 cdv2 ct2), osl2⟩) (c2 : PySem.W.codeIn K cdv2 qs = true) : CAt K x qi qs sI sS C f g :=
  ⟨gx, ⟨pg, hd, po, sa⟩, no, ⟨mk, ini, fn, kp⟩, ⟨_, fun_mk l c k⟩, ⟨sh, fn2, k2⟩, ⟨_, fun_mk l2 c2 k2⟩⟩
/-- a class of errors in the written part -/
structure EAt (K : PySem.W.Frag) (x : Str) (C : Addr) : Prop where
  g : PySem.W.nsIn K mainGlobals x = some (some (.ref C))
  q : PySem.W.excIn K C [.type "ValueError", .type "Exception", .type "BaseException", .type "object"] "ValueError.__new__" = true
  kp : PySem.W.keepIn K (.ref C) = true
  sb : PySem.W.subIn K (.ref C) (.type "BaseException") = some true
  ty : PySem.W.typeIn K (.ref C) = some (.type "type")
  x : ExcC K C
theorem eat_mk {K : PySem.W.Frag} {x : Str} {C : Addr} (g : PySem.W.nsIn K mainGlobals x = some (some (.ref C))) (q : PySem.W.excIn K C [.type "ValueError", .type "Exception", .type "BaseException", .type "object"] "ValueError.__new__" = true) (kp : PySem.W.keepIn K (.ref C) = true) (sb : PySem.W.subIn K (.ref C) (.type "BaseException") = some true)
    (ty : PySem.W.typeIn K (.ref C) = some (.type "type")) (hg : PySem.W.findIn K (.ref C) "__getattribute__" = some (some (.builtin "BaseException.__getattribute__"))) (hk : PySem.W.findIn K (.ref C) "__getattr__" = some none) (hd : PySem.W.hasDictIn K C = true) (ha : PySem.W.findIn K (.ref C) "__class__" = some (some (.builtin "object.__class__")))
    (hn : PySem.W.specialIn K (.builtin "object.__class__") "__get__" = some (some (.builtin "getset_descriptor.__get__"))) (ht : PySem.W.takesIn K (.builtin "object.__class__") = some true) (hm : PySem.W.mroIn K C (.type "object") = some true) : EAt K x C := ⟨g, q, kp, sb, ty, ⟨hg, hk, sb, hd, ha, hn, ht, hm⟩⟩
/-- two tables stand apart -/
def tabNe (K : PySem.W.Frag) (x y : Str) : Bool := match PySem.W.tabIn K x, PySem.W.tabIn K y with
  | some (_, p), some (_, q) => !decide (p = q)
  | _, _ => false
/-- the law at the head's heap -/
theorem all_mk {q : Program} {loose : List Str} {mean : ExcName → Option Value} {mb : Str → Option Value} {l : PySem.W.OpenLaw} {w : World} {K : PySem.W.Frag} {h : Heap} {mg : Str → Option Value} {fa CK CU CA fI gI fJ gJ CW CC CT CE : Addr} (T : Top q loose mean mg mb h) (X : K.In h) (hfa : mg "law" = some (.ref fa)) (hNAlike : tabNe K "_apart" "alike" = true) (hNRing : tabNe K "_apart" "_ring_row" = true) (hNTRow : tabNe K "_apart" "_turned_row" = true)
    (rApart : ((recsOf q).find? (fun e => e.name == ("_apart" : Str))).isSome = true) (rAlike : ((recsOf q).find? (fun e => e.name == ("alike" : Str))).isSome = true) (rRing : ((recsOf q).find? (fun e => e.name == ("_ring_row" : Str))).isSome = true) (rTRow : ((recsOf q).find? (fun e => e.name == ("_turned_row" : Str))).isSome = true)
    (hWhole : FAt K "is_whole" sWhole) (hWeb : FAt K "check_web" sWeb) (hRow : FAt K "_check_row" sRow) (hTies : FAt K "ties" sTies) (hTurned : FAt K "turned" sTurned) (hAre : FAt K "_are_places" sAre) (hPairs : FAt K "_all_pairs" sPairs) (hThree : FAt K "three" sThree) (hFew : FAt K "fewest" sFewest) (hThrees : FAt K "_all_threes" sThrees) (hWebOf : FAt K "web_of" sWebOf) (hKnow : FAt K "_know_in_ring" sKnow) (hSure : FAt K "sure" sSure) (hFound : FAt K "found" sFound) (hProm : FAt K "promised" sPromised) (hStr : FAt K "strangers" sStrangers) (hFri : FAt K "friends" sFriends) (hNum : FAt K "_law_number" sNum) (hPlain : FAt K "_law_plain" sPlain) (hTruths : FAt K "_law_truths" sTruths) (hWR : FAt K "_law_web_right" sWebRight) (hTooFew : FAt K "_law_are_too_few" sTooFew) (hGr : FAt K "_law_groups_promises" sGroups) (hPR : FAt K "_law_promises_right" sPromises) (hLaw : FAt K "law" sLaw)
    (hApart : TAt K "_apart" sApart) (hAlike : TAt K "alike" sAlike) (hRing : TAt K "_ring_row" sRing) (hTRow : TAt K "_turned_row" sTurnedRow)
    (hCount : DAt K) (kn : SAt K "KNOWS" "x") (ap : SAt K "APART" "-") (mo : IAt K "MOST_PEOPLE" 200) (en : IAt K "ENOUGH_FOR_THREE" 6) (ms : IAt K "MOST_SIZE" 200) (gcomb : PySem.W.nsIn K mainGlobals "combinations" = some (some (.type "itertools.combinations"))) (gcm : PySem.W.nsIn K mainGlobals "comb" = some (some (.builtin "math.comb"))) (ggcd : PySem.W.nsIn K mainGlobals "gcd" = some (some (.builtin "math.gcd")))
    (cK : CAt K "Known" "Known.__init__" "Known.shows" sInitK sShowsK CK fI gI) (cU : CAt K "Unknown" "Unknown.__init__" "Unknown.shows" sInitU sShowsU CU fJ gJ) (gAn : PySem.W.nsIn K mainGlobals "Answer" = some (some (.ref CA))) (ic : IC K CK CU CA)
    (eT : EAt K "TooFew" CT) (gW : PySem.W.nsIn K mainGlobals "BadWeb" = some (some (.ref CW))) (gC : PySem.W.nsIn K mainGlobals "BadCount" = some (some (.ref CC))) (gE : PySem.W.nsIn K mainGlobals "WebError" = some (some (.ref CE))) (mT : PySem.W.exmOne K (.ref CT) (.ref CE) = some true) (tt : PySem.W.kitOne K (.ref CT) (.ref CT) = some true) (tn : PySem.W.kitAny K (.ref CT) [.ref CC, .ref CW] = some false)
    (z0 : PySem.W.nsIn K mainGlobals "isinstance" = some none) (z1 : PySem.W.nsIn K mainGlobals "int" = some none) (z2 : PySem.W.nsIn K mainGlobals "bool" = some none) (z3 : PySem.W.nsIn K mainGlobals "list" = some none) (z4 : PySem.W.nsIn K mainGlobals "str" = some none) (z5 : PySem.W.nsIn K mainGlobals "len" = some none) (z6 : PySem.W.nsIn K mainGlobals "enumerate" = some none) (z7 : PySem.W.nsIn K mainGlobals "zip" = some none) (z8 : PySem.W.nsIn K mainGlobals "range" = some none) (z9 : PySem.W.nsIn K mainGlobals "sum" = some none) (z10 : PySem.W.nsIn K mainGlobals "abs" = some none) (z11 : PySem.W.nsIn K mainGlobals "min" = some none) (z12 : PySem.W.nsIn K mainGlobals "all" = some none) (z13 : PySem.W.nsIn K mainGlobals "sorted" = some none) (z14 : PySem.W.nsIn K mainGlobals "tuple" = some none) :
    LamX.LawAtS l w K CX0 8 63 "_law_script" mg fa h := by
  have G := T.g
  have gg : ∀ {x : Str} {v : Value}, PySem.W.nsIn K mainGlobals x = some (some v) → mg x = some v := fun e => PySem.W.mg_of X G e
  have gn : ∀ {x : Str}, PySem.W.nsIn K mainGlobals x = some none → mg x = none := fun e => PySem.W.mg_none_of X G e
  obtain ⟨fWhole, dWhole, aWhole, FWhole⟩ := hWhole
  obtain ⟨fWeb, dWeb, aWeb, FWeb⟩ := hWeb
  obtain ⟨fRow, dRow, aRow, FRow⟩ := hRow
  obtain ⟨fTies, dTies, aTies, FTies⟩ := hTies
  obtain ⟨fTurned, dTurned, aTurned, FTurned⟩ := hTurned
  obtain ⟨fAre, dAre, aAre, FAre⟩ := hAre
  obtain ⟨fPairs, dPairs, aPairs, FPairs⟩ := hPairs
  obtain ⟨fThree, dThree, aThree, FThree⟩ := hThree
  obtain ⟨fFew, dFew, aFew, FFew⟩ := hFew
  obtain ⟨fThrees, dThrees, aThrees, FThrees⟩ := hThrees
  obtain ⟨fWebOf, dWebOf, aWebOf, FWebOf⟩ := hWebOf
  obtain ⟨fKnow, dKnow, aKnow, FKnow⟩ := hKnow
  obtain ⟨fSure, dSure, aSure, FSure⟩ := hSure
  obtain ⟨fFound, dFound, aFound, FFound⟩ := hFound
  obtain ⟨fProm, dProm, aProm, FProm⟩ := hProm
  obtain ⟨fStr, dStr, aStr, FStr⟩ := hStr
  obtain ⟨fFri, dFri, aFri, FFri⟩ := hFri
  obtain ⟨fNum, dNum, aNum, FNum⟩ := hNum
  obtain ⟨fPlain, dPlain, aPlain, FPlain⟩ := hPlain
  obtain ⟨fTruths, dTruths, aTruths, FTruths⟩ := hTruths
  obtain ⟨fWR, dWR, aWR, FWR⟩ := hWR
  obtain ⟨fTooFew, dTooFew, aTooFew, FTooFew⟩ := hTooFew
  obtain ⟨fGr, dGr, aGr, FGr⟩ := hGr
  obtain ⟨fPR, dPR, aPR, FPR⟩ := hPR
  obtain ⟨fLaw, dLaw, aLaw, FLaw⟩ := hLaw
  obtain ⟨cApart, PApart, fApart, dApart, aApart, FApart, lApart, tApart⟩ := hApart
  obtain ⟨cAlike, PAlike, fAlike, dAlike, aAlike, FAlike, lAlike, tAlike⟩ := hAlike
  obtain ⟨cRing, PRing, fRing, dRing, aRing, FRing, lRing, tRing⟩ := hRing
  obtain ⟨cTRow, PTRow, fTRow, dTRow, aTRow, FTRow, lTRow, tTRow⟩ := hTRow
  obtain ⟨fCo, dCo, aCo, FCo⟩ := hCount
  obtain ⟨dIK, FIK⟩ := cK.fi
  obtain ⟨dSK, FSK⟩ := cK.fs
  obtain ⟨dIU, FIU⟩ := cU.fi
  obtain ⟨dSU, FSU⟩ := cU.fs
  have neAlike : PApart ≠ PAlike := fun z => by
    unfold tabNe at hNAlike
    rw [tApart, tAlike] at hNAlike
    simp [z] at hNAlike
  have neRing : PApart ≠ PRing := fun z => by
    unfold tabNe at hNRing
    rw [tApart, tRing] at hNRing
    simp [z] at hNRing
  have neTRow : PApart ≠ PTRow := fun z => by
    unfold tabNe at hNTRow
    rw [tApart, tTRow] at hNTRow
    simp [z] at hNTRow
  have hne : PApart ∉ [PAlike, PRing, PTRow] := by
    intro z
    simp only [List.mem_cons, List.not_mem_nil, or_false] at z
    rcases z with z | z | z
    · exact neAlike z
    · exact neRing z
    · exact neTRow z
  have e := hfa.symm.trans (gg aLaw)
  cases e
  obtain ⟨hcApart, hpApart⟩ := tab_here T X rApart tApart
  obtain ⟨hcAlike, hpAlike⟩ := tab_here T X rAlike tAlike
  obtain ⟨hcRing, hpRing⟩ := tab_here T X rRing tRing
  obtain ⟨hcTRow, hpTRow⟩ := tab_here T X rTRow tTRow
  have bWhole := FWhole.binds (ps := ["value"]) fun _ _ _ _ _ _ us hl => match us, hl with | [_], _ => rfl
  have bWeb := FWeb.binds (ps := ["web"]) fun _ _ _ _ _ _ us hl => match us, hl with | [_], _ => rfl
  have bRow := FRow.binds (ps := ["row", "place", "size"]) fun _ _ _ _ _ _ us hl => match us, hl with | [_, _, _], _ => rfl
  have bTies := FTies.binds (ps := ["web"]) fun _ _ _ _ _ _ us hl => match us, hl with | [_], _ => rfl
  have bTurned := FTurned.binds (ps := ["web"]) fun _ _ _ _ _ _ us hl => match us, hl with | [_], _ => rfl
  have bAre := FAre.binds (ps := ["people", "size"]) fun _ _ _ _ _ _ us hl => match us, hl with | [_, _], _ => rfl
  have bPairs := FPairs.binds (ps := ["people", "web", "sign"]) fun _ _ _ _ _ _ us hl => match us, hl with | [_, _, _], _ => rfl
  have bThree := FThree.binds (ps := ["web"]) fun _ _ _ _ _ _ us hl => match us, hl with | [_], _ => rfl
  have bFew := FFew.binds (ps := ["size"]) fun _ _ _ _ _ _ us hl => match us, hl with | [_], _ => rfl
  have bThrees := FThrees.binds (ps := ["size"]) fun _ _ _ _ _ _ us hl => match us, hl with | [_], _ => rfl
  have bWebOf := FWebOf.binds (ps := ["size"]) fun _ _ _ _ _ _ us hl => match us, hl with | [_], _ => rfl
  have bKnow := FKnow.binds (ps := ["one", "other", "size"]) fun _ _ _ _ _ _ us hl => match us, hl with | [_, _, _], _ => rfl
  have bSure := FSure.binds (ps := ["known", "unknown"]) fun _ _ _ _ _ _ us hl => match us, hl with | [_, _], _ => rfl
  have bFound := FFound.binds (ps := ["web", "known", "unknown"]) fun _ _ _ _ _ _ us hl => match us, hl with | [_, _, _], _ => rfl
  have bProm := FProm.binds (ps := ["web"]) fun _ _ _ _ _ _ us hl => match us, hl with | [_], _ => rfl
  have bStr := FStr.binds (ps := ["web"]) fun _ _ _ _ _ _ us hl => match us, hl with | [_], _ => rfl
  have bFri := FFri.binds (ps := ["web"]) fun _ _ _ _ _ _ us hl => match us, hl with | [_], _ => rfl
  have bNum := FNum.binds (ps := ["_law_cell", "_law_at", "_law_whole"]) fun _ _ _ _ _ _ us hl => match us, hl with | [_, _, _], _ => rfl
  have bPlain := FPlain.binds (ps := ["_law_thing"]) fun _ _ _ _ _ _ us hl => match us, hl with | [_], _ => rfl
  have bTruths := FTruths.binds (ps := ["_law_things"]) fun _ _ _ _ _ _ us hl => match us, hl with | [_], _ => rfl
  have bWR := FWR.binds (ps := ["_law_web"]) fun _ _ _ _ _ _ us hl => match us, hl with | [_], _ => rfl
  have bTooFew := FTooFew.binds (ps := ["_law_web", "_law_known", "_law_unknown"]) fun _ _ _ _ _ _ us hl => match us, hl with | [_, _, _], _ => rfl
  have bGr := FGr.binds (ps := []) fun _ _ _ _ _ _ us hl => match us, hl with | [], _ => rfl
  have bPR := FPR.binds (ps := []) fun _ _ _ _ _ _ us hl => match us, hl with | [], _ => rfl
  have bApart := FApart.binds (ps := ["web"]) fun _ _ _ _ _ _ us hl => match us, hl with | [_], _ => rfl
  have bAlike := FAlike.binds (ps := ["web"]) fun _ _ _ _ _ _ us hl => match us, hl with | [_], _ => rfl
  have bRing := FRing.binds (ps := ["place", "size"]) fun _ _ _ _ _ _ us hl => match us, hl with | [_, _], _ => rfl
  have bTRow := FTRow.binds (ps := ["row", "place"]) fun _ _ _ _ _ _ us hl => match us, hl with | [_, _], _ => rfl
  have bIK := FIK.binds (ps := ["self", "people"]) fun _ _ _ _ _ _ us hl => match us, hl with | [_, _], _ => rfl
  have bIU := FIU.binds (ps := ["self", "people"]) fun _ _ _ _ _ _ us hl => match us, hl with | [_, _], _ => rfl
  have bSK := FSK.binds (ps := ["self", "web"]) fun _ _ _ _ _ _ us hl => match us, hl with | [_, _], _ => rfl
  have bSU := FSU.binds (ps := ["self", "web"]) fun _ _ _ _ _ _ us hl => match us, hl with | [_, _], _ => rfl
  obtain ⟨ds2, vd2, bC2⟩ := FCo.binds1 (ps := ["value", "least", "most"]) 2 0 (by simp) rfl fun T kV doc pm an cdv ct us its hl hi => match us, hl, its, hi with | [_, _], _, [_], _ => ⟨_, rfl, rfl⟩
  have vd2 : Vals [.non] ds2 := vd2
  obtain ⟨ds3, vd3, bC3⟩ := FCo.binds1 (ps := ["value", "least", "most"]) 3 1 (by simp) rfl fun T kV doc pm an cdv ct us its hl hi => match us, hl, its, hi with | [_, _, _], _, [_], _ => ⟨_, rfl, rfl⟩
  have vd3 : Vals [] ds3 := vd3
  cases vd3
  have B : Bl mg := ⟨gn z0, gn z1, gn z2, gn z3, gn z4, gn z5, gn z6, gn z7, gn z8, gn z9, gn z10, gn z11⟩
  have C : Cn mg := ⟨let ⟨t, e⟩ := kn; ⟨t, gg e⟩, let ⟨t, e⟩ := ap; ⟨t, gg e⟩, let ⟨t, e⟩ := mo; ⟨t, gg e⟩⟩
  have TK : AC K CK := ⟨cK.cl, cK.no⟩
  have TU : AC K CU := ⟨cU.cl, cU.no⟩
  have TE : EC K mg "TooFew" CT := ⟨gg eT.g, eT.q, eT.kp, eT.sb, eT.ty⟩
  have TT : ET K mg CW CC CT CE := ⟨gg gW, gg gC, gg gE, TE, eT.x, mT, tt, tn⟩
  refine ⟨dLaw, [(cApart, PApart), (cAlike, PAlike), (cRing, PRing), (cTRow, PTRow)], spL7 K PApart [PAlike, PRing, PTRow] 1048576, ?_, ?_, ?_, ?_, ?_, ?_⟩
  · intro p hp
    simp only [List.mem_cons, List.not_mem_nil, or_false] at hp
    rcases hp with rfl | rfl | rfl | rfl
    · exact hpApart
    · exact hpAlike
    · exact hpRing
    · exact hpTRow
  · intro p hp
    simp only [List.mem_cons, List.not_mem_nil, or_false] at hp
    rcases hp with rfl | rfl | rfl | rfl
    · exact lApart
    · exact lAlike
    · exact lRing
    · exact lTRow
  · intro p hp
    simp only [List.mem_cons, List.not_mem_nil, or_false] at hp
    rcases hp with rfl | rfl | rfl | rfl
    · exact hcApart
    · exact hcAlike
    · exact hcRing
    · exact hcTRow
  · intro s u
    obtain ⟨oc, od, kV, doc, pm, an, cdv, ct, osl, rfl, _, _⟩ := FLaw.ex
    exact .of_eq rfl
  · intro H a ns hl hb hH hS
    refine ⟨a, ns, rfl, hS, hl, fun z hz => bits_lt (hb z hz), ⟨TabL.nil (hH (cApart, PApart) (List.mem_cons_self ..)), fun p hp => ?_⟩, fun _ => rfl⟩
    simp only [List.mem_cons, List.not_mem_nil, or_false] at hp
    rcases hp with hp | hp | hp
    · rw [hp]; exact ⟨#[], hH (cAlike, PAlike) (List.mem_cons_of_mem _ (List.mem_cons_self ..)), trivial⟩
    · rw [hp]; exact ⟨#[], hH (cRing, PRing) (List.mem_cons_of_mem _ (List.mem_cons_of_mem _ (List.mem_cons_self ..))), trivial⟩
    · rw [hp]; exact ⟨#[], hH (cTRow, PTRow) (List.mem_cons_of_mem _ (List.mem_cons_of_mem _ (List.mem_cons_of_mem _ (List.mem_cons_self ..)))), trivial⟩
  · intro base hK hg hTB
    have TApart_ := hTB (cApart, PApart) (List.mem_cons_self ..)
    have TApart : GxR.TabB base mg cApart PApart := ⟨TApart_.code, TApart_.bm, TApart_.gP⟩
    have TAlike_ := hTB (cAlike, PAlike) (List.mem_cons_of_mem _ (List.mem_cons_self ..))
    have TAlike : GxR.TabB base mg cAlike PAlike := ⟨TAlike_.code, TAlike_.bm, TAlike_.gP⟩
    have TRing_ := hTB (cRing, PRing) (List.mem_cons_of_mem _ (List.mem_cons_of_mem _ (List.mem_cons_self ..)))
    have TRing : GxR.TabB base mg cRing PRing := ⟨TRing_.code, TRing_.bm, TRing_.gP⟩
    have TTRow_ := hTB (cTRow, PTRow) (List.mem_cons_of_mem _ (List.mem_cons_of_mem _ (List.mem_cons_of_mem _ (List.mem_cons_self ..))))
    have TTRow : GxR.TabB base mg cTRow PTRow := ⟨TTRow_.code, TTRow_.bm, TTRow_.gP⟩
    have mAlike : PAlike ∈ [PAlike, PRing, PTRow] := (List.mem_cons_self ..)
    have mRing : PRing ∈ [PAlike, PRing, PTRow] := (List.mem_cons_of_mem _ (List.mem_cons_self ..))
    have mTRow : PTRow ∈ [PAlike, PRing, PTRow] := (List.mem_cons_of_mem _ (List.mem_cons_of_mem _ (List.mem_cons_self ..)))
    have GCo := ok_count (P := l.prog) (w := w) (base := base) FCo FWhole bWhole (gg aWhole) B
    have GWeb := ok_web (P := l.prog) (w := w) (base := base) FWeb FRow bRow (gg aRow) B C
    have GTies := ok_ties (P := l.prog) (w := w) (base := base) FTies GWeb FWeb bWeb (gg aWeb) B C
    have GTRow := ok_tRow (P := l.prog) (w := w) (base := base) FTRow TTRow mTRow B C
    have GTurned := ok_turned (P := l.prog) (w := w) (base := base) FTurned GWeb FWeb bWeb (gg aWeb) GTRow FTRow bTRow (gg aTRow) B
    have GAlike := ok_alike (P := l.prog) (w := w) (base := base) FAlike TAlike mAlike GTies FTies bTies (gg aTies) FThrees bThrees (gg aThrees) B
    have GFew := ok_fewest (P := l.prog) (w := w) (base := base) FFew GCo FCo bC2 vd2 (gg aCo) FThrees bThrees (gg aThrees)
    have GThree := ok_three (P := l.prog) (w := w) (base := base) FThree GWeb FWeb bWeb (gg aWeb) B C (let ⟨t, e⟩ := en; ⟨t, gg e⟩) B.min (gg gcomb) TK (gg cK.gx) cK.mkk FIK bIK TU (gg cU.gx) cU.mkk FIU bIU
    have GRing := ok_ring (P := l.prog) (w := w) (base := base) FRing TRing mRing FKnow (gg aKnow) B C
    have GWebOf := ok_webOf (P := l.prog) (w := w) (base := base) FWebOf GCo FCo bC3 (gg aCo) GRing FRing bRing (gg aRing) B C
    have GSure := ok_sure (P := l.prog) (w := w) (base := base) FSure GCo FCo bC3 (gg aCo) (let ⟨t, e⟩ := ms; ⟨t, gg e⟩) (gg gcm)
    have GFound := ok_found (P := l.prog) (w := w) (base := base) FFound GWeb FWeb bWeb (gg aWeb) B C GSure FSure bSure (gg aSure) TK (gg cK.gx) cK.mkk FIK bIK TU (gg cU.gx) cU.mkk FIU bIU
    have GFF := ok_foundF (P := l.prog) (w := w) (base := base) FFound GWeb FWeb bWeb (gg aWeb) B GSure FSure bSure (gg aSure) TE
    have GTF := ok_tooFew (P := l.prog) (w := w) (base := base) FTooFew B TT GFF GFound FFound bFound (gg aFound)
    have GApart := ok_apart (P := l.prog) (w := w) (base := base) FApart TApart GTies FTies bTies (gg aTies) B C (gn z12) (gn z13)
    have GStr := ok_strangers (P := l.prog) (w := w) (base := base) FStr GApart FApart bApart (gg aApart) B TU (gg cU.gx) cU.mkk FIU bIU
    have GFri := ok_friends (P := l.prog) (w := w) (base := base) FFri hne GApart FApart bApart (gg aApart) B GTurned FTurned bTurned (gg aTurned) TK (gg cK.gx) cK.mkk FIK bIK
    have GAre := ok_are (P := l.prog) (w := w) (base := base) FAre FWhole bWhole (gg aWhole) B
    have GPairs := ok_pairs (P := l.prog) (w := w) (base := base) FPairs (gg gcomb)
    have GSK := ok_showsK (P := l.prog) (w := w) (base := base) FSK TK B C GAre FAre bAre (gg aAre) GPairs FPairs bPairs (gg aPairs)
    have GSU := ok_showsU (P := l.prog) (w := w) (base := base) FSU TU B C GAre FAre bAre (gg aAre) GPairs FPairs bPairs (gg aPairs)
    have GProm := ok_promised (P := l.prog) (w := w) (base := base) FProm GTies FTies bTies (gg aTies) (gg ggcd)
    have GNum := ok_num (P := l.prog) (w := w) (K := K) (mg := mg) (base := base) (N := 1048576 + 6) (by decide) (by decide) FNum
    have GPlain := ok_plain (P := l.prog) (w := w) (base := base) FPlain (gg aPlain) bPlain B (gn z14) (gn z12) 2
    have GTruths := ok_truths (P := l.prog) (w := w) (base := base) FTruths B (gn z12)
    have GWR := ok_wr (P := l.prog) (w := w) (base := base) FWR B hne (gn z14) TK TU (gg cK.gx) (gg cU.gx) cK.mkk FIK bIK cU.mkk FIU bIU GTies ⟨gg aTies, FTies.kp, bTies⟩ GAlike ⟨gg aAlike, FAlike.kp, bAlike⟩ GProm ⟨gg aProm, FProm.kp, bProm⟩ GStr ⟨gg aStr, FStr.kp, bStr⟩ GFri ⟨gg aFri, FFri.kp, bFri⟩ GThree ⟨gg aThree, FThree.kp, bThree⟩ GFound ⟨gg aFound, FFound.kp, bFound⟩ GPlain ⟨gg aPlain, FPlain.kp, bPlain⟩ GTruths ⟨gg aTruths, FTruths.kp, bTruths⟩ GSK cK.ms bSK GSU cU.ms bSU
    have GGr := ok_groups (P := l.prog) (w := w) (base := base) FGr B hne TK TU (gg cK.gx) (gg cU.gx) ic GSure ⟨gg aSure, FSure.kp, bSure⟩ GFound ⟨gg aFound, FFound.kp, bFound⟩ GTF ⟨gg aTooFew, FTooFew.kp, bTooFew⟩ GProm ⟨gg aProm, FProm.kp, bProm⟩ GStr ⟨gg aStr, FStr.kp, bStr⟩ GFri ⟨gg aFri, FFri.kp, bFri⟩ GSK cK.ms bSK GSU cU.ms bSU
    have GPR := ok_promises (P := l.prog) (w := w) (base := base) FPR B hne TK TU (gg cK.gx) (gg cU.gx) cK.mkk FIK bIK cU.mkk FIU bIU GGr ⟨gg aGr, FGr.kp, bGr⟩ GTies ⟨gg aTies, FTies.kp, bTies⟩ GTurned ⟨gg aTurned, FTurned.kp, bTurned⟩ GAlike ⟨gg aAlike, FAlike.kp, bAlike⟩ GThree ⟨gg aThree, FThree.kp, bThree⟩ GFew ⟨gg aFew, FFew.kp, bFew⟩ GWebOf ⟨gg aWebOf, FWebOf.kp, bWebOf⟩ GSK cK.ms bSK GSU cU.ms bSU
    exact ok_l7 FLaw B hne (gn z12) GPR ⟨gg aPR, FPR.kp, bPR⟩ GNum ⟨gg aNum, FNum.kp, bNum⟩ GPlain ⟨gg aPlain, FPlain.kp, bPlain⟩ GFew ⟨gg aFew, FFew.kp, bFew⟩ GSure ⟨gg aSure, FSure.kp, bSure⟩ GWR ⟨gg aWR, FWR.kp, bWR⟩ GWebOf ⟨gg aWebOf, FWebOf.kp, bWebOf⟩
/-- the end, the head's heap told -/
theorem walk_own {l : PySem.W.OpenLaw} {n k : Nat} {q : Program} {loose : List Str} {XP : (Str → Option Value) → Heap → Prop} {YP : World → Heap → Prop} {d : DefRec} {K : Params → PySem.W.Frag} {x : Str}
    (hn : l.most = some n) (hn2 : n ≤ sizeLine) (hdf : d.params.defaults = []) (hr : Room k callerA) (hY : ∀ (w : World) (h : Heap), YP w h → (K w.params).In h)
    (F : ∀ (w : World) (mg mb : Str → Option Value) (mean : ExcName → Option Value) (fa : Addr) (h : Heap), Top q (PySem.W.looseW q loose) mean mg mb h → (K w.params).In h → mg d.name = some (.ref fa) → LamX.LawAtS l w (K w.params) CX0 k n x mg fa h) :
    PySem.W.WalkO q loose XP YP l.row.toRowW d [] (fun f vs => PySem.call f vs) := by
  refine Att.attach_callB hn hdf fun w s₀ s₁ mg mb fa o pm cd doc a vs ns G Y ho hd hcd hmg hobj hints hlen hbits hg => ?_
  have KX := hY w _ Y
  obtain ⟨fd, cs, sp, hT, nT, C, hb, hsp, hF⟩ := F w mg mb _ fa _ G.T KX hmg
  exact LamX.law_callTs KX G.T.g G.T.b G.T.builtins G.T.nolimit hg hT nT C G.T.bmain hobj hints (Nat.le_trans hlen hn2) hr hF hb (fun H hH hS => hsp H a ns hlen hbits hH hS) fun H e s' h => h
end AK
set_option Elab.async false
set_option linter.all false
set_option maxRecDepth 100000
open PySem PySem.W PyProof.Rows
set_option maxHeartbeats 0 in
theorem PySem.Challenge.cw_allknown_k07_whole_numbers_holds : PySem.Challenge.rw_allknown_k07_whole_numbers.Holds := by
  w_on; o_law; k_head; (case hw => w_witness2)
  k_fill
  refine AK.walk_own (l := PySem.Challenge.rw_allknown_k07_whole_numbers) (n := 63) (k := 8) (x := "_law_script") rfl (by decide) rfl ⟨rfl, by decide, by decide⟩ (fun w h Y => PySem.W.km_in_of Y) ?F
  case F =>
    intro w mg mb mean fa h T KX hmg
    refine' AK.all_mk T KX hmg ?pne0 ?pne1 ?pne2 ?r0 ?r1 ?r2 ?r3 ?f0 ?f1 ?f2 ?f3 ?f4 ?f5 ?f6 ?f7 ?f8 ?f9 ?f10 ?f11 ?f12 ?f13 ?f14 ?f15 ?f16 ?f17 ?f18 ?f19 ?f20 ?f21 ?f22 ?f23 ?f24 ?t0 ?t1 ?t2 ?t3 ?uCo ?ukn ?uap ?umo ?uen ?ums ?ucomb ?ucm ?ugcd ?ucK ?ucU ?uAn ?uic ?ueT ?ugW ?ugC ?ugE ?umT ?utt ?utn ?z0 ?z1 ?z2 ?z3 ?z4 ?z5 ?z6 ?z7 ?z8 ?z9 ?z10 ?z11 ?z12 ?z13 ?z14
    case pne0 => kernel_rfl
    case pne1 => kernel_rfl
    case pne2 => kernel_rfl
    case r0 => kernel_rfl
    case r1 => kernel_rfl
    case r2 => kernel_rfl
    case r3 => kernel_rfl
    (case ueT => refine' AK.eat_mk ?vTg ?vTq ?vTkp ?vTsb ?vTty ?vThg ?vThk ?vThd ?vTha ?vThn ?vTht ?vThm; (case vTg => k_is); (case vTq => k_exc); (case vTkp => k_is); (case vTsb => k_is); (case vTty => k_is); (case vThg => k_is); (case vThk => k_is); (case vThd => k_is); (case vTha => k_is); (case vThn => k_is); (case vTht => k_is); (case vThm => k_is))
    (case ugW => k_is)
    (case ugC => k_is)
    (case ugE => k_is)
    (case umT => kernel_rfl)
    (case utt => kernel_rfl)
    (case utn => kernel_rfl)
    (case ucK => refine' AK.cat_mk ?wKgx ?wKpg ?wKhd ?wKpo ?wKsa ?wKno ?wKmk ?wKini ?wKfn ?wKkp ?wKl ?wKc ?wKk ?wKsh ?wKfn2 ?wKk2 ?wKl2 ?wKc2; (case wKgx => k_is); (case wKpg => k_is); (case wKhd => k_is); (case wKpo => k_is); (case wKsa => k_is); (case wKno => k_is); (case wKmk => k_is); (case wKini => k_is); (case wKfn => k_is); (case wKkp => k_is); (case wKl => k_is); (case wKc => k_is); (case wKk => k_is); (case wKsh => k_is); (case wKfn2 => k_is); (case wKk2 => k_is); (case wKl2 => k_is); (case wKc2 => k_is))
    (case ucU => refine' AK.cat_mk ?wUgx ?wUpg ?wUhd ?wUpo ?wUsa ?wUno ?wUmk ?wUini ?wUfn ?wUkp ?wUl ?wUc ?wUk ?wUsh ?wUfn2 ?wUk2 ?wUl2 ?wUc2; (case wUgx => k_is); (case wUpg => k_is); (case wUhd => k_is); (case wUpo => k_is); (case wUsa => k_is); (case wUno => k_is); (case wUmk => k_is); (case wUini => k_is); (case wUfn => k_is); (case wUkp => k_is); (case wUl => k_is); (case wUc => k_is); (case wUk => k_is); (case wUsh => k_is); (case wUfn2 => k_is); (case wUk2 => k_is); (case wUl2 => k_is); (case wUc2 => k_is))
    (case uAn => k_is)
    (case uic => refine' ⟨?xhaK, ?xhaU, ?xhn, ?xhtk, ?xhmK, ?xhmU, ?xka, ?xua, ?xkk, ?xku, ?xuk, ?xuu⟩; (case xhaK => k_is); (case xhaU => k_is); (case xhn => k_is); (case xhtk => k_is); (case xhmK => k_is); (case xhmU => k_is); (case xka => kernel_rfl); (case xua => kernel_rfl); (case xkk => kernel_rfl); (case xku => kernel_rfl); (case xuk => kernel_rfl); (case xuu => kernel_rfl))
    (case ugcd => k_is)
    (case uCo => refine' AK.dat_mk ?ca ?cl ?cc ?ck ?ct; (case ca => k_is); (case cl => k_is); (case cc => k_is); (case ck => k_is); (case ct => k_is))
    (case f0 => refine' AK.fat_mk ?q0a ?q0l ?q0c ?q0k; (case q0a => k_is); (case q0l => k_is); (case q0c => k_is); (case q0k => k_is))
    (case f1 => refine' AK.fat_mk ?q1a ?q1l ?q1c ?q1k; (case q1a => k_is); (case q1l => k_is); (case q1c => k_is); (case q1k => k_is))
    (case f2 => refine' AK.fat_mk ?q2a ?q2l ?q2c ?q2k; (case q2a => k_is); (case q2l => k_is); (case q2c => k_is); (case q2k => k_is))
    (case f3 => refine' AK.fat_mk ?q3a ?q3l ?q3c ?q3k; (case q3a => k_is); (case q3l => k_is); (case q3c => k_is); (case q3k => k_is))
    (case f4 => refine' AK.fat_mk ?q4a ?q4l ?q4c ?q4k; (case q4a => k_is); (case q4l => k_is); (case q4c => k_is); (case q4k => k_is))
    (case f5 => refine' AK.fat_mk ?q5a ?q5l ?q5c ?q5k; (case q5a => k_is); (case q5l => k_is); (case q5c => k_is); (case q5k => k_is))
    (case f6 => refine' AK.fat_mk ?q6a ?q6l ?q6c ?q6k; (case q6a => k_is); (case q6l => k_is); (case q6c => k_is); (case q6k => k_is))
    (case f7 => refine' AK.fat_mk ?q7a ?q7l ?q7c ?q7k; (case q7a => k_is); (case q7l => k_is); (case q7c => k_is); (case q7k => k_is))
    (case f8 => refine' AK.fat_mk ?q8a ?q8l ?q8c ?q8k; (case q8a => k_is); (case q8l => k_is); (case q8c => k_is); (case q8k => k_is))
    (case f9 => refine' AK.fat_mk ?q9a ?q9l ?q9c ?q9k; (case q9a => k_is); (case q9l => k_is); (case q9c => k_is); (case q9k => k_is))
    (case f10 => refine' AK.fat_mk ?q10a ?q10l ?q10c ?q10k; (case q10a => k_is); (case q10l => k_is); (case q10c => k_is); (case q10k => k_is))
    (case f11 => refine' AK.fat_mk ?q11a ?q11l ?q11c ?q11k; (case q11a => k_is); (case q11l => k_is); (case q11c => k_is); (case q11k => k_is))
    (case f12 => refine' AK.fat_mk ?q12a ?q12l ?q12c ?q12k; (case q12a => k_is); (case q12l => k_is); (case q12c => k_is); (case q12k => k_is))
    (case f13 => refine' AK.fat_mk ?q13a ?q13l ?q13c ?q13k; (case q13a => k_is); (case q13l => k_is); (case q13c => k_is); (case q13k => k_is))
    (case f14 => refine' AK.fat_mk ?q14a ?q14l ?q14c ?q14k; (case q14a => k_is); (case q14l => k_is); (case q14c => k_is); (case q14k => k_is))
    (case f15 => refine' AK.fat_mk ?q15a ?q15l ?q15c ?q15k; (case q15a => k_is); (case q15l => k_is); (case q15c => k_is); (case q15k => k_is))
    (case f16 => refine' AK.fat_mk ?q16a ?q16l ?q16c ?q16k; (case q16a => k_is); (case q16l => k_is); (case q16c => k_is); (case q16k => k_is))
    (case f17 => refine' AK.fat_mk ?q17a ?q17l ?q17c ?q17k; (case q17a => k_is); (case q17l => k_is); (case q17c => k_is); (case q17k => k_is))
    (case f18 => refine' AK.fat_mk ?q18a ?q18l ?q18c ?q18k; (case q18a => k_is); (case q18l => k_is); (case q18c => k_is); (case q18k => k_is))
    (case f19 => refine' AK.fat_mk ?q19a ?q19l ?q19c ?q19k; (case q19a => k_is); (case q19l => k_is); (case q19c => k_is); (case q19k => k_is))
    (case f20 => refine' AK.fat_mk ?q20a ?q20l ?q20c ?q20k; (case q20a => k_is); (case q20l => k_is); (case q20c => k_is); (case q20k => k_is))
    (case f21 => refine' AK.fat_mk ?q21a ?q21l ?q21c ?q21k; (case q21a => k_is); (case q21l => k_is); (case q21c => k_is); (case q21k => k_is))
    (case f22 => refine' AK.fat_mk ?q22a ?q22l ?q22c ?q22k; (case q22a => k_is); (case q22l => k_is); (case q22c => k_is); (case q22k => k_is))
    (case f23 => refine' AK.fat_mk ?q23a ?q23l ?q23c ?q23k; (case q23a => k_is); (case q23l => k_is); (case q23c => k_is); (case q23k => k_is))
    (case f24 => refine' AK.fat_mk ?q24a ?q24l ?q24c ?q24k; (case q24a => k_is); (case q24l => k_is); (case q24c => k_is); (case q24k => k_is))
    (case t0 => refine' AK.tat_mk ?p0a ?p0l ?p0hc ?p0k ?p0lc ?p0hv ?p0lP; (case p0a => k_is); (case p0l => k_is); (case p0hc => k_is); (case p0k => k_is); (case p0lc => k_is); (case p0hv => rfl); (case p0lP => kernel_rfl))
    (case t1 => refine' AK.tat_mk ?p1a ?p1l ?p1hc ?p1k ?p1lc ?p1hv ?p1lP; (case p1a => k_is); (case p1l => k_is); (case p1hc => k_is); (case p1k => k_is); (case p1lc => k_is); (case p1hv => rfl); (case p1lP => kernel_rfl))
    (case t2 => refine' AK.tat_mk ?p2a ?p2l ?p2hc ?p2k ?p2lc ?p2hv ?p2lP; (case p2a => k_is); (case p2l => k_is); (case p2hc => k_is); (case p2k => k_is); (case p2lc => k_is); (case p2hv => rfl); (case p2lP => kernel_rfl))
    (case t3 => refine' AK.tat_mk ?p3a ?p3l ?p3hc ?p3k ?p3lc ?p3hv ?p3lP; (case p3a => k_is); (case p3l => k_is); (case p3hc => k_is); (case p3k => k_is); (case p3lc => k_is); (case p3hv => rfl); (case p3lP => kernel_rfl))
    (case ukn => refine' AK.sat_mk ?qkna; (case qkna => k_is))
    (case uap => refine' AK.sat_mk ?qapa; (case qapa => k_is))
    (case umo => refine' AK.iat_mk ?qmoa; (case qmoa => k_is))
    (case uen => refine' AK.iat_mk ?qena; (case qena => k_is))
    (case ums => refine' AK.iat_mk ?qmsa; (case qmsa => k_is))
    (case ucomb => k_is)
    (case ucm => k_is)
    (case z0 => k_is)
    (case z1 => k_is)
    (case z2 => k_is)
    (case z3 => k_is)
    (case z4 => k_is)
    (case z5 => k_is)
    (case z6 => k_is)
    (case z7 => k_is)
    (case z8 => k_is)
    (case z9 => k_is)
    (case z10 => k_is)
    (case z11 => k_is)
    (case z12 => k_is)
    (case z13 => k_is)
    (case z14 => k_is)
