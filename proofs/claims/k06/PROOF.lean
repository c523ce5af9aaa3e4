import PyProof.Rows.All
import Wide.All
import OpenK.AllK
import Wide.FinOn
import HandS.ForMost
import HandS.Star
import PyProof.Draws
import PyProof.ZipIter
import HandS.IsInst
import HandS.JoinGen
import PyProof.GenCompD
import PyProof.SumAny
import PyProof.WalksMore
import HandS.Wide
import HandS.Defaults
import HandS.ForExc
import HandS.RaiseMore
import HandS.FStr
import HandS.ExcIs
import HandS.CallSlots
import HandS.Conv
import KE.KMathGC
import PySem.Challenge.RW_allknown_k06_refused
import PyProof.StrOps2
set_option Elab.async false
set_option linter.all false
set_option maxRecDepth 100000
set_option maxHeartbeats 2000000
namespace AK
open PySem PySem.Spec PyProof.Rows L2

theorem zn_typeCall (us : List Value) : checkTypeCall "zip" ⟨us, []⟩ = pure () := by kernel_rfl
theorem zn_newCall (us : List Value) : checkBuiltinCall "zip.__new__" ⟨.type "zip" :: us, []⟩ = pure () := by
  cases us with
  | nil => kernel_rfl
  | cons u r => kernel_rfl
theorem zn_initArgs (obj : Value) (us : List Value) : argsOk "object.__init__" ⟨obj :: us, []⟩ := by
  unfold argsOk; rw [signature?_of (id := "object.__init__") (n := ['_', '_', 't', 'i', 'n', 'i', '_', '_']) (o := ['t', 'c', 'e', 'j', 'b', 'o']) (by kernel_rfl) F.owner_object]; kernel_rfl

section
variable {M : Model} {A : Around} {E : Value → Shared → Prop}
/-- a loop over a list, by what holds ahead of each turn -/
theorem forIn_turns {α β : Type} {f : α → β → Sem (ForInStep β)} {Q : β → Shared → Prop} (J : Nat → β → Shared → Prop) :
    ∀ (l : List α) (i : Nat) (b : β) (s : Shared), J i b s →
      (∀ k a b s, l[k]? = some a → J (i + k) b s → wpAny M A (f a b) (fun r s' => ∃ b', r = .yield b' ∧ J (i + k + 1) b' s') E s) →
      (∀ b s, J (i + l.length) b s → Q b s) → wpAny M A (forIn l b f) Q E s
  | [], i, b, s, h, _, hQ => by
    rw [List.forIn_nil]
    exact wpAny_pure (hQ b s h)
  | a :: l, i, b, s, h, hs, hQ => by
    rw [List.forIn_cons]
    refine wpAny_bind (wpAny_mono (hs 0 a b s rfl h) (fun r s' ⟨b', e, j⟩ => ?_) fun _ _ x => x)
    subst e
    refine forIn_turns J l (i + 1) b' s' j (fun k a b s hk hj => ?_) fun b s hj => hQ b s ?_
    · have e : i + 1 + k = i + (k + 1) := by omega
      rw [e] at hj ⊢
      exact hs (k + 1) a b s hk hj
    · have e : i + 1 + l.length = i + (l.length + 1) := by omega
      rw [e] at hj
      exact hj
/-- the same where every turn goes on, the state alone is told -/
theorem wpAny_loadIfAlive {a : Addr} {s : Shared} {Q : Option Obj → Shared → Prop} (h : Q (s.heap.get? a) s) : wpAny M A (loadIfAlive a) Q E s := fun _ _ _ => h
end

theorem ne_adr {a b : Nat} (h : a < b ∨ b < a) : a ≠ b := by omega
/-! ### zip over texts of small signs, any number of them -/
def refs (b k : Nat) : List Value := (List.range k).map fun j => Value.ref (b + j)
theorem refs_len (b k : Nat) : (refs b k).length = k := by simp [refs]
theorem refs_get {b k j : Nat} (h : j < k) : (refs b k)[j]? = some (.ref (b + j)) := by simp [refs, h]
theorem refs_succ (b k : Nat) : refs b (k + 1) = refs b k ++ [.ref (b + k)] := by simp [refs, List.range_succ]
def txts (us : List (Str × Tok)) : List Value := us.map fun u => .str u.1 u.2
/-- the zip object at b + n + 2 over the iterators at b .. b + n - 1, the j-th at place c j -/
structure ZAt (h : Heap) (b : Nat) (us : List (Str × Tok)) (c : Nat → Nat) (ok : Value → Prop := fun f0 => f0 = .none ∨ ∃ a t, f0 = .int a t) : Prop where
  z : ∃ f0 f1 : Value, ok f0 ∧ h.get? (b + us.length + 2) = some { cls := .type "zip", dict := none, data := .fields #[f0, f1, .bool false, .ref (b + us.length), .ref (b + us.length + 1)], slots := #[] }
  TI : h.get? (b + us.length) = some { cls := .type "tuple", data := .seq (refs b us.length).toArray }
  TO : ∃ xs : Array Value, xs.size = us.length ∧ h.get? (b + us.length + 1) = some { cls := .type "tuple", data := .seq xs }
  its : ∀ (j : Nat) (u : Str × Tok), us[j]? = some u → h.IsStrIter (b + j) "str_ascii_iterator" u.1 u.2 (c j)
/-- what the j-th text holds at i -/
def SignsAt (us : List (Str × Tok)) (i : Nat) (xs : List Value) : Prop := xs.length = us.length ∧ ∀ (j : Nat) (u : Str × Tok), us[j]? = some u → ∃ c t, u.1.cps[i]? = some c ∧ xs[j]? = some (.str ⟨#[c]⟩ t)
abbrev Out (b n : Nat) (h h' : Heap) : Prop := ∀ c o, ¬(b ≤ c ∧ c < b + n + 3) → h.get? c = some o → h'.get? c = some o
section
variable {prog : Program} {w : World} {A : Around} {E : Value → Shared → Prop} {s : Shared}
theorem iterAll_txts (us : List (Str × Tok)) (ha : ∀ u ∈ us, u.1.cps.all (· < 128) = true) {Q : List Value → Shared → Prop}
    (hQ : ∀ h', h'.objs.size = s.heap.objs.size + us.length → (∀ c o, s.heap.get? c = some o → h'.get? c = some o) →
      (∀ (j : Nat) (u : Str × Tok), us[j]? = some u → h'.IsStrIter (s.heap.objs.size + j) "str_ascii_iterator" u.1 u.2 0) → Q (refs s.heap.objs.size us.length) { s with heap := h' }) :
    wpAny (model prog w) A (Builtin.SmallTypes.iterAll (txts us)) Q E s := by
  unfold Builtin.SmallTypes.iterAll
  refine wpAny_bind ?_
  refine forIn_turns (fun i b s' => b.toList = refs s.heap.objs.size i ∧ ∃ h', s' = { s with heap := h' } ∧ h'.objs.size = s.heap.objs.size + i ∧ (∀ c o, s.heap.get? c = some o → h'.get? c = some o) ∧
      (∀ (j : Nat) (u : Str × Tok), j < i → us[j]? = some u → h'.IsStrIter (s.heap.objs.size + j) "str_ascii_iterator" u.1 u.2 0)) (txts us) 0 _ _
    ⟨rfl, s.heap, rfl, rfl, fun _ _ e => e, fun j u h => absurd h (Nat.not_lt_zero _)⟩ (fun k a b s' hk hj => ?_) fun b s' hj => ?_
  · rw [Nat.zero_add] at hj ⊢
    obtain ⟨eb, h', rfl, sz, kp, its⟩ := hj
    obtain ⟨u, hu, rfl⟩ : ∃ u, us[k]? = some u ∧ a = .str u.1 u.2 := by
      unfold txts at hk
      rw [List.getElem?_map] at hk
      cases e : us[k]? with
      | none => rw [e] at hk; cases hk
      | some u => rw [e] at hk; exact ⟨u, rfl, (Option.some.inj hk).symm⟩
    refine wpAny_bind (wpAny_holding (wpAny_pyIter_ascii (ha u (List.mem_of_getElem? hu)) (wpAny_pure ⟨_, rfl, ?_, _, rfl, ?_, fun c o e => Heap.get?_push_of_some _ (kp c o e), fun j v hj hv => ?_⟩)))
    · show (b.push (.ref h'.objs.size)).toList = _
      rw [Array.toList_push, eb, refs_succ, sz]
    · rw [Heap.size_push]
      show h'.objs.size + 1 = _
      rw [sz]; omega
    · by_cases e : j = k
      · subst e
        rw [hu] at hv; cases hv
        have q : (h'.push { cls := .type "str_ascii_iterator", data := .fields #[.str u.1 u.2, .int 0 0] }).get? (s.heap.objs.size + j) = some { cls := .type "str_ascii_iterator", data := .fields #[.str u.1 u.2, .int 0 0] } := by
          rw [← sz]; exact Heap.get?_push_size _ rfl
        exact ⟨_, q, rfl, rfl⟩
      · obtain ⟨o, ho, r⟩ := its j v (by omega) hv
        exact ⟨o, Heap.get?_push_of_some _ ho, r⟩
  · obtain ⟨eb, h', rfl, sz, kp, its⟩ := hj
    have el : 0 + (txts us).length = us.length := by unfold txts; rw [List.length_map, Nat.zero_add]
    rw [el] at eb sz its
    refine wpAny_pure ?_
    rw [eb]
    exact hQ h' sz kp fun j u hu => its j u (List.getElem?_eq_some_iff.mp hu).1 hu

theorem newClass_zip (us : List Value) {Q : Value × List Value → Shared → Prop} (h : Q (.type "zip", us) s) : wpAny (model prog w) A (Builtin.SmallTypes.newClass "zip" ⟨.type "zip" :: us, []⟩) Q E s := by
  unfold Builtin.SmallTypes.newClass
  show wpAny _ _ (isType (.type "zip") >>= _) _ _ s
  refine wpAny_bind (m := isType (.type "zip")) (wpAny_of_eq (a := true) rfl ?_)
  show wpAny _ _ (isSubtype (.type "zip") (.type "zip") >>= _) _ _ s
  refine wpAny_bind (wpAny_of_eq sub_zip ?_)
  exact wpAny_pure h
theorem meets_zipN (us : List (Str × Tok)) (ha : ∀ u ∈ us, u.1.cps.all (· < 128) = true) (hl : us.length ≤ 1000) :
    Meets (Builtin.«zip.__new__» ⟨.type "zip" :: txts us, []⟩) (fun _ R s => ∀ h', ZAt h' s.heap.objs.size us (fun _ => 0) → h'.objs.size = s.heap.objs.size + us.length + 3 → (∀ c o, s.heap.get? c = some o → h'.get? c = some o) →
      R (.ok (.ret (.ref (s.heap.objs.size + us.length + 2)))) { s with heap := h' }) :=
  .of_wp fun prog w A R s h => by
    unfold Builtin.«zip.__new__»
    refine wpAny_bind (newClass_zip _ ?_)
    show wpAny _ _ (Builtin.SmallTypes.iterAll (txts us) >>= _) _ _ s
    refine wpAny_bind (iterAll_txts us ha fun h1 sz1 kp1 its1 => ?_)
    generalize hb : s.heap.objs.size = b at *
    have hs : us.length ≤ sizeLine := Nat.le_trans hl (by decide)
    have el : (refs b us.length).length = us.length := refs_len _ _
    refine wpAny_bind (wpAny_newTuple ?_ (by rw [el]; exact hs))
    refine wpAny_bind (wpAny_newTuple ?_ (by rw [List.length_map, el]; exact hs))
    unfold Builtin.SmallTypes.newRecord
    refine wpAny_bind (wpAny_newObj_type ?_ (by show (5 : Nat) ≤ sizeLine + 2; decide))
    refine wpAny_pure ⟨_, rfl, ?_⟩
    generalize e2 : (h1.push { cls := .type "tuple", data := .seq (refs b us.length).toArray } : Heap) = h2
    generalize e3 : (h2.push { cls := .type "tuple", data := .seq ((refs b us.length).map fun _ => Value.none).toArray } : Heap) = h3
    have sz2 : h2.objs.size = b + us.length + 1 := by rw [← e2, Heap.size_push, sz1]
    have sz3 : h3.objs.size = b + us.length + 2 := by rw [← e3, Heap.size_push, sz2]
    have up : ∀ (o3 : Obj) c o, h1.get? c = some o → (h3.push o3).get? c = some o := fun o3 c o e => by
      refine Heap.get?_push_of_some _ ?_
      rw [← e3]
      refine Heap.get?_push_of_some _ ?_
      rw [← e2]
      exact Heap.get?_push_of_some _ e
    have g1 : h2.get? (b + us.length) = some { cls := .type "tuple", data := .seq (refs b us.length).toArray } := by
      rw [← e2, ← sz1]; exact Heap.get?_push_size _ rfl
    have g2 : h3.get? (b + us.length + 1) = some { cls := .type "tuple", data := .seq ((refs b us.length).map fun _ => Value.none).toArray } := by
      rw [← e3, ← sz2]; exact Heap.get?_push_size _ rfl
    have g1' : h3.get? (b + us.length) = some { cls := .type "tuple", data := .seq (refs b us.length).toArray } := by
      rw [← e3]; exact Heap.get?_push_of_some _ g1
    show R (.ok (.ret (.ref h3.objs.size))) _
    rw [sz3]
    refine h _ ⟨⟨.none, .bool false, .inl rfl, ?_⟩, Heap.get?_push_of_some _ g1', ⟨_, ?_, Heap.get?_push_of_some _ g2⟩, fun j u hu => ?_⟩ ?_ fun c o e => up _ c o (kp1 c o e)
    · rw [← sz3]
      have q : (h3.push { cls := .type "zip", dict := none, data := .fields (Builtin.SmallTypes.ownedTupleFields ++ [Value.bool false, .ref h1.objs.size, .ref h2.objs.size]).toArray, slots := #[] }).get? h3.objs.size = some { cls := .type "zip", dict := none, data := .fields (Builtin.SmallTypes.ownedTupleFields ++ [Value.bool false, .ref h1.objs.size, .ref h2.objs.size]).toArray, slots := #[] } := Heap.get?_push_size _ rfl
      exact q.trans (by rw [sz1, sz2] <;> rfl)
    · simp [refs]
    · obtain ⟨o, ho, r⟩ := its1 j u hu
      exact ⟨o, up _ _ o ho, r⟩
    · rw [Heap.size_push, sz3]
theorem call_zipN {us : List (Str × Tok)} {Q : Value → Shared → Prop} (ha : ∀ u ∈ us, u.1.cps.all (· < 128) = true) (hl : us.length ≤ 1000)
    (hQ : ∀ h', ZAt h' s.heap.objs.size us (fun _ => 0) → h'.objs.size = s.heap.objs.size + us.length + 3 → (∀ c o, s.heap.get? c = some o → h'.get? c = some o) → Q (.ref (s.heap.objs.size + us.length + 2)) { s with heap := h' }) :
    wpAny (model prog w) A (call (.type "zip") (txts us)) Q E s := by
  refine callType_new F.called_zip (by decide) (zn_typeCall _) (zn_newCall _) (fun obj => zn_initArgs obj _) F.entry_zip_new (meets_zipN us ha hl) fun h' Z sz kp => ?_
  obtain ⟨f0, f1, _, q⟩ := id Z.z
  exact ⟨⟨_, q, rfl⟩, hQ h' Z sz kp⟩

variable {b : Nat} {us : List (Str × Tok)} {c : Nat → Nat} {ok : Value → Prop} {h h' : Heap}
theorem ZAt.lt (Z : ZAt h b us c ok) : b + us.length + 2 < h.objs.size := let ⟨_, _, _, e⟩ := Z.z; Heap.lt_size e
/-- the k-th iterator has turned -/
theorem ZAt.draw {k i : Nat} {u : Str × Tok} (Z : ZAt h b us c ok) (hu : us[k]? = some u) (sb : Heap.SameBut (b + k) h h') (hit : h'.IsStrIter (b + k) "str_ascii_iterator" u.1 u.2 i) {c' : Nat → Nat} (h1 : c' k = i) (h2 : ∀ j, j ≠ k → c' j = c j) : ZAt h' b us c' ok := by
  have hk : k < us.length := (List.getElem?_eq_some_iff.mp hu).1
  obtain ⟨⟨f0, f1, ho, hz⟩, hTI, ⟨xs, hx, hTO⟩, its⟩ := Z
  refine ⟨⟨f0, f1, ho, (sb.2 _ (ne_adr (by omega))).trans hz⟩, (sb.2 _ (ne_adr (by omega))).trans hTI, ⟨xs, hx, (sb.2 _ (ne_adr (by omega))).trans hTO⟩, fun j v hv => ?_⟩
  by_cases e : j = k
  · subst e
    rw [hu] at hv; cases hv
    rw [h1]; exact hit
  · obtain ⟨o, ho, r⟩ := its j v hv
    rw [h2 j e]
    exact ⟨o, (sb.2 _ (ne_adr (by omega))).trans ho, r⟩
/-- the zip object's own fields have changed -/
theorem ZAt.mark {ok' : Value → Prop} {f0 f1 : Value} (Z : ZAt h b us c ok) (sb : Heap.SameBut (b + us.length + 2) h h') (e : h'.get? (b + us.length + 2) = some { cls := .type "zip", dict := none, data := .fields #[f0, f1, .bool false, .ref (b + us.length), .ref (b + us.length + 1)], slots := #[] })
    (ho : ok' f0) : ZAt h' b us c ok' := by
  obtain ⟨_, hTI, ⟨xs, hx, hTO⟩, its⟩ := Z
  refine ⟨⟨f0, f1, ho, e⟩, (sb.2 _ (ne_adr (by omega))).trans hTI, ⟨xs, hx, (sb.2 _ (ne_adr (by omega))).trans hTO⟩, fun j v hv => ?_⟩
  have hk : j < us.length := (List.getElem?_eq_some_iff.mp hv).1
  obtain ⟨o, ho, r⟩ := its j v hv
  exact ⟨o, (sb.2 _ (ne_adr (by omega))).trans ho, r⟩
/-- the owned tuple has changed -/
theorem ZAt.own {xs : Array Value} (Z : ZAt h b us c ok) (sb : Heap.SameBut (b + us.length + 1) h h') (hx : xs.size = us.length) (e : h'.get? (b + us.length + 1) = some { cls := .type "tuple", data := .seq xs }) : ZAt h' b us c ok := by
  obtain ⟨⟨f0, f1, ho, hz⟩, hTI, _, its⟩ := Z
  refine ⟨⟨f0, f1, ho, (sb.2 _ (ne_adr (by omega))).trans hz⟩, (sb.2 _ (ne_adr (by omega))).trans hTI, ⟨xs, hx, e⟩, fun j v hv => ?_⟩
  have hk : j < us.length := (List.getElem?_eq_some_iff.mp hv).1
  obtain ⟨o, ho, r⟩ := its j v hv
  exact ⟨o, (sb.2 _ (ne_adr (by omega))).trans ho, r⟩
theorem ZAt.kept (Z : ZAt h b us c ok) (k : ∀ c o, b ≤ c → c < b + us.length + 3 → h.get? c = some o → h'.get? c = some o) : ZAt h' b us c ok := by
  obtain ⟨⟨f0, f1, ho, hz⟩, hTI, ⟨xs, hx, hTO⟩, its⟩ := Z
  refine ⟨⟨f0, f1, ho, k _ _ (by omega) (by omega) hz⟩, k _ _ (by omega) (by omega) hTI, ⟨xs, hx, k _ _ (by omega) (by omega) hTO⟩, fun j v hv => ?_⟩
  have hk : j < us.length := (List.getElem?_eq_some_iff.mp hv).1
  obtain ⟨o, ho, r⟩ := its j v hv
  exact ⟨o, k _ _ (by omega) (by omega) ho, r⟩
theorem ZAt.congr {c' : Nat → Nat} (Z : ZAt h b us c ok) (e : ∀ j, j < us.length → c' j = c j) : ZAt h b us c' ok :=
  ⟨Z.z, Z.TI, Z.TO, fun j u hu => by rw [e j (List.getElem?_eq_some_iff.mp hu).1]; exact Z.its j u hu⟩
theorem Out.but {n : Nat} {g : Heap} {a : Nat} (x : Out b n g h) (sb : Heap.SameBut a h h') (ha : b ≤ a ∧ a < b + n + 3) : Out b n g h' := fun d o hd e => (sb.2 d (fun z => hd (by rw [z]; exact ha))).trans (x d o hd e)


theorem zip_free (Z : ZAt s.heap b us c) {Q : Bool → Shared → Prop} (hQ : ∀ r h', ZAt h' b us c → Heap.SameBut (b + us.length + 2) s.heap h' → Q r { s with heap := h' }) :
    wpAny (model prog w) A (Builtin.SmallTypes.ownedTupleIsFree (.ref (b + us.length + 2))) Q E s := by
  obtain ⟨f0, f1, hf0, hz⟩ := id Z.z
  unfold Builtin.SmallTypes.ownedTupleIsFree
  refine wpAny_bind (wpAny_field hz rfl (x := f0) rfl ?_)
  rcases hf0 with rfl | ⟨a, ta, rfl⟩
  · exact wpAny_pure (hQ true _ Z (Heap.SameBut.refl _ _))
  · show wpAny _ _ (loadIfAlive a.toNat >>= _) _ _ _
    refine wpAny_bind (wpAny_loadIfAlive ?_)
    cases e : s.heap.get? a.toNat with
    | none => exact wpAny_pure (hQ true _ Z (Heap.SameBut.refl _ _))
    | some o =>
      show wpAny _ _ (field (.ref (b + us.length + 2)) 1 >>= _) _ _ _
      refine wpAny_bind (wpAny_field hz rfl (x := f1) rfl ?_)
      split
      · refine wpAny_bind (wpAny_setField_rec hz (by simp) fun h' hz' sb => ?_)
        exact wpAny_pure (hQ false _ (Z.mark sb hz' (.inr ⟨a, ta, rfl⟩)) sb)
      · exact wpAny_pure (hQ false _ Z (Heap.SameBut.refl _ _))
theorem refs_at {k : Nat} {x : Value} (h : (refs b us.length)[k]? = some x) : ∃ u, us[k]? = some u ∧ x = .ref (b + k) := by
  have hk : k < us.length := by
    have := (List.getElem?_eq_some_iff.mp h).1
    rw [refs_len] at this
    exact this
  rw [refs_get hk] at h
  exact ⟨us[k], List.getElem?_eq_getElem hk, (Option.some.inj h).symm⟩
/-- so far: the first k of the signs at i -/
def SignsTo (us : List (Str × Tok)) (i k : Nat) (xs : List Value) : Prop := ∀ (j : Nat) (u : Str × Tok), j < k → us[j]? = some u → ∃ c t, u.1.cps[i]? = some c ∧ xs[j]? = some (.str ⟨#[c]⟩ t)
theorem zipN_item {i : Nat} {Q : Value → Shared → Prop} (Z : ZAt s.heap b us (fun _ => i)) (hne : us ≠ []) (hl : us.length ≤ 1000) (hi : ∀ u ∈ us, i < u.1.cps.size)
    (hQ : ∀ T h' tk xs, s.heap.objs.size ≤ T → h'.get? T = some { cls := .type "tuple", data := .seq (List.toArray xs) } → SignsAt us i xs → ZAt h' b us (fun _ => i + 1) → Out b us.length s.heap h' → Q (.ref T) { s with heap := h', toks := tk }) :
    wpAny (model prog w) A (Builtin.«zip.__next__» ⟨[.ref (b + us.length + 2)], []⟩) (fun fin s' => ∃ v, fin = .done (.ret v) ∧ Q v s') E s := by
  obtain ⟨f0, f1, hf0, hz⟩ := id Z.z
  have hne' : us.length ≠ 0 := fun e => hne (List.length_eq_zero_iff.mp e)
  show wpAny _ _ (field (.ref (b + us.length + 2)) 2 >>= _) _ _ _
  refine wpAny_bind (wpAny_field hz rfl (x := .bool false) rfl ?_)
  show wpAny _ _ (field (.ref (b + us.length + 2)) 3 >>= _) _ _ _
  refine wpAny_bind (wpAny_field hz rfl (x := .ref (b + us.length)) rfl ?_)
  refine wpAny_bind (wpAny_seqItems Z.TI rfl ?_)
  have hemp : (refs b us.length).toArray.isEmpty = false := by
    rw [Array.isEmpty_eq_false_iff]
    intro e
    have := congrArg Array.size e
    simp [refs] at this
    exact hne (by simpa using this)
  show wpAny _ _ (if (refs b us.length).toArray.isEmpty = true then _ else _) _ _ _
  rw [if_neg (by rw [hemp]; exact Bool.false_ne_true)]
  refine wpAny_bind (zip_free Z fun r h1 Z1 sb1 => ?_)
  have O1 : Out b us.length s.heap h1 := fun d o hd e => (sb1.2 d (fun z => hd (by rw [z]; omega))).trans e
  cases r with
  | true =>
    rw [if_pos rfl]
    refine wpAny_bind (wpAny_rule ?_)
    obtain ⟨g0, g1, hg0, hz1⟩ := id Z1.z
    refine wpAny_bind (wpAny_field hz1 rfl (x := .ref (b + us.length + 1)) rfl ?_)
    refine wpAny_bind (wpAny_setField_rec hz1 (by simp) fun h2 hz2 sb2 => ?_)
    have Z2 : ZAt h2 b us (fun _ => i) (fun _ => True) := Z1.mark sb2 hz2 trivial
    have O2 : Out b us.length s.heap h2 := O1.but sb2 (by omega)
    refine wpAny_bind ?_
    refine forIn_turns (fun k r s' => r = (none, ()) ∧ ∃ h' tk xs, s' = { s with heap := h', toks := tk } ∧ ZAt h' b us (fun j => if j < k then i + 1 else i) (fun _ => True) ∧ Out b us.length s.heap h' ∧ h'.objs.size = s.heap.objs.size ∧
      xs.length = us.length ∧ h'.get? (b + us.length + 1) = some { cls := .type "tuple", data := .seq (List.toArray xs) } ∧ SignsTo us i k xs) _ 0 _ _ ⟨rfl, h2, s.toks, ?_⟩ (fun k a r s' hk hj => ?_) fun r s' hj => ?_
    · obtain ⟨xs, hx, hTO⟩ := Z2.TO
      refine ⟨xs.toList, rfl, Z2.congr fun j _ => by simp, O2, sb2.1.trans sb1.1, by simpa using hx, by simpa using hTO, fun j u h => absurd h (Nat.not_lt_zero _)⟩
    · rw [Nat.zero_add] at hj ⊢
      obtain ⟨rfl, h3, tk, xs, rfl, Z3, O3, sz3, lx, hTO3, sg⟩ := hj
      rw [List.toList_toArray, List.getElem?_zipIdx] at hk
      obtain ⟨y, hy, ea⟩ := Option.map_eq_some_iff.mp hk
      obtain ⟨u, hu, rfl⟩ := refs_at hy
      subst ea
      rw [Nat.zero_add]
      have hkl : k < us.length := (List.getElem?_eq_some_iff.mp hu).1
      have hit := Z3.its k u hu
      rw [if_neg (Nat.lt_irrefl k)] at hit
      obtain ⟨c, hc⟩ : ∃ c, u.1.cps[i]? = some c := ⟨_, Array.getElem?_eq_getElem (hi u (List.mem_of_getElem? hu))⟩
      refine wpAny_bind (wpAny_onRaise ?_)
      show wpAny _ _ (Builtin.SmallTypes.nextOf (.ref (b + k)) >>= _) _ _ _
      refine wpAny_bind (wpAny_nextOf_ascii_item (s := { s with heap := h3, toks := tk }) hit hc fun h4 hit4 sb4 => wpAny_pure ?_)
      have hTO4 := (sb4.2 _ (ne_adr (.inr (by omega)))).trans hTO3
      have Z4 : ZAt h4 b us (fun j => if j < k + 1 then i + 1 else i) (fun _ => True) := Z3.draw hu sb4 hit4 (if_pos (Nat.lt_succ_self k)) fun j hj => by
        by_cases e : j < k
        · rw [if_pos e, if_pos (by omega)]
        · rw [if_neg e, if_neg (by omega)]
      refine wpAny_bind (wpAny_seqItems hTO4 rfl ?_)
      refine wpAny_bind (wpAny_updateSeq hTO4 rfl ?_ (by rw [List.size_toArray, lx]; exact Nat.le_trans hl (by decide)) (by rw [Array.size_setIfInBounds, List.size_toArray, lx]; exact Nat.le_trans hl (by decide)))
      have hTO5 := Heap.get?_update_self (Obj.mapSeq fun x_1 => x_1.setIfInBounds k (Value.str ⟨#[c]⟩ tk)) hTO4 rfl
      have sb5 := Heap.SameBut.update h4 (b + us.length + 1) (Obj.mapSeq fun x_1 => x_1.setIfInBounds k (Value.str ⟨#[c]⟩ tk))
      have hTO6 : (h4.update (b + us.length + 1) (Obj.mapSeq fun x_1 => x_1.setIfInBounds k (Value.str ⟨#[c]⟩ tk))).get? (b + us.length + 1) = some { cls := .type "tuple", data := .seq (List.toArray (xs.set k (Value.str ⟨#[c]⟩ tk))) } := by
        rw [hTO5]
        simp [Obj.mapSeq]
      refine wpAny_bind (wpAny_letGo (wpAny_pure ⟨_, rfl, rfl, _, _, xs.set k (.str ⟨#[c]⟩ tk), rfl, Z4.own sb5 (by simp [lx]) hTO6, (O3.but sb4 (by omega)).but sb5 (by omega), ?_, by rw [List.length_set, lx], hTO6, fun j v hj hv => ?_⟩))
      · rw [sb5.1, sb4.1]; exact sz3
      · by_cases e : j = k
        · subst e
          rw [hu] at hv; cases hv
          exact ⟨c, tk, hc, by rw [List.getElem?_set_self (by omega)]⟩
        · obtain ⟨c', t', h1', h2'⟩ := sg j v (by omega) hv
          exact ⟨c', t', h1', by rw [List.getElem?_set_ne (Ne.symm e)]; exact h2'⟩
    · obtain ⟨rfl, h3, tk, xs, rfl, Z3, O3, sz3, lx, hTO3, sg⟩ := hj
      have el : 0 + ((refs b us.length).toArray.toList.zipIdx).length = us.length := by simp [refs]
      rw [el] at Z3 sg
      refine wpAny_bind (wpAny_seqItems hTO3 rfl ?_)
      refine wpAny_bind (wpAny_newTuple ?_ (by show xs.length ≤ _; rw [lx]; exact Nat.le_trans hl (by decide)))
      obtain ⟨g3, g4, _, hz3⟩ := id Z3.z
      generalize e4 : h3.push { cls := .type "tuple", data := .seq xs.toArray } = h4
      have sz4 : h4.objs.size = s.heap.objs.size + 1 := by rw [← e4, Heap.size_push, sz3]
      have up4 : ∀ d o, h3.get? d = some o → h4.get? d = some o := fun d o e => by rw [← e4]; exact Heap.get?_push_of_some _ e
      have hT4 : h4.get? s.heap.objs.size = some { cls := .type "tuple", data := .seq xs.toArray } := by rw [← e4, ← sz3]; exact Heap.get?_push_size _ rfl
      have Z4 : ZAt h4 b us (fun _ => i + 1) (fun _ => True) := (Z3.kept fun d o _ _ e => up4 d o e).congr fun j hj => by rw [if_pos hj]
      have hzb := Z.lt
      obtain ⟨g3, g4, _, hz4⟩ := id Z4.z
      show wpAny _ _ (Builtin.SmallTypes.ownedTupleHandOut (.ref (b + us.length + 2)) (.ref h3.objs.size) >>= _) _ _ _
      refine wpAny_bind ?_
      unfold Builtin.SmallTypes.ownedTupleHandOut
      refine wpAny_bind (wpAny_setField_rec (s := { s with heap := _, toks := tk }) hz4 (by simp) fun h5 hz5 sb5 => ?_)
      refine wpAny_setField_rec hz5 (by simp) fun h6 hz6 sb6 => ?_
      refine wpAny_pure ⟨_, rfl, ?_⟩
      rw [sz3]
      rw [sz3] at hz5 hz6
      have Z6 := Z4.mark (ok' := fun f0 => f0 = .none ∨ ∃ a t, f0 = .int a t) (h' := h6) ⟨sb6.1.trans sb5.1, fun d hd => (sb6.2 d hd).trans (sb5.2 d hd)⟩ hz6 (.inr ⟨_, _, rfl⟩)
      refine hQ _ h6 tk xs (Nat.le_refl _) ?_ ⟨lx, fun j u hu => sg j u (List.getElem?_eq_some_iff.mp hu).1 hu⟩ Z6 fun d o hd e => ?_
      · have hn : s.heap.objs.size ≠ b + us.length + 2 := Nat.ne_of_gt hzb
        rw [sb6.2 _ hn, sb5.2 _ hn]
        exact hT4
      · have hn : d ≠ b + us.length + 2 := fun z => hd (by rw [z]; omega)
        rw [sb6.2 _ hn, sb5.2 _ hn]
        exact up4 d o (O3 d o hd e)
  | false =>
    rw [if_neg Bool.false_ne_true]
    show wpAny _ _ (forIn (refs b us.length).toArray _ _ >>= _) _ _ _
    rw [List.forIn_toArray]
    refine wpAny_bind ?_
    refine forIn_turns (fun k r s' => ∃ xs : List Value, r = (none, xs.toArray) ∧ ∃ h' tk, s' = { s with heap := h', toks := tk } ∧ ZAt h' b us (fun j => if j < k then i + 1 else i) ∧ Out b us.length s.heap h' ∧ h'.objs.size = s.heap.objs.size ∧
      xs.length = k ∧ SignsTo us i k xs) _ 0 _ _ ⟨[], rfl, h1, s.toks, rfl, Z1.congr fun j _ => by simp, O1, sb1.1, rfl, fun j u h => absurd h (Nat.not_lt_zero _)⟩ (fun k a r s' hk hj => ?_) fun r s' hj => ?_
    · rw [Nat.zero_add] at hj ⊢
      obtain ⟨xs, rfl, h3, tk, rfl, Z3, O3, sz3, lx, sg⟩ := hj
      obtain ⟨u, hu, rfl⟩ := refs_at hk
      have hkl : k < us.length := (List.getElem?_eq_some_iff.mp hu).1
      have hit := Z3.its k u hu
      rw [if_neg (Nat.lt_irrefl k)] at hit
      obtain ⟨c, hc⟩ : ∃ c, u.1.cps[i]? = some c := ⟨_, Array.getElem?_eq_getElem (hi u (List.mem_of_getElem? hu))⟩
      refine wpAny_bind (wpAny_holding ?_)
      show wpAny _ _ (Builtin.SmallTypes.nextOf (.ref (b + k)) >>= _) _ _ _
      refine wpAny_bind (wpAny_nextOf_ascii_item (s := { s with heap := h3, toks := tk }) hit hc fun h4 hit4 sb4 => wpAny_pure ?_)
      have Z4 : ZAt h4 b us (fun j => if j < k + 1 then i + 1 else i) := Z3.draw hu sb4 hit4 (if_pos (Nat.lt_succ_self k)) fun j hj => by
        by_cases e : j < k
        · rw [if_pos e, if_pos (by omega)]
        · rw [if_neg e, if_neg (by omega)]
      refine wpAny_pure ⟨_, rfl, xs ++ [.str ⟨#[c]⟩ tk], by simp, _, _, rfl, Z4, O3.but sb4 (by omega), sb4.1.trans sz3, by simp [lx], fun j v hj hv => ?_⟩
      by_cases e : j = k
      · subst e
        rw [hu] at hv; cases hv
        exact ⟨c, tk, hc, by rw [List.getElem?_append_right (by omega), lx, Nat.sub_self] <;> rfl⟩
      · obtain ⟨c', t', h1', h2'⟩ := sg j v (by omega) hv
        exact ⟨c', t', h1', by rw [List.getElem?_append_left (by omega)]; exact h2'⟩
    · obtain ⟨xs, rfl, h3, tk, rfl, Z3, O3, sz3, lx, sg⟩ := hj
      have el : 0 + (refs b us.length).length = us.length := by simp [refs]
      rw [el] at Z3 sg lx
      refine wpAny_bind (wpAny_newTuple ?_ (by show xs.length ≤ _; rw [lx]; exact Nat.le_trans hl (by decide)))
      refine wpAny_pure ⟨_, rfl, ?_⟩
      show Q (.ref h3.objs.size) _
      rw [sz3]
      refine hQ _ _ tk xs (Nat.le_refl _) (by rw [← sz3]; exact Heap.get?_push_size _ rfl) ⟨lx, fun j u hu => sg j u (List.getElem?_eq_some_iff.mp hu).1 hu⟩ ((Z3.kept fun d o _ _ e => Heap.get?_push_of_some _ e).congr fun j hj => by rw [if_pos hj]) fun d o hd e => Heap.get?_push_of_some _ (O3 d o hd e)
/-- StopIteration is raised -/
theorem stop_new {α : Type} {Q : α → Shared → Prop} (hh : A.handled = none) (hE : ∀ h' e, (∀ d o, s.heap.get? d = some o → h'.get? d = some o) → (∃ o, h'.get? e = some o ∧ o.cls = .type "StopIteration") → E (.ref e) { s with heap := h' }) :
    wpAny (model prog w) A (Builtin.SmallTypes.stopIteration : Sem α) Q E s := by
  unfold Builtin.SmallTypes.stopIteration
  refine wpAny_bind ?_
  simp only [newExc, newTuple]
  refine wpAny_bind (wpAny_newObj_type ?_ (by size_fits))
  refine wpAny_bind (m := firstArgMember _ _) (wpAny_of_eq (a := Value.none) (by first | rfl | (simp only [firstArgMember]; rfl)) ?_)
  refine wpAny_newObj_type ?_ (by size_fits)
  simp only [raiseNew]
  refine wpAny_bind (wpAny_handled ?_)
  rw [hh]
  refine wpAny_bind (wpAny_pure (wpAny_throw ?_))
  exact hE _ _ (fun d o e => Heap.get?_push_of_some _ (Heap.get?_push_of_some _ e)) ⟨_, Heap.get?_push_size _ rfl, rfl⟩
/-- the first text is at its end (or there is none) -/
theorem zipN_end {i : Nat} {Q : PySem.Fin → Shared → Prop} (hh : A.handled = none) (Z : ZAt s.heap b us (fun _ => i)) (hi : ∀ u, us[0]? = some u → u.1.cps[i]? = none)
    (hE : ∀ h' e, Out b us.length s.heap h' → (∃ o, h'.get? e = some o ∧ o.cls = .type "StopIteration") → E (.ref e) { s with heap := h' }) :
    wpAny (model prog w) A (Builtin.«zip.__next__» ⟨[.ref (b + us.length + 2)], []⟩) Q E s := by
  obtain ⟨f0, f1, hf0, hz⟩ := id Z.z
  show wpAny _ _ (field (.ref (b + us.length + 2)) 2 >>= _) _ _ _
  refine wpAny_bind (wpAny_field hz rfl (x := .bool false) rfl ?_)
  show wpAny _ _ (field (.ref (b + us.length + 2)) 3 >>= _) _ _ _
  refine wpAny_bind (wpAny_field hz rfl (x := .ref (b + us.length)) rfl ?_)
  refine wpAny_bind (wpAny_seqItems Z.TI rfl ?_)
  cases us with
  | nil =>
    show wpAny _ _ (if (refs b 0).toArray.isEmpty = true then _ else _) _ _ _
    rw [if_pos (by rfl)]
    refine wpAny_bind (wpAny_rule (wpAny_bind ?_))
    exact stop_new hh fun h' e kp he => hE h' e (fun d o _ q => kp d o q) he
  | cons u0 us =>
    have er : refs b (u0 :: us).length = .ref b :: (List.range us.length).map (fun j => Value.ref (b + (j + 1))) := by
      unfold refs
      rw [List.length_cons, List.range_succ_eq_map, List.map_cons, List.map_map]
      rfl
    have hx := hi u0 rfl
    show wpAny _ _ (if (refs b (u0 :: us).length).toArray.isEmpty = true then _ else _) _ _ _
    rw [if_neg (by rw [er]; simp)]
    refine wpAny_bind (zip_free Z fun r h1 Z1 sb1 => ?_)
    have O1 : Out b (u0 :: us).length s.heap h1 := fun d o hd e => (sb1.2 d (fun z => hd (by rw [z]; omega))).trans e
    have hit := Z1.its 0 u0 rfl
    cases r with
    | true =>
      rw [if_pos rfl]
      refine wpAny_bind (wpAny_rule ?_)
      obtain ⟨g0, g1, hg0, hz1⟩ := id Z1.z
      refine wpAny_bind (wpAny_field hz1 rfl (x := .ref (b + (u0 :: us).length + 1)) rfl ?_)
      refine wpAny_bind (wpAny_setField_rec hz1 (by simp) fun h2 hz2 sb2 => ?_)
      have O2 : Out b (u0 :: us).length s.heap h2 := O1.but sb2 (by omega)
      have hit2 : h2.IsStrIter (b + 0) "str_ascii_iterator" u0.1 u0.2 i := let ⟨o, ho, r⟩ := hit; ⟨o, (sb2.2 _ (ne_adr (.inl (by omega)))).trans ho, r⟩
      refine wpAny_bind ?_
      rw [er, List.toList_toArray, List.zipIdx_cons, List.forIn_cons]
      refine wpAny_bind (wpAny_bind (wpAny_onRaise ?_))
      show wpAny _ _ (Builtin.SmallTypes.nextOf (.ref (b + 0)) >>= _) _ _ _
      refine wpAny_bind (wpAny_nextOf_ascii_end hh hit2 hx fun h3 e eb he => ?_)
      obtain ⟨oe, hoe, hce⟩ := he
      have hz3 := eb _ _ (ne_adr (.inr (by simp only [List.length_cons]; omega))) hz2
      have hez : e ≠ b + (u0 :: us).length + 2 := fun z => by
        rw [z, hz3] at hoe
        cases hoe
        simp at hce
      refine wpAny_setField_rec hz3 (by simp) fun h4 _ sb4 => hE h4 e (fun d o hd q => ?_) ⟨oe, (sb4.2 e hez).trans hoe, hce⟩
      rw [sb4.2 d (fun z => hd (by rw [z]; omega))]
      exact eb d o (fun z => hd (by rw [z]; omega)) (O2 d o hd q)
    | false =>
      rw [if_neg Bool.false_ne_true]
      show wpAny _ _ (forIn (refs b (u0 :: us).length).toArray _ _ >>= _) _ _ _
      rw [List.forIn_toArray, er, List.forIn_cons]
      refine wpAny_bind (wpAny_bind (wpAny_bind (wpAny_holding ?_)))
      show wpAny _ _ (Builtin.SmallTypes.nextOf (.ref (b + 0)) >>= _) _ _ _
      refine wpAny_bind (wpAny_nextOf_ascii_end (s := { s with heap := h1 }) hh hit hx fun h3 e eb he => ?_)
      exact hE h3 e (fun d o hd q => eb d o (fun z => hd (by rw [z]; omega)) (O1 d o hd q)) he
end
/-! ### the rule: for column in zip(*rows) -/
section
variable {P : Program} {w : World} {K : PySem.W.Frag}
/-- the signs at place i of every row -/
def colAt (ws : List Str) (i : Nat) : List Str := ws.map fun a => ⟨#[a.cps.getD i 0]⟩
/-- columns of the rows ws -/
def ItzN (ws : List Str) : It := ⟨fun i _ => ws ≠ [] ∧ ∀ a ∈ ws, i < a.cps.size, fun i H x H' => ∃ T, x = .ref T ∧ H T = none ∧ H' = upd H T (.tup ((colAt ws i).map V.str)), fun i _ => ∀ a, ws[0]? = some a → a.cps.size ≤ i⟩
theorem vals_get : ∀ {xs : List V} {us : List Value}, xs.length = us.length → (∀ (j : Nat) x, xs[j]? = some x → ∃ u, us[j]? = some u ∧ RelV x u) → Vals xs us
  | [], [], _, _ => .nil
  | [], _ :: _, h, _ => by cases h
  | _ :: _, [], h, _ => by cases h
  | x :: xs, u :: us, h, g => by
    obtain ⟨u', e, r⟩ := g 0 x rfl
    cases e
    exact .cons r (vals_get (Nat.succ.inj h) fun j y hy => g (j + 1) y hy)
theorem col_vals {us : List (Str × Tok)} {ws : List Str} {i : Nat} {xs : List Value} (e : us.map (·.1) = ws) (h : SignsAt us i xs) : Vals ((colAt ws i).map V.str) xs := by
  subst e
  refine vals_get (by simp [colAt, h.1]) fun j x hx => ?_
  unfold colAt at hx
  rw [List.map_map, List.map_map, List.getElem?_map] at hx
  cases hu : us[j]? with
  | none => rw [hu] at hx; cases hx
  | some u =>
    rw [hu] at hx
    cases hx
    obtain ⟨c, t, hc, ht⟩ := h.2 j u hu
    refine ⟨_, ht, t, ?_⟩
    have e : u.1.cps.getD i 0 = c := by simp [Array.getD_eq_getD_getElem?, hc]
    show Value.str ⟨#[c]⟩ t = Value.str ⟨#[u.1.cps.getD i 0]⟩ t
    rw [e]
def zfp (b n : Nat) : List Addr := (List.range (n + 3)).map fun j => b + j
theorem mem_zfp {b n a : Nat} : a ∈ zfp b n ↔ b ≤ a ∧ a < b + n + 3 := by
  unfold zfp
  simp only [List.mem_map, List.mem_range]
  constructor
  · rintro ⟨j, hj, rfl⟩
    omega
  · rintro ⟨h1, h2⟩
    exact ⟨a - b, by omega, by omega⟩
theorem turn_zipN {x : Str} {px : Pos} (b : Nat) (ws : List Str) (hl : ws.length ≤ 1000) :
    Turn P w K (.Name x px) (ItzN ws) (zfp b ws.length) (b + ws.length + 2) (fun i h => ∃ us : List (Str × Tok), us.map (·.1) = ws ∧ ZAt h b us (fun _ => i)) where
  mem := mem_zfp.mpr ⟨by omega, by omega⟩
  obj := fun i h ⟨us, e, Z⟩ a ha => by
    have el : us.length = ws.length := by rw [← e, List.length_map]
    have h12 := mem_zfp.mp ha
    rw [← el] at h12
    obtain ⟨⟨f0, f1, _, hz⟩, hTI, ⟨xs, _, hTO⟩, its⟩ := Z
    obtain ⟨j, rfl⟩ : ∃ j : Nat, a = b + j := ⟨a - b, (Nat.add_sub_of_le h12.1).symm⟩
    have h13 : j < us.length + 3 := by
      have q : b + j < b + us.length + 3 := h12.2
      omega
    by_cases hj : j < us.length
    · obtain ⟨o, ho, _, hd⟩ := its j _ (List.getElem?_eq_getElem hj)
      exact ⟨o, ho, fun v q => by rw [hd] at q; cases q⟩
    rcases (by omega : j = us.length ∨ j = us.length + 1 ∨ j = us.length + 2) with e1 | e1 | e1
    · rw [e1]; exact ⟨_, hTI, fun v q => nomatch q⟩
    · rw [e1]; exact ⟨_, hTO, fun v q => nomatch q⟩
    · rw [e1]; exact ⟨_, hz, fun v q => nomatch q⟩
  keep := fun i h h' ⟨us, e, Z⟩ k => by
    have el : us.length = ws.length := by rw [← e, List.length_map]
    exact ⟨us, e, Z.kept fun c o h1 h2 q => k c (mem_zfp.mpr ⟨h1, by rw [← el]; exact h2⟩) o q⟩
  item := by
    intro X hP hw hK hc i pins s σ H E I hf st hg
    subst hP hw hK
    obtain ⟨us, e, Z⟩ := st
    obtain ⟨hne, hi⟩ := hg
    have el : us.length = ws.length := by rw [← e, List.length_map]
    have hT : s.TypeIs (.ref (b + us.length + 2)) "zip" := let ⟨_, _, _, q⟩ := Z.z; ⟨_, q, rfl⟩
    have key : wpAny (model X.prog X.w) X.A (pyNext (.ref (b + us.length + 2))) (fun r s1 => ∃ u, r = some u ∧ ∃ x H', Inv X pins σ H' s1 ∧ RelV x u ∧ (ItzN ws).yld i H x H' ∧ (∃ us' : List (Str × Tok), us'.map (·.1) = ws ∧ ZAt s1.heap b us' (fun _ => i + 1)) ∧ ∀ c ∈ zfp b ws.length, H' c = none) E s := by
      unfold pyNext
      refine wpAny_bind (wpAny_attempt (wpAny_callSpecial?_slot (name := Str.ofString "__next__") hT PySem.F.slot_zip_next (wpAny_call_entry PySem.F.slot_zip_next hT PySem.F.entry_zip_next
        (zipN_item Z (fun z => hne (by rw [← e, z] <;> rfl)) (by rw [el]; exact hl) (fun u hu => hi u.1 (by rw [← e]; exact List.mem_map_of_mem hu)) fun T h' tk xs hT hTo sg Z' O => wpAny_pure ?_) (PySem.F.args_zip_next_1 _))))
      have new : ObjOk X.prog X.w (upd H T (.tup ((colAt ws i).map V.str))) h' T (.tup ((colAt ws i).map V.str)) :=
        ⟨by rw [List.length_map]; unfold colAt; rw [List.length_map]; exact Nat.le_trans hl (by decide), xs, col_vals e sg, ⟨_, hTo, rfl, _, rfl⟩⟩
      have I1 : Inv X pins σ (upd H T (.tup ((colAt ws i).map V.str))) { s with heap := h', toks := tk } :=
        I.turnedNew (t' := tk) (ch := zfp b ws.length) (fun c o hb q => O c o (fun z => hb (mem_zfp.mpr (by rw [← el]; exact z))) q) hf hT new
      refine ⟨_, rfl, .ref T, _, I1, rfl, ⟨T, rfl, I.hok.fresh hT, rfl⟩, ⟨us, e, Z'⟩, fun c hcm => ?_⟩
      have h12 := mem_zfp.mp hcm
      have hlt := Z.lt
      rw [upd_ne (ne_adr (.inl (by rw [el] at hlt; omega)))]
      exact (hf c hcm).1
    rw [el] at key
    refine thn key fun r s1 ⟨u, hr, x, H', q⟩ => ⟨u, hr, ?_⟩
    exact wpAny_of_eq (rfl : letOwnedTupleGo _ _ u = pure ()) ⟨x, H', q⟩
  done := by
    intro X hP hw hK hc i pins s σ H E I hf st hg
    subst hP hw hK
    obtain ⟨us, e, Z⟩ := st
    have el : us.length = ws.length := by rw [← e, List.length_map]
    have hT : s.TypeIs (.ref (b + us.length + 2)) "zip" := let ⟨_, _, _, q⟩ := Z.z; ⟨_, q, rfl⟩
    rw [← el]
    unfold pyNext
    refine wpAny_bind (wpAny_attempt (wpAny_callSpecial?_slot (name := Str.ofString "__next__") hT PySem.F.slot_zip_next (wpAny_call_entry PySem.F.slot_zip_next hT PySem.F.entry_zip_next
      (zipN_end (I.ok.hd hc) Z (fun u hu => ?_) fun h' x O he => ?_) (PySem.F.args_zip_next_1 _))))
    · refine Array.getElem?_eq_none (hg u.1 ?_)
      rw [← e, List.getElem?_map, hu] <;> rfl
    · obtain ⟨o, ho, hcl⟩ := he
      refine wpAny_bind (wpAny_isInstance (T := "StopIteration") (b := true) ⟨o, ho, hcl⟩ isSubtype_stop ?_)
      exact wpAny_pure ⟨rfl, I.turnedL (t' := s.toks) (ch := zfp b ws.length) (fun c o hb q => O c o (fun z => hb (mem_zfp.mpr (by rw [← el]; exact z))) q) hf⟩
  self := fun A i s Q E ⟨us, e, Z⟩ h => by
    have el : us.length = ws.length := by rw [← e, List.length_map]
    obtain ⟨f0, f1, _, hz⟩ := Z.z
    rw [el] at hz
    have hT : s.TypeIs (.ref (b + ws.length + 2)) "zip" := ⟨_, hz, rfl⟩
    refine wpAny_pyIter_slot hT PySem.F.slot_zip_iter (wpAny_call_entry PySem.F.slot_zip_iter hT PySem.F.entry_zip_iter ?_ (PySem.F.args_zip_iter_1 _))
    show wpAny _ _ (ret _) _ _ s
    exact wpAny_pure ⟨_, rfl, "zip", _, hT, PySem.F.slot_zip_next.lookup, h⟩
/-- zip(*rows): a list of texts of small signs -/
def iZipN (K : PySem.W.Frag) (te : TE) : TI := fun σ H R => te σ H fun v H1 => ∃ a ws, v = .ref a ∧ SqL K H1 a (ws.map V.str) ∧ ws.length ≤ 1000 ∧ (∀ a ∈ ws, a.cps.all (· < 128) = true) ∧ R (ItzN ws) H1
theorem pi_zipN {X : Cx} {e : Expr} {te : TE} {x : Str} {px p p2 pos : Pos} (hg : Gl X "zip") (hm : X.mg "zip" = none) (he : PE X e te) (hs : starEach [.Starred e p2] X.env = [(true, eval e X.env)] := by rfl) :
    PI X (.Name x px) (.Call (.Name "zip" p) [.Starred e p2] [] pos) (iZipN X.K te) := by
  refine ⟨fun pins s σ H R I h => ?_⟩
  refine Call_ (ld_blt I hg hm PyProof.Rows.boot_zip ?_)
  rw [hs]
  refine PySem.W.ks_call (P := fun _ => True) rfl (fun _ _ => ⟨.machine, .inr (.inl rfl), PySem.W.Looks.of_pure rfl⟩) (PySem.W.ks_lone (thn (he.run pins s σ H _ I h) fun v s1 ⟨y, H1, I1, r1, q1⟩ => ?_))
  obtain ⟨a, ws, rfl, hq, hl, ha, q⟩ := q1
  obtain rfl : v = Value.ref a := r1
  refine StX.star_lst I1 hq fun us s2 I2 rv => ⟨trivial, ?_⟩
  obtain ⟨ps, ep, eu⟩ : ∃ ps : List (Str × Tok), ps.map (·.1) = ws ∧ us = txts ps := by
    clear hq ha hl q
    induction ws generalizing us with
    | nil => cases rv; exact ⟨[], rfl, rfl⟩
    | cons a ws ih =>
      cases rv with
      | cons r rr =>
        obtain ⟨t, rfl⟩ := (show ∃ t, _ = Value.str a t from r)
        obtain ⟨ps, e1, e2⟩ := ih _ rr
        exact ⟨(a, t) :: ps, by rw [List.map_cons, e1], by rw [e2] <;> rfl⟩
  subst eu
  have el : ps.length = ws.length := by rw [← ep, List.length_map]
  refine call_zipN (fun u hu => ha u.1 (by rw [← ep]; exact List.mem_map_of_mem hu)) (by rw [el]; exact hl) fun h' Z sz kp => ?_
  have I3 : Inv X pins σ H1 { s2 with heap := h' } := I2.kept (t' := s2.toks) kp
  rw [el]
  have T := turn_zipN (P := X.prog) (w := X.w) (K := X.K) (x := x) (px := px) s2.heap.objs.size ws hl
  refine T.self X.A 0 _ _ _ ⟨ps, ep, Z⟩ ⟨_, zfp s2.heap.objs.size ws.length, _, _, H1, rfl, I3, T, ⟨ps, ep, Z⟩, fun c hc => ?_, q⟩
  have hle := (mem_zfp.mp hc).1
  exact I2.fpOk hle (I2.hok.fresh hle)
end
end AK
set_option Elab.async false
set_option linter.all false
set_option maxRecDepth 100000
set_option maxHeartbeats 2000000
namespace AK
open PySem PySem.Spec PyProof.Rows L2

/-! ### counting one sign in a text -/
theorem occ_len (x : Str) (c limit : Nat) : ∀ (m i : Nat) (st : Array Nat × Nat), st.2 ≤ i → st.1.size + m ≤ limit →
    (forIn (List.range' i m) st (StrLaws.occBody x ⟨#[c]⟩ x.length limit)).run.fst.size = st.1.size + ((List.range' i m).filter fun j => x.cps.toList[j]? == some c).length
  | 0, i, st, _, _ => by simp
  | m + 1, i, st, h, hl => by
    rw [List.range'_succ, List.forIn_cons]
    unfold StrLaws.occBody
    have hb := StrLaws.subAt_one x c i
    by_cases hc : x.cps.toList[i]? = some c
    · have q := hb.mpr hc
      rw [if_pos ⟨⟨⟨by omega, h⟩, q.1⟩, q.2⟩]
      have ih := occ_len x c limit m (i + 1) (st.1.push i, i + (⟨#[c]⟩ : Str).length) (Nat.le_refl _) (by simp only [Array.size_push]; omega)
      rw [List.filter_cons_of_pos (by simp [hc])]
      refine ih.trans ?_
      simp only [Array.size_push, List.length_cons]
      omega
    · rw [if_neg (fun z => hc (hb.mp ⟨z.1.2, z.2⟩))]
      have ih := occ_len x c limit m (i + 1) (st.1, st.2) (by show st.2 ≤ i + 1; omega) (by show st.1.size + m ≤ limit; omega)
      rw [List.filter_cons_of_neg (by rw [beq_iff_eq]; exact hc)]
      exact ih
theorem filter_get : ∀ (l : List Nat) (c k : Nat), ((List.range' k (l.length + 1)).filter fun j => l[j - k]? == some c).length = l.count c
  | [], c, k => by simp [List.range']
  | a :: l, c, k => by
    have ih := filter_get l c (k + 1)
    rw [List.length_cons, List.range'_succ]
    have e : (List.range' (k + 1) (l.length + 1)).filter (fun j => (a :: l)[j - k]? == some c) = (List.range' (k + 1) (l.length + 1)).filter (fun j => l[j - (k + 1)]? == some c) := by
      refine List.filter_congr fun j hj => ?_
      have h1 : k + 1 ≤ j := (List.mem_range'_1.mp hj).1
      have e : j - k = (j - (k + 1)) + 1 := by omega
      rw [e, List.getElem?_cons_succ]
    by_cases h : a = c
    · subst h
      rw [List.filter_cons_of_pos (by simp), List.length_cons, e, ih]
      simp
    · rw [List.filter_cons_of_neg (by simp [h]), e, ih]
      simp [h]
theorem count_one (x : Str) (c : Nat) : Txt.count x ⟨#[c]⟩ = (x.cps.toList.count c : Int) := by
  unfold Txt.count
  rw [StrLaws.occ_eq]
  have h := occ_len x c (x.length + 1) (x.length + 1) 0 (#[], 0) (Nat.le_refl _) (by simp)
  have e : x.length = x.cps.toList.length := by simp [Str.length]
  have h2 := filter_get x.cps.toList c 0
  simp only [Nat.sub_zero] at h2
  rw [← e] at h2
  rw [h2] at h
  rw [Nat.sub_zero, Array.length_toList]
  simp only [List.size_toArray, List.length_nil, Nat.zero_add] at h
  rw [h]

/-! ### joining signs by nothing -/
theorem joinL_signs : ∀ cs : List Nat, TL.joinL [] (cs.map fun c => [c]) = cs
  | [] => rfl
  | [_] => rfl
  | a :: b :: r => by
    have ih := joinL_signs (b :: r)
    show [a] ++ ([] ++ TL.joinL [] ((b :: r).map fun c => [c])) = a :: b :: r
    rw [ih] <;> rfl
theorem join_signs (cs : List Nat) : Txt.join (Str.ofString "") (cs.map fun c => (⟨#[c]⟩ : Str)) = ⟨cs.toArray⟩ := by
  refine TL.ext_tl ?_
  rw [TL.join_eq, TL.tl_join, List.map_map]
  show TL.joinL [] _ = _
  exact joinL_signs cs

/-! ### webs as texts -/
def sg (b : Bool) : Nat := if b = true then 120 else 45
def row (n : Nat) (e : Nat → Bool) : Str := ⟨((List.range n).map fun j => sg (e j)).toArray⟩
def web (n : Nat) (e : Nat → Nat → Bool) : List Str := (List.range n).map fun i => row n (e i)
def deg (n : Nat) (e : Nat → Bool) : Nat := ((List.range n).filter e).length
structure IsWeb (n : Nat) (e : Nat → Nat → Bool) : Prop where
  sym : ∀ i j, i < n → j < n → e i j = e j i
  irr : ∀ i, i < n → e i i = false
theorem row_size (n : Nat) (e : Nat → Bool) : (row n e).cps.size = n := by simp [row]
theorem row_len (n : Nat) (e : Nat → Bool) : (row n e).length = n := by simp [row, Str.length]
theorem web_len (n : Nat) (e : Nat → Nat → Bool) : (web n e).length = n := by simp [web]
theorem row_at {n j : Nat} {e : Nat → Bool} (h : j < n) : (row n e).cps[j]? = some (sg (e j)) := by simp [row, h]
theorem row_atL {n j : Nat} {e : Nat → Bool} (h : j < n) : (row n e).cps.toList[j]? = some (sg (e j)) := by simp [row, h]
theorem web_at {n i : Nat} {e : Nat → Nat → Bool} (h : i < n) : (web n e)[i]? = some (row n (e i)) := by simp [web, h]
theorem sg_x (b : Bool) : (sg b = 120) ↔ b = true := by cases b <;> simp [sg]
theorem sg_lt (b : Bool) : sg b < 128 := by cases b <;> decide
theorem row_ascii (n : Nat) (e : Nat → Bool) : (row n e).cps.all (· < 128) = true := by
  rw [Array.all_eq_true']
  intro c hc
  simp only [row, List.mem_toArray, List.mem_map] at hc
  obtain ⟨j, _, rfl⟩ := hc
  exact decide_eq_true (sg_lt _)
theorem deg_le (n : Nat) (e : Nat → Bool) : deg n e ≤ n := by
  have h := List.length_filter_le e (List.range n)
  rw [List.length_range] at h
  exact h
theorem count_map_x : ∀ (l : List Nat) (e : Nat → Bool), (l.map fun j => sg (e j)).count 120 = (l.filter e).length
  | [], e => rfl
  | a :: l, e => by
    rw [List.map_cons, List.count_cons, count_map_x l e]
    cases h : e a with
    | true => rw [List.filter_cons_of_pos h]; simp [sg]
    | false => rw [List.filter_cons_of_neg (by simp [h])]; simp [sg]
theorem count_map_d : ∀ (l : List Nat) (e : Nat → Bool), (l.map fun j => sg (e j)).count 120 + (l.map fun j => sg (e j)).count 45 = l.length
  | [], e => rfl
  | a :: l, e => by
    have ih := count_map_d l e
    rw [List.map_cons, List.count_cons, List.count_cons, List.length_cons]
    cases h : e a with
    | true => simp [sg] at ih ⊢; omega
    | false => simp [sg] at ih ⊢; omega
theorem row_knows (n : Nat) (e : Nat → Bool) : Txt.count (row n e) (Str.ofString "x") = (deg n e : Int) := by
  show Txt.count (row n e) ⟨#[120]⟩ = _
  rw [count_one]
  show (((List.range n).map fun j => sg (e j)).count 120 : Int) = _
  rw [count_map_x] <;> rfl
theorem row_both (n : Nat) (e : Nat → Bool) : Txt.count (row n e) (Str.ofString "x") + Txt.count (row n e) (Str.ofString "-") = (n : Int) := by
  show Txt.count (row n e) ⟨#[120]⟩ + Txt.count (row n e) ⟨#[45]⟩ = _
  rw [count_one, count_one]
  have h := count_map_d (List.range n) e
  rw [List.length_range] at h
  show (((List.range n).map fun j => sg (e j)).count 120 : Int) + (((List.range n).map fun j => sg (e j)).count 45 : Int) = _
  omega
/-- a column of a web, joined, is the row -/
theorem col_join {n i : Nat} {e : Nat → Nat → Bool} (W : IsWeb n e) (hi : i < n) : Txt.join (Str.ofString "") ((web n e).map fun a => (⟨#[a.cps.getD i 0]⟩ : Str)) = row n (e i) := by
  have h : ((web n e).map fun a => (⟨#[a.cps.getD i 0]⟩ : Str)) = ((List.range n).map fun j => sg (e i j)).map fun c => (⟨#[c]⟩ : Str) := by
    unfold web
    rw [List.map_map, List.map_map]
    refine List.map_congr_left fun j hj => ?_
    have hj' : j < n := List.mem_range.mp hj
    have q := row_at (e := e j) hi
    show (⟨#[(row n (e j)).cps.getD i 0]⟩ : Str) = ⟨#[sg (e i j)]⟩
    rw [Array.getD_eq_getD_getElem?, q, W.sym j i hj' hi] <;> rfl
  rw [h, join_signs] <;> rfl

/-! ### lists as data -/
theorem canS : ∀ ws : List Str, (∀ a ∈ ws, PyData.strOk a = true) → PyData.canLayAll0 (ws.map PyData.str) = true
  | [], _ => rfl
  | a :: ws, h => by
    rw [List.map_cons]
    simp only [PyData.canLayAll0, PyData.canLay0, Bool.and_eq_true]
    exact ⟨h a (List.mem_cons_self ..), canS ws fun b hb => h b (List.mem_cons_of_mem _ hb)⟩
theorem depthS : ∀ ws : List Str, PyData.depthAll (ws.map PyData.str) = 0
  | [] => rfl
  | a :: ws => by
    rw [List.map_cons]
    simp only [PyData.depthAll, PyData.depth, depthS ws]
    rfl
theorem shapedS {ws : List Str} (h : ∀ a ∈ ws, PyData.strOk a = true) : SeqAt.shaped (.list (ws.map PyData.str)) = true := by
  unfold SeqAt.shaped
  simp only [PyData.canLay0, PyData.depth, canS ws h, depthS ws]
  rfl
theorem eqvS : ∀ ws vs : List Str, PyData.eqvAll (ws.map PyData.str) (vs.map PyData.str) = decide (ws = vs)
  | [], [] => rfl
  | [], _ :: _ => rfl
  | _ :: _, [] => rfl
  | a :: ws, b :: vs => by
    rw [List.map_cons, List.map_cons]
    simp only [PyData.eqvAll, PyData.eqv, eqvS ws vs]
    by_cases h1 : a = b <;> by_cases h2 : ws = vs <;> simp [h1, h2]
theorem canI : ∀ ns : List Int, PyData.canLayAll0 (ns.map PyData.int) = true
  | [] => rfl
  | a :: ns => by
    rw [List.map_cons]
    simp only [PyData.canLayAll0, PyData.canLay0, canI ns]
    rfl
theorem depthI : ∀ ns : List Int, PyData.depthAll (ns.map PyData.int) = 0
  | [] => rfl
  | a :: ws => by
    rw [List.map_cons]
    simp only [PyData.depthAll, PyData.depth, depthI ws]
    rfl
theorem shapedI (ns : List Int) : SeqAt.shaped (.list (ns.map PyData.int)) = true := by
  unfold SeqAt.shaped
  simp only [PyData.canLay0, PyData.depth, canI ns, depthI ns]
  rfl
theorem eqvI : ∀ ws vs : List Int, PyData.eqvAll (ws.map PyData.int) (vs.map PyData.int) = decide (ws = vs)
  | [], [] => rfl
  | [], _ :: _ => rfl
  | _ :: _, [] => rfl
  | a :: ws, b :: vs => by
    rw [List.map_cons, List.map_cons]
    simp only [PyData.eqvAll, PyData.eqv, eqvI ws vs]
    by_cases h1 : a = b <;> by_cases h2 : ws = vs <;> simp [h1, h2]
section
variable {K : PySem.W.Frag} {H : Hp}
theorem dpS : ∀ ws : List Str, DpAll K H (ws.map V.str) (ws.map PyData.str)
  | [] => .nil
  | a :: ws => .cons (.str a) (dpS ws)
theorem dpI : ∀ ws : List Int, DpAll K H (ws.map V.int) (ws.map PyData.int)
  | [] => .nil
  | a :: ws => .cons (.int a) (dpI ws)
theorem tyList {a : Addr} {xs : List V} (h : SqL K H a xs) : TyX K H (.ref a) (.type "list") := by
  rcases h with (h | ⟨o, h⟩) | ⟨o, _, _, h, c, _⟩
  · exact .base (.lst h)
  · exact .base (.frz h)
  · exact .kList h c
end
end AK
set_option Elab.async false
set_option linter.all false
set_option maxRecDepth 100000
set_option maxHeartbeats 2000000
/-! generator expressions over any source, their names captured, elements that may call -/
namespace AK
open PySem PySem.Spec PyProof.Rows L2
section
variable {X : Cx} {pins : List (Addr × Obj)} {σ : L2.St} {H : Hp} {s : Shared}
/-- where an element runs: s0 is the state ahead of the source's iterator -/
structure EltAt (X : Cx) (P : Addr) (s0 : Shared) (scope : Scope) (cenv : Env) (A' : Around) (s2 : Shared) : Prop where
  sc : cenv.scope = scope
  cells : cenv.cells = cloFrom X.env.cells scope.names []
  glob : cenv.globals = X.env.globals
  hd : A'.handled = none
  dp : A'.depth ≤ X.A.depth + 1
  un : A'.units ≤ X.A.units + 8
  old : ∀ b o, b ≠ P → s0.heap.get? b = some o → s2.heap.get? b = some o
/-- a source: an iterator that hands out n things -/
def SrcAt (X : Cx) (P : Addr) (s0 s2 : Shared) (it : Value) (n : Nat) (Pf : Nat → Value → Prop) : Prop :=
  ∃ (Ia : Addr) (fp wr : List Addr) (St0 : Nat → Heap → Prop), it = .ref Ia ∧ (∀ A' : Around, A'.handled = none → Walks X.prog X.w A' Ia fp wr n Pf St0) ∧ St0 0 s2.heap ∧ (∀ b ∈ fp, b < s2.heap.objs.size ∧ b ≠ P) ∧ (∀ b ∈ wr, s0.heap.objs.size ≤ b) ∧
    (∃ h tk, s2 = { s0 with heap := h, toks := tk }) ∧ (∀ b o, s0.heap.get? b = some o → s2.heap.get? b = some o) ∧ s0.heap.objs.size ≤ s2.heap.objs.size
/-- the generator g, ready to hand out n things -/
def ReadyG (X : Cx) (pins : List (Addr × Obj)) (σ : L2.St) (H1 : Hp) (P : Addr) (n : Nat) (F : Nat → Value → Prop) (g : Addr) (s5 : Shared) : Prop :=
  ∃ (fp wr : List Addr) (G : Array GenState → Array GenState → Prop) (St : Nat → Shared → Prop), WalksS X.prog X.w X.A.in4 g fp wr G n F St ∧ St 0 s5 ∧ (∀ b ∈ fp, b < s5.heap.objs.size) ∧ g ∈ fp ∧ (∀ i s9, St i s9 → s9.TypeIs (.ref g) "generator") ∧
    ∀ s', Moved wr G s5 s' → ∃ H2, GxR.Tabbed P H1 H2 ∧ Inv X pins σ H2 s'
theorem gen_mk {c P : Addr} {elt iter : Expr} {x : Str} {px gpos : Pos} {scope : Scope} {k : Nat} {Q' : Value → Shared → Prop}
    (hr : Room k X.A) (TB : GxR.TabB X.base X.mg c P) (hcode : X.env.code = .ref c) (S : GxR.GenS X.env scope x) (hs : ∀ v, genFold iter X.env v = pure v) (hc : X.calm = true) (hok : X.Ok)
    (h : wpAny (model X.prog X.w) X.A (eval iter X.env) (fun xv s1 => wpAny (model X.prog X.w) X.A (pyIter xv) (fun it s2 => ∃ (s0 : Shared) (H1 : Hp) (n : Nat) (Pf F : Nat → Value → Prop), Inv X pins σ H1 s0 ∧ GxR.TabG H1 P ∧ SrcAt X P s0 s2 it n Pf ∧
      (∀ (cenv : Env) (A' : Around) (E' : Value → Shared → Prop) (i : Nat) (v : Value) (s3 : Shared) (m : Str → Option Value), EltAt X P s0 scope cenv A' s3 → Pf i v → s3.heap.Ns cenv.locals m → m x = some v →
        wpAny (model X.prog X.w) A' (eval elt cenv) (fun y s4 => F i y ∧ Keeps s3 s4) E' s3) ∧
      ∀ g s5, ReadyG X pins σ H1 P n F g s5 → Q' (.ref g) s5) X.xe s1) X.xe s) :
    wpAny (model X.prog X.w) X.A (eval (.GeneratorExp elt [⟨.Name x px, iter, [], 0⟩] scope gpos) X.env) Q' X.xe s := by
  refine wpAny_GeneratorExp_walksQD (hok.hd hc) S.co (closure_ok S.free) S.cell S.dot S.loc S.kind (by have := hr.dp; omega) ?_ hs
  refine thn h fun xv s1 h1 => thn h1 fun it s2 h2 => ?_
  obtain ⟨s0, H1, n, Pf, F, I1, ⟨ps, hP, ht⟩, ⟨Ia, fp, wr, St0, rfl, W, hst, hfp, hwr, ⟨hh2, tk2, es2⟩, kp2, szs⟩, hel, hq⟩ := h2
  have hPs : s0.heap.get? P = some { cls := .none, data := .fields ps } := I1.hok P _ hP
  have hP2 := kp2 _ _ hPs
  have cd : PySem.W.CodeHd s2.heap c P := TB.code.keeps fun b u e => kp2 b u (I1.bk b u e)
  have lim2 : s2.heap.NoLimit := I1.nolimit.keeps kp2
  have nP : ∀ b, s2.heap.objs.size ≤ b → b ≠ P := fun b hb z => by
    have := Heap.lt_size hP2
    rw [← z] at this
    exact absurd (Nat.lt_of_lt_of_le this hb) (Nat.lt_irrefl _)
  have hg2 : AllBare s2.gens := by rw [es2]; exact I1.bare
  have eg2 : s2.gens = s0.gens := by rw [es2]
  have eo2 : s2.os = s0.os := by rw [es2]
  have cont : ∀ (code : Value) (h3 : Heap) (tk : Nat) (ps' : Array Value), Heap.ExtBut P s2.heap h3 → s2.heap.objs.size ≤ h3.objs.size → h3.get? P = some { cls := .none, data := .fields ps' } → (∃ more, ps' = ps ++ more) → TriplesOk ps'.toList →
      wpAny (model X.prog X.w) X.A (builtinsFor X.env.globals X.env.builtins) (fun bi s₄ =>
        ∃ Ib fp' wr' n₀ Pf' St₀ pz F', Value.ref Ia = .ref Ib ∧ (∀ A' : Around, A'.handled = none → Walks X.prog X.w A' Ib fp' wr' n₀ Pf' St₀) ∧ St₀ 0 s₄.heap ∧ (∀ b ∈ fp', b < s₄.heap.objs.size) ∧ s₄.heap.NoLimit ∧ cStatics ∉ wr' ∧
          (∀ href : Heap, (∀ b o, s₄.heap.get? b = some o → href.get? b = some o) →
            QuietGenD X.prog X.w (genEnv scope (cloFrom X.env.cells scope.names []) s₄.heap.objs.size code bi X.env) x [] elt (List.range s₄.heap.objs.size) wr' Pf' pz F' href (X.A.depth + 1) (X.A.units + 8)) ∧
          (∀ a h₅ tk gs, gs.bare = true → s₄.heap.objs.size < a → h₅.objs.size = a + 1 → (∀ b o, s₄.heap.get? b = some o → h₅.get? b = some o) →
            WalksS X.prog X.w X.A.in4 a (a :: s₄.heap.objs.size :: List.range s₄.heap.objs.size) (s₄.heap.objs.size :: wr') (GenOnlyQ s₄.gens.size) (passing pz n₀ 0).length
              (fun j y => ∃ i, (passing pz n₀ 0)[j]? = some i ∧ F' i y) (GenAt X.prog X.w X.A.in4 a s₄.gens.size s₄.heap.objs.size (List.range s₄.heap.objs.size) wr' pz n₀ F') →
            GenAt X.prog X.w X.A.in4 a s₄.gens.size s₄.heap.objs.size (List.range s₄.heap.objs.size) wr' pz n₀ F' 0 { s₄ with gens := s₄.gens.push gs, toks := tk, heap := h₅ } →
            Q' (.ref a) { s₄ with gens := s₄.gens.push gs, toks := tk, heap := h₅ })) X.xe { s2 with heap := h3, toks := tk } := by
    intro code h3 tk ps' hx hsz hP3 hmore ht3
    obtain ⟨bm, ob, e1, e2, e3, e4, e5, e6, e7, e8⟩ := TB.bm
    have keep3 : ∀ b u, b ≠ P → s0.heap.get? b = some u → h3.get? b = some u := fun b u hb e => hx b u hb (kp2 b u e)
    have hcP : cStatics ≠ P := fun e => by
      obtain ⟨_, hns, _⟩ := lim2
      obtain ⟨o', es, ep, ho, hd, _⟩ := hns
      rw [e, hP2] at ho
      cases ho
      cases hd
    have hcl : cStatics < s0.heap.objs.size := let ⟨_, hns, _⟩ := I1.nolimit; hns.lt
    refine wpAny_builtinsFor (m := X.mg) (by rw [hok.glob]; exact (hok.mod.glob.keeps fun b u e => kp2 b u (I1.bk b u e)).extBut hx TB.gP) e1 e2 (keep3 _ _ e4 (I1.bk _ _ e5)) e6 e7 e8 ?_
    refine ⟨Ia, fp, wr, n, Pf, St0, (fun _ => true), F, rfl, W, ?_, fun b hb => Nat.lt_of_lt_of_le (hfp b hb).1 hsz, lim2.extBut hx hcP, fun z => absurd (Nat.lt_of_lt_of_le hcl (hwr _ z)) (Nat.lt_irrefl _), ?_, ?_⟩
    · exact (W X.A (hok.hd hc)).frame 0 _ _ hst fun b hb o e => hx b o (hfp b hb).2 e
    · intro href hhref
      have old : ∀ (s4 : Shared), (∀ b ∈ List.range h3.objs.size, b ∉ wr → ∀ o, href.get? b = some o → s4.heap.get? b = some o) → ∀ b o, b ≠ P → s0.heap.get? b = some o → s4.heap.get? b = some o := fun s4 hk b o hb e => by
        have hl := Heap.lt_size e
        refine hk b (List.mem_range.mpr (Nat.lt_of_lt_of_le hl (Nat.le_trans szs hsz))) (fun z => absurd (Nat.lt_of_lt_of_le hl (hwr b z)) (Nat.lt_irrefl _)) o (hhref b o (keep3 b o hb e))
      refine ⟨fun A' E' i v s4 m4 hA hD hU hPv hn hm hk => ?_, fun A' E' i v s4 m4 hA hD hU hPv hp hn hm hk => ?_⟩
      · simp only [List.forIn_nil]
        exact wpAny_pure ⟨rfl, GxR.keeps_refl _⟩
      · exact hel _ A' E' i v s4 m4 ⟨rfl, rfl, rfl, hA, hD, hU, old s4 hk⟩ hPv hn hm
    · intro g h5 tk5 gs hgb hag hsz5 hk5 W5 hgat
      simp only [GxR.passing_true, List.length_range] at W5
      have imp : ∀ j y, (∃ i, (List.range n)[j]? = some i ∧ F i y) → F j y := fun j y ⟨i, hij, hF⟩ => by
        obtain ⟨hj, ej⟩ := List.getElem?_eq_some_iff.mp hij
        rw [List.getElem_range] at ej
        subst ej
        exact hF
      refine hq g _ ⟨_, _, _, _, W5.imp imp, hgat, ?_, List.mem_cons_self, fun i s9 h9 => ?_, fun s' hm => ?_⟩
      · intro b hb
        show b < h5.objs.size
        have e5 : h5.objs.size = g + 1 := hsz5
        have h8 : h3.objs.size < g := hag
        rw [e5]
        rcases List.mem_cons.mp hb with z | z
        · rw [z]
          exact Nat.lt_succ_self g
        rcases List.mem_cons.mp z with z | z
        · rw [z]
          exact Nat.lt_succ_of_lt h8
        · exact Nat.lt_succ_of_lt (Nat.lt_trans (List.mem_range.mp z) h8)
      · obtain ⟨hg9, _⟩ := h9
        exact hg9.typeIs
      · obtain ⟨more, em⟩ := hmore
        have nwr : ∀ b u, s0.heap.get? b = some u → b ∉ h3.objs.size :: wr := fun b u e hb => by
          have hl := Heap.lt_size e
          rcases List.mem_cons.mp hb with z | z
          · rw [z] at hl
            exact absurd (Nat.lt_of_lt_of_le hl (Nat.le_trans szs hsz)) (Nat.lt_irrefl _)
          · exact absurd (Nat.lt_of_lt_of_le hl (hwr b z)) (Nat.lt_irrefl _)
        have hbare : AllBare s'.gens := AllBare.movedS (hg2.push hgb) hm
        have J := GxR.inv_tab (more := more) (h' := s'.heap) (g' := s'.gens) (d' := s'.drawn) (t' := s'.toks) I1 hP (fun b u hb e => hm.heap b u (nwr b u e) (hk5 b u (keep3 b u hb e)))
          (by rw [← em]; exact hm.heap P _ (nwr P _ hPs) (hk5 P _ hP3)) hbare
        have eos : s'.os = s0.os := hm.os.trans eo2
        rw [GxR.sh_eta s0 s' eos] at J
        refine ⟨upd H1 P (.tbl (ps ++ more)), ⟨⟨ps ++ more, upd_same, by rw [← em]; exact ht3⟩, fun b hb => upd_ne hb⟩, J⟩
  refine ⟨lim2, ?_⟩
  cases hf : codeAmong gpos ps.toList with
  | none =>
    refine wpAny_genexprCodeX hcode (cd.code hP2 ht) (cd.tab hP2) hf fun c' h' tk hx hge hlt hco' _ htab' _ => ?_
    obtain ⟨o1, vs, f1, tf, fl, tg, inF, tx, tt, op, _, _, _, _, _, _, _, _, _, htr, _⟩ := hco'
    exact cont _ h' tk _ hx (Nat.le_trans hge (Nat.le_of_lt hlt)) htab'.2 ⟨_, rfl⟩ htr
  | some cv =>
    refine wpAny_genexprCode_hit hcode (cd.code hP2 ht) hf ?_
    exact cont cv s2.heap s2.toks ps (Heap.ExtBut.refl _ _) (Nat.le_refl _) hP2 ⟨#[], by simp⟩ ht
end
end AK
set_option Elab.async false
set_option linter.all false
set_option maxRecDepth 100000
set_option maxHeartbeats 2000000
namespace AK
open PySem PySem.Spec PyProof.Rows L2
section
variable {X : Cx} {pins : List (Addr × Obj)} {σ : L2.St} {H : Hp} {s : Shared}
/-- the element: of a value of C the value f, all objects stand -/
def ElV (X : Cx) (P : Addr) (scope : Scope) (x : Str) (elt : Expr) (σ : L2.St) (C : V → Prop) (f : V → V) : Prop :=
  ∀ (pins : List (Addr × Obj)) (s0 : Shared) (H1 : Hp), Inv X pins σ H1 s0 → H1 P ≠ none → ∀ (cenv : Env) (A' : Around) (E' : Value → Shared → Prop) (v : V) (u : Value) (s3 : Shared) (m : Str → Option Value), EltAt X P s0 scope cenv A' s3 → C v → RelV v u → s3.heap.Ns cenv.locals m → m x = some u →
    wpAny (model X.prog X.w) A' (eval elt cenv) (fun y s4 => RelV (f v) y ∧ Keeps s3 s4) E' s3
theorem preSum_take (L : List Int) : ∀ k, k ≤ L.length → preSum (fun i => L.getD i 0) k = (L.take k).sum
  | 0, _ => rfl
  | k + 1, h => by
    have hk : k < L.length := h
    have e : L[k]? = some (L.getD k 0) := by rw [List.getD_eq_getElem?_getD, List.getElem?_eq_getElem hk] <;> rfl
    show preSum (fun i => L.getD i 0) k + L.getD k 0 = _
    rw [preSum_take L k (Nat.le_of_lt hk), L2.sum_take e]
/-- a list as a source -/
theorem src_lst {P yl : Addr} {its : List Value} (I : Inv X pins σ H s) (hP : H P ≠ none) (hcs : ∃ ps, H P = some (.tbl ps)) (hl : s.heap.IsList yl its.toArray) :
    SrcAt X P s { s with heap := s.heap.push { cls := .type "list_iterator", data := .fields #[.ref yl, .int 0 0] } } (.ref s.heap.objs.size) its.length (fun i v => its[i]? = some v) := by
  obtain ⟨ps, hP⟩ := hcs
  have hPs : s.heap.get? P = some { cls := .none, data := .fields ps } := I.hok P _ hP
  have hPlt := Heap.lt_size hPs
  have hylt : yl < s.heap.objs.size := by
    obtain ⟨_, e, _⟩ := id hl
    exact Heap.lt_size e
  have hylP : yl ≠ P := fun z => by
    obtain ⟨_, e, _, _, hd⟩ := id hl
    rw [z, hPs] at e
    cases e
    cases hd
  refine ⟨s.heap.objs.size, [s.heap.objs.size, yl], [s.heap.objs.size], fun i h => h.IsListIter s.heap.objs.size yl i ∧ h.IsList yl its.toArray, rfl, fun A' hA => ?_, ⟨⟨_, Heap.get?_push_size _ rfl, rfl, rfl⟩, hl.push _⟩, fun b hb => ?_, fun b hb => ?_, ⟨_, s.toks, rfl⟩, fun b o e => Heap.get?_push_of_some _ e, ?_⟩
  · have W := Walks.list (prog := X.prog) (w := X.w) hA s.heap.objs.size yl (Nat.ne_of_lt hylt) its.toArray
    rw [List.size_toArray] at W
    have e : (fun (i : Nat) (v : Value) => its.toArray[i]? = some v) = fun i v => its[i]? = some v := by
      funext i v
      rw [List.getElem?_toArray]
    rw [e] at W
    exact W
  · rw [Heap.size_push]
    rcases List.mem_cons.mp hb with z | z
    · rw [z]; exact ⟨Nat.lt_succ_self _, Nat.ne_of_gt hPlt⟩
    · rw [List.mem_singleton.mp z]; exact ⟨Nat.lt_succ_of_lt hylt, hylP⟩
  · rw [List.mem_singleton.mp hb]; exact Nat.le_refl _
  · rw [Heap.size_push]; exact Nat.le_succ _
/-- sum(elt for x in a list of ints) -/
def tSumG (X : Cx) (P : Addr) (scope : Scope) (x : Str) (elt : Expr) (te : TE) : TE := fun σ H Q => te σ H fun u H2 => ∃ (yl : Addr) (ws : List Int) (f : Int → Int), u = .ref yl ∧ SqL X.K H2 yl (ws.map V.int) ∧ GxR.TabG H2 P ∧
  ElV X P scope x elt σ (fun v => ∃ i, i ∈ ws ∧ v = .int i) (fun v => match v with | .int i => .int (f i) | _ => .non) ∧ ∀ H3, GxR.Tabbed P H2 H3 → Q (.int (ws.map f).sum) H3
theorem pe_sumG {c P : Addr} {elt iter : Expr} {x : Str} {px gpos p pos : Pos} {scope : Scope} {k : Nat} {te : TE} (hr : Room k X.A) (TB : GxR.TabB X.base X.mg c P) (hcode : X.env.code = .ref c) (S : GxR.GenS X.env scope x) (hi : PE X iter te)
    (hs : ∀ v, genFold iter X.env v = pure v) (hc : X.calm = true) (hg : Gl X "sum") (hm : X.mg "sum" = none) (hb : bootBuiltins "sum" = some (.builtin "sum") := by decide +kernel)
    (he : starEach [.GeneratorExp elt [⟨.Name x px, iter, [], 0⟩] scope gpos] X.env = (false, eval (.GeneratorExp elt [⟨.Name x px, iter, [], 0⟩] scope gpos) X.env) :: starEach [] X.env := by rfl) :
    PE X (.Call (.Name "sum" p) [.GeneratorExp elt [⟨.Name x px, iter, [], 0⟩] scope gpos] [] pos) (tSumG X P scope x elt te) := by
  refine ⟨fun pins s σ H Q I h => ?_⟩
  refine wpAny_Call_Name_kw (ld_blt I hg hm hb ?_)
  refine PyProof.Rows.callWith_builtin1 ?_ he rfl
  rw [he]
  show wpAny _ _ (spliced ((false, eval (.GeneratorExp elt [⟨.Name x px, iter, [], 0⟩] scope gpos) X.env) :: backTo pos (starEach [] X.env))) _ _ s
  refine Calls.spliced_cons (gen_mk (σ := σ) (pins := pins) hr TB hcode S hs hc I.ok (thn (hi.run pins s σ H _ I h) fun xv s1 ⟨v, H1, I1, r1, q1⟩ => ?_))
  obtain ⟨yl, ws, f, rfl, hyl, hT, hel, hq⟩ := q1
  obtain rfl : xv = Value.ref yl := r1
  obtain ⟨its, rv, hl, hz⟩ := I1.list hyl
  obtain ⟨ps, hP, ht⟩ := id hT
  have hlen : its.length = ws.length := by rw [← rv.length, List.length_map]
  refine wpAny_pyIter_list hl.isList ⟨s1, H1, its.length, _, fun i y => ∃ t, y = .int ((ws.map f).getD i 0) t, I1, hT, src_lst I1 (by rw [hP]; exact fun z => nomatch z) ⟨ps, hP⟩ hl.isList, fun cenv A' E' i v s3 m ea hv hn hm => ?_, fun g s5 hG => ?_⟩
  · have hi2 : i < ws.length := by rw [← hlen]; exact (List.getElem?_eq_some_iff.mp hv).1
    have hb2 : (ws.map V.int)[i]? = some (V.int ws[i]) := by rw [List.getElem?_map, List.getElem?_eq_getElem hi2] <;> rfl
    obtain ⟨u, hu, ru⟩ := rv.get hb2
    rw [hv] at hu
    cases hu
    refine wpAny_mono (hel pins s1 H1 I1 (by rw [hP]; exact fun z => nomatch z) cenv A' E' (.int ws[i]) v s3 m ea ⟨_, List.getElem_mem hi2, rfl⟩ ru hn hm) (fun y s4 r => ⟨?_, r.2⟩) fun _ _ e => e
    obtain ⟨t, e⟩ := (show ∃ t, y = Value.int (f ws[i]) t from r.1)
    refine ⟨t, ?_⟩
    have e2 : (ws.map f).getD i 0 = f ws[i] := by simp [List.getD_eq_getElem?_getD, hi2]
    rw [e2]; exact e
  · refine Calls.spliced_nil ?_
    obtain ⟨fp, wr, G, St, W, hst, hfp, hgf, hTy, hinv⟩ := hG
    refine call_sum_walkAnyS (W.in4_1.self 0 s5 _ _ hst ⟨g, fp, wr, G, its.length, _, St, fun i => (ws.map f).getD i 0, rfl, W.in4_1, hst, hfp, fun i v hv => hv, fun s' t' hm => ?_⟩)
    obtain ⟨H2, hTb, I2⟩ := hinv s' hm
    have e : preSum (fun i => (ws.map f).getD i 0) its.length = (ws.map f).sum := by
      rw [preSum_take _ _ (by rw [hlen, List.length_map]; exact Nat.le_refl _), List.take_of_length_le (by rw [hlen, List.length_map]; exact Nat.le_refl _)]
    exact ⟨.int (ws.map f).sum, H2, I2, ⟨t', by rw [e]⟩, hq H2 hTb⟩
end
end AK
set_option Elab.async false
set_option linter.all false
set_option maxRecDepth 100000
set_option maxHeartbeats 2000000
/-! expressions that leave every object as it stands -/
namespace AK
open PySem PySem.Spec PyProof.Rows L2
theorem kp_trans {a b c : Shared} (h : Keeps a b) (k : Keeps b c) : Keeps a c := by
  obtain ⟨h1, t1, rfl, q1⟩ := h
  obtain ⟨h2, t2, rfl, q2⟩ := k
  exact ⟨h2, t2, rfl, fun b o e => q2 b o (q1 b o e)⟩
theorem kp_tok (s : Shared) (k : Nat) : Keeps s { s with toks := k } := ⟨s.heap, k, rfl, fun _ _ e => e⟩
/-- where Pre holds, e gives v and every object stays -/
structure Pk (prog : Program) (w : World) (A : Around) (env : Env) (Pre : Shared → Prop) (e : Expr) (v : V) : Prop where
  run : ∀ (E : Value → Shared → Prop) (s : Shared), Pre s → wpAny (model prog w) A (eval e env) (fun u s' => RelV v u ∧ Keeps s s') E s
def Stays (Pre : Shared → Prop) : Prop := ∀ s s', Pre s → Keeps s s' → Pre s'
section
variable {prog : Program} {w : World} {A : Around} {env : Env} {Pre : Shared → Prop} {a b : Expr} {pos p2 : Pos} {i j : Int}
theorem pk_int {k : Nat} : Pk prog w A env Pre (.Constant (.int i) k pos) (.int i) := ⟨fun _ s _ => wpAny_Constant_int ⟨⟨_, rfl⟩, kp_tok s _⟩⟩
/-- a name: the frame's own, captured, or the module's -/
def Nm (env : Env) (s : Shared) (x : Str) (u : Value) : Prop :=
  (env.kindOf x = some .local ∧ ∃ m, s.heap.Ns env.locals m ∧ m x = some u) ∨ (env.kindOf x = some .free ∧ ∃ c, env.cells.lookup x = some c ∧ s.heap.IsCell c (some u)) ∨
  (env.kindOf x = some .globalImplicit ∧ ∃ m, s.heap.Ns env.globals m ∧ m x = some u)
theorem pk_nm {x : Str} {v : V} (hk : env.scope.kind = .function) (h : ∀ s, Pre s → ∃ u, RelV v u ∧ Nm env s x u) (hd : (x == ("__debug__" : Str)) = false := by decide) (hcd : (x == ("__classdict__" : Str)) = false := by decide) : Pk prog w A env Pre (.Name x pos) v := ⟨fun E s hp => by
  obtain ⟨u, r, hn⟩ := h s hp
  rcases hn with ⟨k, m, n, e⟩ | ⟨k, c, n, e⟩ | ⟨k, m, n, e⟩
  · exact wpAny_Name (wpAny_loadName_local hk k n e ⟨r, kp_tok s s.toks⟩) hd
  · exact wpAny_Name (wpAny_loadName_free hk k n e ⟨r, kp_tok s s.toks⟩ hcd) hd
  · exact Calls.Name_function_global hk k (Calls.loadGlobal_global n e ⟨r, kp_tok s s.toks⟩) hd⟩
/-- two operands in a row -/
theorem pk_two {x y : V} (hst : Stays Pre) (ha : Pk prog w A env Pre a x) (hb : Pk prog w A env Pre b y) {E : Value → Shared → Prop} {s : Shared} (hp : Pre s) {Q : Value → Value → Shared → Prop} (h : ∀ u v s', RelV x u → RelV y v → Keeps s s' → Q u v s') :
    wpAny (model prog w) A (eval a env) (fun u s1 => wpAny (model prog w) A (eval b env) (fun v s2 => Q u v s2) E s1) E s := by
  refine thn (ha.run E s hp) fun u s1 ⟨r1, k1⟩ => ?_
  exact thn (hb.run E s1 (hst s s1 hp k1)) fun v s2 ⟨r2, k2⟩ => h u v s2 r1 r2 (kp_trans k1 k2)
theorem pk_sub (hst : Stays Pre) (ha : Pk prog w A env Pre a (.int i)) (hb : Pk prog w A env Pre b (.int j)) : Pk prog w A env Pre (.BinOp a .Sub b pos) (.int (i - j)) := ⟨fun E s hp => by
  refine wpAny_BinOp (pk_two hst ha hb hp fun u v s' ⟨t, e1⟩ ⟨t', e2⟩ k => ?_)
  subst e1 e2
  exact sub_int ⟨⟨_, rfl⟩, kp_trans k (kp_tok _ _)⟩⟩
theorem pk_mul (hst : Stays Pre) (ha : Pk prog w A env Pre a (.int i)) (hb : Pk prog w A env Pre b (.int j)) (hi : -(2 ^ 64) < i ∧ i < 2 ^ 64) : Pk prog w A env Pre (.BinOp a .Mult b pos) (.int (i * j)) := ⟨fun E s hp => by
  refine wpAny_BinOp (pk_two hst ha hb hp fun u v s' ⟨t, e1⟩ ⟨t', e2⟩ k => ?_)
  subst e1 e2
  exact mul_int ⟨⟨_, rfl⟩, kp_trans k (kp_tok _ _)⟩ (.of_left (intBits_le_64 hi.1 hi.2))⟩
end
/-- a captured name's value, in the generator's frame -/
theorem cap_at {X : Cx} {pins : List (Addr × Obj)} {σ : L2.St} {H : Hp} {s0 s3 : Shared} {P : Addr} {scope : Scope} {cenv : Env} {A' : Around} {y : Str} {j : Nat} {v : V} (I : Inv X pins σ H s0) (hP : H P ≠ none) (ea : EltAt X P s0 scope cenv A' s3) (hN : X.N[j]? = some y) (hσ : σ[j]? = some (some v))
    (hk : X.env.scope.names.lookup y = some .cell) (hclo : ∀ (cells : List (Str × Addr)) (c : Addr), cells.lookup y = some c → (cloFrom cells scope.names []).lookup y = some c) : ∃ u c, RelV v u ∧ cenv.cells.lookup y = some c ∧ c ≠ P ∧ s0.heap.IsCell c (some u) ∧ s3.heap.IsCell c (some u) := by
  obtain ⟨m, hn, hl⟩ := I.loc
  obtain ⟨u, r, l⟩ := hl j y v hN hσ (.inr (.inl hk))
  have hkk : X.env.kindOf y = some .cell := hk
  rcases l with ⟨q, _⟩ | ⟨_, c, hc, hcell⟩
  · rw [hkk] at q; cases q
  · have ncP : c ≠ P := fun z => hP (by rw [← z]; exact I.freeC y c hc)
    refine ⟨u, c, r, by rw [ea.cells]; exact hclo _ c hc, ncP, hcell, ?_⟩
    obtain ⟨o, ho, hd⟩ := hcell
    exact ⟨o, ea.old c o ncP ho, hd⟩
end AK
set_option Elab.async false
set_option linter.all false
set_option maxRecDepth 100000
set_option maxHeartbeats 4000000
namespace AK
open PySem PySem.Spec PyProof.Rows L2
theorem same_upd {H : Hp} {p : Addr} {o : HO} (h : H p = none) : Same H (upd H p o) := fun b x e => by
  rw [upd_ne (ne_of_none e h)]
  exact e
/-- for i, x in enumerate(a list that the body leaves) -/
theorem for_en {K : PySem.W.Frag} {a : Addr} {xs : List V} {g : TG} {tb : TS} {D : Ends} {σ : L2.St} {H : Hp} (Pv : Nat → L2.St → Hp → Prop) (h0 : Pv 0 σ H) (hl : ∀ i σ H, i ≤ xs.length → Pv i σ H → SqL K H a xs)
    (hs : ∀ i x σ H T, xs[i]? = some x → Pv i σ H → H T = none → g (.ref T) σ (upd H T (.tup [.int (i : Nat), x])) fun σ2 H2 => tb { D with nx := Pv (i + 1), ct := Pv (i + 1), bk := D.nx } σ2 H2) (hd : ∀ σ H, Pv xs.length σ H → D.nx σ H) :
    ∃ W : Nat → Nat → L2.St → Hp → Prop, (∃ m, W 0 m σ H) ∧ ∀ i m σ H, W i m σ H →
      ((Ite K a).stop i H ∧ D.nx σ H) ∨ ((Ite K a).go i H ∧ ∃ N : L2.St → Hp → Prop, (∀ σ' H', N σ' H' → ∃ m', m' < m ∧ W (i + 1) m' σ' H') ∧ ∀ x H', (Ite K a).yld i H x H' → g x σ H' fun σ2 H2 => tb { D with nx := N, ct := N, bk := D.nx } σ2 H2) := by
  refine ⟨fun i m σ H => m = xs.length - i ∧ i ≤ xs.length ∧ Pv i σ H, ⟨xs.length, by simp, Nat.zero_le _, h0⟩, ?_⟩
  rintro i m σ H ⟨rfl, hi, p⟩
  have q := hl i σ H hi p
  rcases Nat.lt_or_ge i xs.length with hlt | hge
  · refine .inr ⟨⟨xs, xs[i], q, List.getElem?_eq_getElem hlt⟩, Pv (i + 1), fun σ' H' p' => ⟨xs.length - (i + 1), by omega, rfl, hlt, p'⟩, fun v H' y => ?_⟩
    obtain ⟨T, x, rfl, nT, rfl, y⟩ := y
    exact hs i x σ H T (y xs q) p nT
  · have e : i = xs.length := by omega
    subst e
    exact .inl ⟨⟨xs, q, Nat.le_refl _⟩, hd σ H p⟩
/-- [.. for column in zip(*rows)], rows as long as n -/
theorem lc_zipN {ws : List Str} {n : Nat} {g : TG} {tt : TT} {te : TE} {vs : List Nat} {σ : L2.St} {H1 : Hp} {D : Addr} {Qd : Hp → Prop} (hn : ws = [] → n = 0) (hw : ∀ a ∈ ws, a.cps.size = n) (Pv : Nat → Hp → Prop) (h0 : Pv 0 (upd H1 D (.lst [])))
    (hs : ∀ i H T, i < n → Pv i H → H T = none → g (.ref T) (wipe σ vs) (upd H T (.tup ((colAt ws i).map V.str))) fun σ2 H2 => wipe σ2 vs = wipe σ vs ∧ tt σ2 H2 fun b H3 =>
      if b = true then te σ2 H3 fun y H4 => ∃ acc, H4 D = some (.lst acc) ∧ acc.length < sizeLine ∧ Pv (i + 1) (upd H4 D (.lst (acc ++ [y]))) else Pv (i + 1) H3) (hd : ∀ H, Pv n H → Qd H) :
    ∃ W : Nat → Nat → Hp → Prop, (∃ m, W 0 m (upd H1 D (.lst []))) ∧ ∀ i m H, W i m H →
      ((ItzN ws).stop i H ∧ Qd H) ∨ ((ItzN ws).go i H ∧ ∃ Nx : Hp → Prop, (∀ H', Nx H' → ∃ m', m' < m ∧ W (i + 1) m' H') ∧ ∀ x H', (ItzN ws).yld i H x H' → g x (wipe σ vs) H' fun σ2 H2 => wipe σ2 vs = wipe σ vs ∧ tt σ2 H2 fun b H3 =>
        if b = true then te σ2 H3 fun y H4 => ∃ acc, H4 D = some (.lst acc) ∧ acc.length < sizeLine ∧ Nx (upd H4 D (.lst (acc ++ [y]))) else Nx H3) := by
  refine ⟨fun i m H => m = n - i ∧ i ≤ n ∧ Pv i H, ⟨n, by simp, Nat.zero_le _, h0⟩, ?_⟩
  rintro i m H ⟨rfl, hi, p⟩
  rcases Nat.lt_or_ge i n with hlt | hge
  · refine .inr ⟨⟨fun z => by have := hn z; omega, fun a ha => by rw [hw a ha]; exact hlt⟩, Pv (i + 1), fun H' p' => ⟨n - (i + 1), by omega, rfl, hlt, p'⟩, fun x H' y => ?_⟩
    obtain ⟨T, rfl, nT, rfl⟩ := y
    exact hs i H T hlt p nT
  · have e : i = n := by omega
    subst e
    exact .inl ⟨fun a ha => by rw [hw a (List.mem_of_getElem? ha)]; exact Nat.le_refl _, hd H p⟩
theorem row_ok (n : Nat) (e : Nat → Bool) : PyData.strOk (row n e) = true := by
  unfold PyData.strOk
  rw [Array.all_eq_true']
  intro c hc
  simp only [row, List.mem_toArray, List.mem_map] at hc
  obtain ⟨j, _, rfl⟩ := hc
  exact decide_eq_true (Nat.lt_trans (sg_lt _) (by decide))
theorem web_mem {n : Nat} {e : Nat → Nat → Bool} {a : Str} (h : a ∈ web n e) : ∃ i, i < n ∧ a = row n (e i) := by
  unfold web at h
  obtain ⟨i, hi, rfl⟩ := List.mem_map.mp h
  exact ⟨i, List.mem_range.mp hi, rfl⟩
theorem webV_at {n i : Nat} {e : Nat → Nat → Bool} {x : V} (h : ((web n e).map V.str)[i]? = some x) : i < n ∧ x = .str (row n (e i)) := by
  have hi : i < n := by
    have := (List.getElem?_eq_some_iff.mp h).1
    rw [List.length_map, web_len] at this
    exact this
  rw [List.getElem?_map, web_at hi] at h
  exact ⟨hi, (Option.some.inj h).symm⟩
/-- sep.join(a list or a tuple of texts), the written part by name -/
def rJoin (K : PySem.W.Frag) : V → List V → Hp → VK → Prop := fun x xs H Q => ∃ a p, ∃ ys : List Str, x = .str a ∧ xs = [.ref p] ∧ (SqL K H p (ys.map V.str) ∨ SqT K H p (ys.map V.str)) ∧ (ys.map (·.length)).sum + ys.length * a.length ≤ 16777216 ∧ Q (.str (Txt.join a ys)) H
theorem pe_joinK {X : Cx} {o e : Expr} {to te : TE} {apos pos : Pos} (K : PySem.W.Frag) (hK : X.K = K) (ho : PE X o to) (he : PE X e te) (hs : starEach [e] X.env = [(false, eval e X.env)] := by rfl)
    (hbase : attributeBase o "join" X.env (eval o X.env) = eval o X.env := by rfl) (hline : (apos.endLine == pos.line) = true := by rfl) : PE X (.Call (.Attribute o "join" apos) [e] [] pos) (tM1 (rJoin K) to te) := by
  subst hK
  exact pe_join ho he hs hbase hline
end AK
set_option Elab.async false
set_option linter.all false
set_option maxRecDepth 100000
set_option maxHeartbeats 2000000
namespace AK
open PySem PySem.Spec PyProof.Rows L2
/-! ### defs whose code object bears a table -/
structure FunR (K : PySem.W.Frag) (x qual : Str) (st : Stmt) (c : Addr) (f : Addr) (fd : FuncData) : Prop where
  ex : ∃ (oc : Value) (od : Option Addr) (kV doc pm : Value) (an : Option Addr) (ct : Value) (osl : Array (Option Value)),
    fd = PySem.W.fnOf x qual (defArgs st) (defBody st) (defScope st) .none kV doc pm an (.ref c) ct ∧ K.lookup f = some ⟨oc, od, .func fd, osl⟩ ∧ PySem.W.codeIn K (.ref c) qual = true
  kp : PySem.W.keepIn K (.ref f) = true
section
variable {P : Program} {w : World} {K : PySem.W.Frag} {mg : Str → Option Value} {base : Heap}
theorem FunR.ok {x qual : Str} {st : Stmt} {c f : Addr} {fd : FuncData} {N ps : List Str} {k : Nat} {sp : Sp} (F : FunR K x qual st c f fd) (S : FnScope N ps (defScope st)) (len : ∀ vs H Q E, sp vs H Q E → vs.length = ps.length)
    (hbody : ∀ (A : Around) (outer : List Env) (s : Shared) (H : Hp) (vs : List V) (Q : VK) (E : XK), Room k (A.deeper (envOfC qual (defScope st) s.heap.objs.size f (.ref c))) → sp vs H Q E →
      ∃ t, PSs (cxOf CX0 P w K mg base N qual (defScope st) f (.ref c) A outer s H E).nox (defBody st) t ∧ t { nx := fun _ H' => Q .non H', rt := Q } (start N vs) H) : FnOk P w K mg base CX0 (k + 1) f fd ps sp := by
  obtain ⟨oc, od, kV, doc, pm, an, ct, osl, rfl, lk, hcd⟩ := F.ex
  refine fn_of lk hcd S len fun A outer s H vs Q E hr hsp => ?_
  obtain ⟨t, h, q⟩ := hbody A outer s H vs Q E hr hsp
  exact ⟨t, h.nox, q⟩
theorem FunR.binds {x qual : Str} {st : Stmt} {c f : Addr} {fd : FuncData} {ps : List Str} (F : FunR K x qual st c f fd)
    (h : ∀ (kV doc pm : Value) (an : Option Addr) (cdv ct : Value) (us : List Value), us.length = ps.length → bindArgs (PySem.W.fnOf x qual (defArgs st) (defBody st) (defScope st) .none kV doc pm an cdv ct) ⟨us, []⟩ = pure (ps.zip us)) : Binds K fd ps [] := by
  obtain ⟨oc, od, kV, doc, pm, an, ct, osl, rfl, lk, hcd⟩ := F.ex
  exact .all (h kV doc pm an _ ct)
theorem funR_mk {x qual : Str} {st : Stmt} {c f : Addr} {oc : Value} {od an : Option Addr} {osl : Array (Option Value)} {kV doc pm cdv ct : Value} (hc : cdv = .ref c) (l : K.lookup f = some ⟨oc, od, .func (PySem.W.fnOf x qual (defArgs st) (defBody st) (defScope st) .none kV doc pm an cdv ct), osl⟩)
    (hcd : PySem.W.codeIn K cdv qual = true) (k : PySem.W.keepIn K (.ref f) = true) : FunR K x qual st c f (PySem.W.fnOf x qual (defArgs st) (defBody st) (defScope st) .none kV doc pm an cdv ct) := by
  subst hc
  exact ⟨⟨oc, od, kV, doc, pm, an, ct, osl, rfl, l, hcd⟩, k⟩
end
/-- a generator expression's scope in a def's frame -/
theorem genS_of {qual : Str} {dsc scope : Scope} {n f : Nat} {cd : Value} {x : Str} (hk : scope.kind = .function) (hco : scope.isCoroutine = false) (hcell : (scope.names.all fun y => decide (y.2 ≠ .cell)) = true) (hdot : scope.names.lookup (".0" : Str) = some NameKind.local)
    (hloc : scope.names.lookup x = some .local) (hfree : (scope.names.all fun y => decide (y.2 ≠ .free) || decide (dsc.names.lookup y.1 = some .cell)) = true) : GxR.GenS (envOfC qual dsc n f cd) scope x where
  kind := hk
  co := hco
  cell := fun y hy => of_decide_eq_true (List.all_eq_true.mp hcell y hy)
  dot := hdot
  loc := hloc
  free := fun y hy e => by
    have q := List.all_eq_true.mp hfree y hy
    rw [e] at q
    simp only [ne_eq, not_true_eq_false, decide_false, Bool.false_or, decide_eq_true_eq] at q
    exact cell_has q
/-! ### the tables grow, all else stands -/
def Tb (Ts : List Addr) (H : Hp) : Prop := ∀ p ∈ Ts, GxR.TabG H p
def SmT (Ts : List Addr) (H H' : Hp) : Prop := (∀ b o, b ∉ Ts → H b = some o → H' b = some o) ∧ (Tb Ts H → Tb Ts H')
section
variable {Ts : List Addr} {H H1 H2 : Hp} {K : PySem.W.Frag} {a p : Addr} {xs : List V} {o : HO}
theorem SmT.refl : SmT Ts H H := ⟨fun _ _ _ e => e, fun h => h⟩
theorem SmT.trans (x : SmT Ts H H1) (y : SmT Ts H1 H2) : SmT Ts H H2 := ⟨fun b o hb e => y.1 b o hb (x.1 b o hb e), fun h => y.2 (x.2 h)⟩
theorem SmT.of (s : Same H H1) : SmT Ts H H1 := ⟨fun b o _ e => s b o e, fun h p hp => let ⟨ps, e, t⟩ := h p hp; ⟨ps, s _ _ e, t⟩⟩
theorem SmT.tab (hp : p ∈ Ts) (t : GxR.Tabbed p H H1) : SmT Ts H H1 := ⟨fun b o hb e => by rw [t.2 b (fun z => hb (by rw [z]; exact hp))]; exact e, fun h q hq => by
  by_cases e : q = p
  · rw [e]; exact t.1
  · obtain ⟨ps, e1, e2⟩ := h q hq
    exact ⟨ps, by rw [t.2 q e]; exact e1, e2⟩⟩
theorem Tb.no (h : Tb Ts H) (e : H a = some o) (ho : ∀ ps, o ≠ .tbl ps) : a ∉ Ts := fun z => by
  obtain ⟨ps, e1, _⟩ := h a z
  rw [e] at e1
  exact ho ps (Option.some.inj e1)
theorem SmT.at (s : SmT Ts H H1) (h : Tb Ts H) (e : H a = some o) (ho : ∀ ps, o ≠ .tbl ps) : H1 a = some o := s.1 a o (h.no e ho) e
theorem SmT.lst (s : SmT Ts H H1) (h : Tb Ts H) (e : H a = some (.lst xs)) : H1 a = some (.lst xs) := s.at h e fun _ z => nomatch z
theorem SmT.seq (s : SmT Ts H H1) (h : Tb Ts H) (e : SqL K H a xs) : SqL K H1 a xs := by
  rcases e with (e | ⟨o, e⟩) | e
  · exact .inl (.inl (s.lst h e))
  · exact .inl (.inr ⟨o, s.at h e fun _ z => nomatch z⟩)
  · exact .inr e
theorem SmT.sqt (s : SmT Ts H H1) (h : Tb Ts H) (e : SqT K H a xs) : SqT K H1 a xs := by
  rcases e with (e | ⟨o, e⟩) | e
  · exact .inl (.inl (s.at h e fun _ z => nomatch z))
  · exact .inl (.inr ⟨o, s.at h e fun _ z => nomatch z⟩)
  · exact .inr e
theorem SmT.free (s : SmT Ts H H1) (h : Tb Ts H) {l : Addr} (e : H1 l = none) : H l = none := by
  cases q : H l with
  | none => rfl
  | some o =>
    by_cases hl : l ∈ Ts
    · obtain ⟨ps, e1, _⟩ := s.2 h l hl
      rw [e] at e1; cases e1
    · rw [s.1 l o hl q] at e; cases e
theorem Tb.upd (h : Tb Ts H) {d : Addr} (hd : H d = none) : Tb Ts (upd H d o) := fun p hp => by
  obtain ⟨ps, e, t⟩ := h p hp
  exact ⟨ps, by rw [upd_ne (ne_of_none e hd)]; exact e, t⟩
theorem Tb.put (h : Tb Ts H) {d : Addr} {u : HO} (hd : H d = some u) (hu : ∀ ps, u ≠ .tbl ps) : Tb Ts (L2.upd H d o) := fun p hp => by
  obtain ⟨ps, e, t⟩ := h p hp
  have n : p ≠ d := fun z => by rw [z, hd] at e; exact hu ps (Option.some.inj e)
  exact ⟨ps, by rw [upd_ne n]; exact e, t⟩
end
end AK
set_option Elab.async false
set_option linter.all false
set_option maxRecDepth 100000
namespace AX
open PySem PySem.Spec PyProof.Rows L2
def topS (i : Nat) : Stmt := PySem.Challenge.pw_allknown_k06_refused.main.body.getD i (.Pass ⟨0, 0, 0, 0⟩)
abbrev sWhole : Stmt := topS 9
abbrev sCount : Stmt := topS 10
abbrev sWeb : Stmt := topS 15
abbrev sRow : Stmt := topS 16
abbrev sTies : Stmt := topS 17
abbrev sTurned : Stmt := topS 18
abbrev sSure : Stmt := topS 26
abbrev sFound : Stmt := topS 27
abbrev sPromised : Stmt := topS 28
abbrev sStrangers : Stmt := topS 29
abbrev sFriends : Stmt := topS 30
abbrev sApart : Stmt := topS 31
abbrev sAlike : Stmt := topS 34
abbrev sThree : Stmt := topS 35
abbrev sFewest : Stmt := topS 36
abbrev sWebOf : Stmt := topS 38
abbrev sWithWeb : Stmt := topS 42
abbrev sWithCount : Stmt := topS 43
abbrev sBadWeb : Stmt := topS 44
abbrev sTold : Stmt := topS 45
abbrev sGreat : Stmt := topS 46
abbrev sLaw : Stmt := topS 47
abbrev sInit : Stmt := inClass (topS 22) 0
end AX
set_option Elab.async false
set_option linter.all false
set_option maxRecDepth 100000
set_option maxHeartbeats 4000000
namespace AX
open PySem PySem.Spec PyProof.Rows L2 AK
/-! ### what is shared -/
structure Bl (mg : Str → Option Value) : Prop where
  isi : mg "isinstance" = none
  int : mg "int" = none
  bool : mg "bool" = none
  list : mg "list" = none
  str : mg "str" = none
  len : mg "len" = none
  enumerate : mg "enumerate" = none
  zip : mg "zip" = none
  range : mg "range" = none
  sum : mg "sum" = none
structure Cn (mg : Str → Option Value) : Prop where
  knows : ∃ t, mg "KNOWS" = some (.str "x" t)
  apart : ∃ t, mg "APART" = some (.str "-" t)
  most : ∃ t, mg "MOST_PEOPLE" = some (.int 200 t)
  size : ∃ t, mg "MOST_SIZE" = some (.int 200 t)
/-- a class of errors -/
structure EC (K : PySem.W.Frag) (mg : Str → Option Value) (x : Str) (C : Addr) : Prop where
  g : mg x = some (.ref C)
  q : PySem.W.excIn K C [.type "ValueError", .type "Exception", .type "BaseException", .type "object"] "ValueError.__new__" = true
  kp : PySem.W.keepIn K (.ref C) = true
  sb : PySem.W.subIn K (.ref C) (.type "BaseException") = some true
  ty : PySem.W.typeIn K (.ref C) = some (.type "type")
/-- of another built-in type -/
def Not (K : PySem.W.Frag) (H : Hp) (x : V) (T : String) : Prop := ∃ s : String, TyX K H x (.type s) ∧ kitB s T = some false
theorem tyS {K : PySem.W.Frag} {H H' : Hp} {x : V} {s : String} (h : TyX K H x (.type s)) (sm : Same H H') : TyX K H' x (.type s) := by
  cases h with
  | base b =>
    cases b with
    | non => exact .base .non
    | bl x => exact .base (.bl x)
    | int i => exact .base (.int i)
    | str x => exact .base (.str x)
    | flt x => exact .base (.flt x)
    | lst e => exact .base (.lst (sm _ _ e))
    | frz e => exact .base (.frz (sm _ _ e))
    | tup e => exact .base (.tup (sm _ _ e))
    | dK e => exact .base (.dK (sm _ _ e))
    | dT e => exact .base (.dT (sm _ _ e))
  | byt b => exact .byt b
  | set e => exact .set (sm _ _ e)
  | kList e c => exact .kList e c
  | kTuple e c => exact .kTuple e c
  | kDict e c => exact .kDict e c
  | fTuple e => exact .fTuple (sm _ _ e)
  | fDict e => exact .fDict (sm _ _ e)
theorem Not.same {K : PySem.W.Frag} {H H' : Hp} {x : V} {T : String} (h : Not K H x T) (sm : Same H H') : Not K H' x T := let ⟨s, a, b⟩ := h; ⟨s, tyS a sm, b⟩
theorem fits {n : Nat} (h : n ≤ 1000) : n ≤ sizeLine := Nat.le_of_lt (small1000 h)
theorem lenI {i : Int} (h : i.natAbs < 2 ^ 20) : (Str.ofString (toString i)).length ≤ 21 := by
  rw [PySem.ofString_length]
  exact int_text_length_le (k := 20) (by decide) (PySem.Flt.log2_lt_of (by decide) h)
theorem logI {i : Int} (h : i.natAbs < 2 ^ 20) : i.natAbs.log2 < 1920 := Nat.lt_trans (PySem.Flt.log2_lt_of (by decide) h) (by decide)
/-- a raise whose message is one expression -/
theorem ps_rais {X : Cx} {W : WX} {C : Addr} {x : Str} {e : Expr} {ta : TE} {p pos pos2 : Pos} (hc : X.calm = true) (tk : Takes X W) (B : EC X.K X.mg x C) (hg : Gl X x) (he : PE X e ta) (hs : starEach [e] X.env = (false, eval e X.env) :: starEach [] X.env := by rfl) (hdb : (x == ("__debug__" : Str)) = false := by decide) :
    PS X (.Raise (some (.Call (.Name x p) [e] [] pos)) none pos2) (fun _ σ H => ta σ H fun _ H1 => W (.ref C) none σ H1) :=
  ps_raise hc tk (SkE.pmk_own1 PySem.F.excBase_ValueError B.q B.g B.kp (raises_own B.sb B.ty) hg he hs hdb)
section
variable {P : Program} {w : World} {K : PySem.W.Frag} {mg : Str → Option Value} {base : Heap}
/-! ### is_whole -/
theorem scWhole : FnScope ["value"] ["value"] (defScope sWhole) := ⟨rfl, rfl, rfl, by decide +kernel, rfl, by decide +kernel, by decide +kernel⟩
def NotWhole (K : PySem.W.Frag) (H : Hp) (x : V) : Prop := (∃ b, x = .bl b) ∨ Not K H x "int"
def spWhole (K : PySem.W.Frag) : Sp := fun vs H Q _ => ∃ x, vs = [x] ∧ ((∃ i : Int, x = .int i ∧ Q (.bl true) H) ∨ (NotWhole K H x ∧ Q (.bl false) H))
theorem ok_whole {f : Addr} {fd : FuncData} (F : Fun K "is_whole" "is_whole" sWhole f fd) (B : Bl mg) : FnOk P w K mg base CX0 1 f fd ["value"] (spWhole K) := by
  refine F.ok scWhole (fun vs H Q E h => ?_) (fun cdv A outer s H vs Q E hr h => ?_)
  · obtain ⟨x, rfl, _⟩ := h
    rfl
  · obtain ⟨x, rfl, h⟩ := h
    refine ⟨_, pss_one (ps_ret (pe_and (pe_callB call_isi (by rfl) B.isi (by decide +kernel) (pa_cons (pv 0) (pa_cons (pe_bltn (v := .ty "int") (u := .type "int") (by rfl) B.int (by decide +kernel) rfl) pa_nil)))
      (pe_one (pe_not (pe_callB call_isi (by rfl) B.isi (by decide +kernel) (pa_cons (pv 0) (pa_cons (pe_bltn (v := .ty "bool") (u := .type "bool") (by rfl) B.bool (by decide +kernel) rfl) pa_nil))))))), ?_⟩
    rcases h with ⟨i, rfl, q⟩ | ⟨⟨b, rfl⟩ | ⟨s, hs, hk⟩, q⟩
    · refine ⟨_, rfl, .int i, .ty "int", .type "int", .type "int", true, rfl, .ty "int", .base (.int i), kit_ty (by decide +kernel), true, rfl, iteT ?_⟩
      refine ⟨_, rfl, .int i, .ty "bool", .type "int", .type "bool", false, rfl, .ty "bool", .base (.int i), kit_ty (by decide +kernel), false, rfl, ?_⟩
      exact q
    · refine ⟨_, rfl, .bl b, .ty "int", .type "bool", .type "int", true, rfl, .ty "int", .base (.bl b), kit_ty (by decide +kernel), true, rfl, iteT ?_⟩
      refine ⟨_, rfl, .bl b, .ty "bool", .type "bool", .type "bool", true, rfl, .ty "bool", .base (.bl b), kit_ty (by decide +kernel), true, rfl, ?_⟩
      exact q
    · refine ⟨_, rfl, x, .ty "int", .type s, .type "int", false, rfl, .ty "int", hs, kit_ty hk, false, rfl, iteF ?_⟩
      exact q
/-! ### check_count -/
theorem scCount : FnScope ["value", "least", "most"] ["value", "least", "most"] (defScope sCount) := ⟨rfl, rfl, rfl, by decide +kernel, rfl, by decide +kernel, by decide +kernel⟩
def spCount (K : PySem.W.Frag) (C : Addr) : Sp := fun vs H Q E => ∃ (x : V) (a : Int) (m : V), vs = [x, .int a, m] ∧ a.natAbs < 2 ^ 20 ∧ (m = .non ∨ m = .int 200) ∧
  ((NotWhole K H x ∧ E (.ref C) none H) ∨ ∃ i : Int, x = .int i ∧ ((i < a ∧ E (.ref C) none H) ∨ (a ≤ i ∧ ((m = .int 200 ∧ 200 < i ∧ E (.ref C) none H) ∨ ((m = .int 200 → i ≤ 200) ∧ Q .non H)))))
abbrev FunC (K : PySem.W.Frag) (f : Addr) (fd : FuncData) : Prop := FunD K "check_count" "check_count" (defArgs sCount) (defBody sCount) (defScope sCount) [.non] [] f fd
theorem ok_count {f fW C : Addr} {fd fdW : FuncData} (F : FunC K f fd) (FW : Fun K "is_whole" "is_whole" sWhole fW fdW) (bW : Binds K fdW ["value"] []) (gW : mg "is_whole" = some (.ref fW)) (B : Bl mg) (EB : EC K mg "BadCount" C) : FnOk P w K mg base (L2.CX P w) 2 f fd ["value", "least", "most"] (spCount K C) := by
  have GW : FnOk P w K mg base CX0 1 fW fdW ["value"] (spWhole K) := ok_whole FW B
  refine FunD.ok F scCount (fun vs H Q E h => ?_) (fun cdv A outer s H vs Q E hr h => ?_)
  · obtain ⟨x, a, m, rfl, _⟩ := h
    rfl
  · obtain ⟨x, a, m, rfl, ha, hm, h⟩ := h
    refine ⟨_, pss_cons (ps_if (pt_not (pt_val (pe_call GW hr (by rfl) gW FW.kp bW .nil pass0 (pa_cons (pv 0) pa_nil)))) (pss_one (ps_rais rfl (takes_of rfl rfl rfl rfl) EB (by rfl) pe_str)) pss_nil)
      (pss_cons (ps_if (pt_cmpR op_lt (pv 0) (pv 1) (nomark _)) (pss_one (ps_rais rfl (takes_of rfl rfl rfl rfl) EB (by rfl) (pe_joined (.cons pe_str (.cons (pe_fmt (pv 1)) .nil))))) pss_nil)
      (pss_one (ps_if (PW.pt (pw_and (pt_cmp (pc_notN (pv 2))) (pw_and1 (pt_cmpR op_gt (pv 0) (pv 2) (nomark _))))) (pss_one (ps_rais rfl (takes_of rfl rfl rfl rfl) EB (by rfl) (pe_joined (.cons pe_str (.cons (pe_fmt (pv 2)) .nil))))) pss_nil))), ?_⟩
    rcases h with ⟨hw, q⟩ | ⟨i, rfl, h⟩
    · refine ⟨_, rfl, x, rfl, .inr ⟨hw, false, rfl, iteT ?_⟩⟩
      exact q
    · refine ⟨_, rfl, _, rfl, .inl ⟨i, rfl, true, rfl, iteF ?_⟩⟩
      refine ⟨_, rfl, _, rfl, i, a, rfl, rfl, _, rfl, ?_⟩
      rcases h with ⟨hi, q⟩ | ⟨hi, h⟩
      · rw [decide_eq_true hi]
        refine iteT ?_
        refine ⟨_, rfl, by decide, _, rfl, .inr ⟨a, rfl, logI ha, _, rfl, ?_, ?_⟩⟩
        · have := lenI ha
          rw [Str.length_append]
          refine fits ?_
          have e : (Str.empty ++ Str.ofString "this number is below ").length = 21 := by decide
          omega
        · exact q
      · rw [decide_eq_false (by omega)]
        refine iteF ?_
        rcases h with ⟨rfl, h2, q⟩ | ⟨h2, q⟩
        · refine ⟨_, rfl, _, rfl, iteT ?_⟩
          refine ⟨_, rfl, _, rfl, i, 200, rfl, rfl, _, rfl, ?_⟩
          rw [decide_eq_true h2]
          refine iteT ?_
          refine ⟨_, rfl, by decide, _, rfl, .inr ⟨200, rfl, by decide, _, rfl, by decide, ?_⟩⟩
          exact q
        · rcases hm with rfl | rfl
          · refine ⟨_, rfl, _, rfl, iteF (iteF ?_)⟩
            exact q
          · refine ⟨_, rfl, _, rfl, iteT ?_⟩
            refine ⟨_, rfl, _, rfl, i, 200, rfl, rfl, _, rfl, ?_⟩
            rw [decide_eq_false (by have := h2 rfl; omega)]
            exact iteF q
end
end AX
set_option Elab.async false
set_option linter.all false
set_option maxRecDepth 100000
set_option maxHeartbeats 4000000
namespace AX
open PySem PySem.Spec PyProof.Rows L2 AK
theorem la {a b : Str} {m n : Nat} (h : a.length ≤ m) (h2 : b.length ≤ n) : (a ++ b).length ≤ m + n := by
  rw [Str.length_append]
  omega
theorem lz {a : Str} {m : Nat} (h : a.length ≤ m) (hm : m ≤ 1000) : a.length ≤ sizeLine := fits (Nat.le_trans h hm)
theorem l0 : (Str.empty).length ≤ 0 := by decide
/-- a row of texts that may be wrong -/
def RowBad (K : PySem.W.Frag) (H : Hp) (n k : Nat) (v : V) : Prop := Not K H v "str" ∨ ∃ s : Str, v = .str s ∧ s.length ≤ 1000 ∧ (s.length ≠ n ∨ (s.length = n ∧ Txt.count s (Str.ofString "x") + Txt.count s (Str.ofString "-") ≠ n) ∨ ∃ e, s = row n e ∧ e k = true)
theorem RowBad.same {K : PySem.W.Frag} {H H' : Hp} {n k : Nat} {v : V} (h : RowBad K H n k v) (s : Same H H') : RowBad K H' n k v := h.elim (fun a => .inl (a.same s)) .inr
section
variable {P : Program} {w : World} {K : PySem.W.Frag} {mg : Str → Option Value} {base : Heap}
theorem scRow : FnScope ["row", "place", "size"] ["row", "place", "size"] (defScope sRow) := ⟨rfl, rfl, rfl, by decide +kernel, rfl, by decide +kernel, by decide +kernel⟩
def spRow (K : PySem.W.Frag) (C : Addr) : Sp := fun vs H Q E => ∃ (v : V) (n k : Nat), vs = [v, .int k, .int n] ∧ k < n ∧ n ≤ 200 ∧ ((RowBad K H n k v ∧ E (.ref C) none H) ∨ ((∃ e, v = .str (row n e) ∧ e k = false) ∧ Q .non H))
theorem ok_row {f C : Addr} {fd : FuncData} (F : Fun K "_check_row" "_check_row" sRow f fd) (B : Bl mg) (Cc : Cn mg) (EB : EC K mg "BadWeb" C) : FnOk P w K mg base (L2.CX P w) 1 f fd ["row", "place", "size"] (spRow K C) := by
  obtain ⟨tk, gk⟩ := Cc.knows
  obtain ⟨ta, ga⟩ := Cc.apart
  refine F.okX scRow (fun vs H Q E h => ?_) (fun cdv A outer s H vs Q E hr h => ?_)
  · obtain ⟨v, n, k, rfl, _⟩ := h
    rfl
  · obtain ⟨v, n, k, rfl, hk, hn, h⟩ := h
    have hb : (k : Int).natAbs < 2 ^ 20 := by omega
    refine ⟨_, pss_cons (ps_if (pt_not (pt_val (pe_callB call_isi (by rfl) B.isi (by decide +kernel) (pa_cons (pv 0) (pa_cons (pe_bltn (v := .ty "str") (u := .type "str") (by rfl) B.str (by decide +kernel) rfl) pa_nil))))) (pss_one (ps_rais rfl (takes_of rfl rfl rfl rfl) EB (by rfl) (pe_joined (.cons pe_str (.cons (pe_fmt (pv 1)) (.cons pe_str .nil)))))) pss_nil)
      (pss_cons (ps_if (pt_cmpR op_ne (pe_callB call_len_str (by rfl) B.len PySem.boot_len (pa_cons (pv 0) pa_nil)) (pv 2) (nomark _)) (pss_one (ps_rais rfl (takes_of rfl rfl rfl rfl) EB (by rfl) (pe_joined (.cons pe_str (.cons (pe_fmt (pv 1)) (.cons pe_str .nil)))))) pss_nil)
      (pss_cons (ps_if (pt_cmpR op_ne (pe_op op_add (pe_m1 PySem.F.slot_str_count PySem.F.type_str_count mt_count (pv 0) (pe_glob (v := .str "x") rfl gk ⟨_, rfl⟩)) (pe_m1 PySem.F.slot_str_count PySem.F.type_str_count mt_count (pv 0) (pe_glob (v := .str "-") rfl ga ⟨_, rfl⟩)))
          (pe_callB call_len_str (by rfl) B.len PySem.boot_len (pa_cons (pv 0) pa_nil)) (nomark _)) (pss_one (ps_rais rfl (takes_of rfl rfl rfl rfl) EB (by rfl) (pe_joined (.cons pe_str (.cons (pe_fmt (pv 1)) (.cons pe_str (.cons (pe_fmt (pe_glob (v := .str "x") rfl gk ⟨_, rfl⟩)) (.cons pe_str (.cons (pe_fmt (pe_glob (v := .str "-") rfl ga ⟨_, rfl⟩)) .nil))))))))) pss_nil)
      (pss_one (ps_if (pt_cmpR op_eq (pe_ix ix_str (pv 0) (pv 1) (fun _ _ => rfl)) (pe_glob (v := .str "x") rfl gk ⟨_, rfl⟩) (nomark _)) (pss_one (ps_rais rfl (takes_of rfl rfl rfl rfl) EB (by rfl) (pe_joined (.cons pe_str (.cons (pe_fmt (pv 1)) (.cons pe_str .nil)))))) pss_nil)))), ?_⟩
    rcases h with ⟨⟨s, hs, hkk⟩ | ⟨s, rfl, hz, hbad⟩, q⟩ | ⟨⟨e, rfl, he⟩, q⟩
    · refine ⟨_, rfl, v, .ty "str", .type s, .type "str", false, rfl, .ty "str", hs, kit_ty hkk, false, rfl, iteT ?_⟩
      refine ⟨_, rfl, by decide, _, rfl, .inr ⟨(k : Int), rfl, logI hb, _, rfl, lz (la (la l0 (Nat.le_refl _)) (lenI hb)) (by decide), _, rfl, lz (la (la (la l0 (Nat.le_refl _)) (lenI hb)) (Nat.le_refl _)) (by decide), ?_⟩⟩
      exact q
    · have hsz : s.length ≤ sizeLine := fits hz
      refine ⟨_, rfl, .str s, .ty "str", .type "str", .type "str", true, rfl, .ty "str", .base (.str _), kit_ty (by decide +kernel), true, rfl, iteF ?_⟩
      refine ⟨_, rfl, _, rfl, hsz, _, rfl, rfl, _, rfl, ?_⟩
      by_cases hl : s.length = n
      · refine iteNS (c := V.int (s.length : Nat) = V.int (n : Nat)) (by rw [hl]) ?_
        refine ⟨_, rfl, ⟨_, rfl⟩, _, _, rfl, rfl, _, rfl, ⟨_, rfl⟩, _, _, rfl, rfl, _, _, rfl, rfl, _, rfl, _, rfl, hsz, rfl, _, rfl, ?_⟩
        rcases hbad with hb1 | ⟨_, hb2⟩ | ⟨e, rfl, he⟩
        · exact absurd hl hb1
        · rw [decide_eq_false (show ¬ V.int (Txt.count s (Str.ofString "x") + Txt.count s (Str.ofString "-")) = V.int (s.length : Nat) from fun z => hb2 (by injection z; omega))]
          refine iteT ?_
          refine ⟨_, rfl, by decide, _, rfl, .inr ⟨(k : Int), rfl, logI hb, _, rfl, lz (la (la l0 (Nat.le_refl _)) (lenI hb)) (by decide), _, rfl, lz (la (la (la l0 (Nat.le_refl _)) (lenI hb)) (Nat.le_refl _)) (by decide), .inl ⟨_, rfl, by decide, _, rfl, lz (la (la (la (la l0 (Nat.le_refl _)) (lenI hb)) (Nat.le_refl _)) (Nat.le_refl _)) (by decide), _, rfl, lz (la (la (la (la (la l0 (Nat.le_refl _)) (lenI hb)) (Nat.le_refl _)) (Nat.le_refl _)) (Nat.le_refl _)) (by decide), .inl ⟨_, rfl, by decide, _, rfl, lz (la (la (la (la (la (la l0 (Nat.le_refl _)) (lenI hb)) (Nat.le_refl _)) (Nat.le_refl _)) (Nat.le_refl _)) (Nat.le_refl _)) (by decide), ?_⟩⟩⟩⟩
          exact q
        · refine iteNS (c := V.int (Txt.count (row n e) (Str.ofString "x") + Txt.count (row n e) (Str.ofString "-")) = V.int ((row n e).length : Nat)) (by rw [row_both, row_len]) ?_
          refine ⟨_, rfl, _, rfl, _, _, sg (e k), rfl, rfl, hsz, atI_nat (row_atL hk), rfl, _, rfl, ?_⟩
          rw [he, decide_eq_true (show V.str ⟨#[sg true]⟩ = V.str (Str.ofString "x") from rfl)]
          refine iteT ?_
          refine ⟨_, rfl, by decide, _, rfl, .inr ⟨(k : Int), rfl, logI hb, _, rfl, lz (la (la l0 (Nat.le_refl _)) (lenI hb)) (by decide), _, rfl, lz (la (la (la l0 (Nat.le_refl _)) (lenI hb)) (Nat.le_refl _)) (by decide), ?_⟩⟩
          exact q
      · rw [decide_eq_false (show ¬ V.int (s.length : Nat) = V.int (n : Nat) from fun z => hl (by injection z; omega))]
        refine iteT ?_
        refine ⟨_, rfl, by decide, _, rfl, .inr ⟨(k : Int), rfl, logI hb, _, rfl, lz (la (la l0 (Nat.le_refl _)) (lenI hb)) (by decide), _, rfl, lz (la (la (la l0 (Nat.le_refl _)) (lenI hb)) (Nat.le_refl _)) (by decide), ?_⟩⟩
        exact q
    · have hsz : (row n e).length ≤ sizeLine := by rw [row_len]; exact Nat.le_trans hn (by decide)
      refine ⟨_, rfl, .str (row n e), .ty "str", .type "str", .type "str", true, rfl, .ty "str", .base (.str _), kit_ty (by decide +kernel), true, rfl, iteF ?_⟩
      refine ⟨_, rfl, _, rfl, hsz, _, rfl, rfl, _, rfl, ?_⟩
      refine iteNS (c := V.int ((row n e).length : Nat) = V.int (n : Nat)) (by rw [row_len]) ?_
      refine ⟨_, rfl, ⟨_, rfl⟩, _, _, rfl, rfl, _, rfl, ⟨_, rfl⟩, _, _, rfl, rfl, _, _, rfl, rfl, _, rfl, _, rfl, hsz, rfl, _, rfl, ?_⟩
      refine iteNS (c := V.int (Txt.count (row n e) (Str.ofString "x") + Txt.count (row n e) (Str.ofString "-")) = V.int ((row n e).length : Nat)) (by rw [row_both, row_len]) ?_
      refine ⟨_, rfl, _, rfl, _, _, sg (e k), rfl, rfl, hsz, atI_nat (row_atL hk), rfl, _, rfl, ?_⟩
      have hne : ¬ V.str ⟨#[sg (e k)]⟩ = V.str (Str.ofString "x") := by rw [he]; decide
      rw [decide_eq_false hne]
      exact iteF q
end
end AX
set_option Elab.async false
set_option linter.all false
set_option maxRecDepth 100000
set_option maxHeartbeats 4000000
namespace AX
open PySem PySem.Spec PyProof.Rows L2 AK
theorem col_any {n i : Nat} {e : Nat → Nat → Bool} (hi : i < n) : Txt.join (Str.ofString "") ((web n e).map fun a => (⟨#[a.cps.getD i 0]⟩ : Str)) = row n (fun j => e j i) := by
  have h : ((web n e).map fun a => (⟨#[a.cps.getD i 0]⟩ : Str)) = ((List.range n).map fun j => sg (e j i)).map fun c => (⟨#[c]⟩ : Str) := by
    unfold web
    rw [List.map_map, List.map_map]
    refine List.map_congr_left fun j hj => ?_
    have q := row_at (e := e j) hi
    show (⟨#[(row n (e j)).cps.getD i 0]⟩ : Str) = ⟨#[sg (e j i)]⟩
    rw [Array.getD_eq_getD_getElem?, q] <;> rfl
  rw [h, join_signs] <;> rfl
theorem web_inj {n : Nat} {e e' : Nat → Nat → Bool} (h : web n e = web n e') {i j : Nat} (hi : i < n) (hj : j < n) : e i j = e' i j := by
  have h1 := web_at (e := e) hi
  rw [h, web_at hi] at h1
  have h2 := Option.some.inj h1
  have h3 := row_at (e := e i) hj
  rw [← h2, row_at hj] at h3
  have h4 := Option.some.inj h3
  cases e1 : e i j <;> cases e2 : e' i j <;> rw [e1, e2] at h4 <;> first | rfl | (exact absurd h4 (by decide))
def Sym (n : Nat) (e : Nat → Nat → Bool) : Prop := ∀ i j, i < n → j < n → e i j = e j i
theorem sym_iff {n : Nat} {e : Nat → Nat → Bool} : web n (fun i j => e j i) = web n e ↔ Sym n e := by
  constructor
  · intro h i j hi hj
    exact (web_inj h hi hj).symm
  · intro h
    unfold web
    refine List.map_congr_left fun i hi => ?_
    unfold row
    congr 2
    refine List.map_congr_left fun j hj => ?_
    rw [h i j (List.mem_range.mp hi) (List.mem_range.mp hj)]
section
variable {P : Program} {w : World} {K : PySem.W.Frag} {mg : Str → Option Value} {base : Heap}
/-- no web at first sight, or at the row k -/
def Bad (K : PySem.W.Frag) (H : Hp) (x : V) : Prop := Not K H x "list" ∨ ∃ a xs, x = .ref a ∧ SqL K H a xs ∧ xs.length ≤ 1000 ∧ (200 < xs.length ∨ (xs.length ≤ 200 ∧ ∃ k v, xs[k]? = some v ∧ (∀ i u, i < k → xs[i]? = some u → ∃ e, u = .str (row xs.length e) ∧ e i = false) ∧ RowBad K H xs.length k v))
/-- rows of signs, nobody told to know itself -/
def Like (K : PySem.W.Frag) (H : Hp) (a : Addr) (n : Nat) (e : Nat → Nat → Bool) : Prop := SqL K H a ((web n e).map V.str) ∧ n ≤ 200 ∧ ∀ i, i < n → e i i = false
theorem Like.same {H H' : Hp} {a : Addr} {n : Nat} {e : Nat → Nat → Bool} (h : Like K H a n e) (s : Same H H') : Like K H' a n e := ⟨s.seq h.1, h.2⟩
theorem scWeb : FnScope ["web", "place", "row", "columns", "column"] ["web"] (defScope sWeb) := ⟨rfl, rfl, rfl, by decide +kernel, rfl, by decide +kernel, by decide +kernel⟩
/-- all ways of check_web: what is handed in is bad, or like a web; E, where it is none -/
def WebIn (K : PySem.W.Frag) (H : Hp) (x : V) (E : Prop) (Q : (Addr → Nat → (Nat → Nat → Bool) → Prop)) : Prop := (Bad K H x ∧ E) ∨ ∃ a n e, x = .ref a ∧ Like K H a n e ∧ ((¬ Sym n e ∧ E) ∨ (Sym n e ∧ Q a n e))
def spWeb (K : PySem.W.Frag) (C : Addr) : Sp := fun vs H Q E => ∃ x, vs = [x] ∧ WebIn K H x (∀ H', Same H H' → E (.ref C) none H') fun _ _ _ => ∀ H', Same H H' → Q .non H'
theorem ok_web {f fR C : Addr} {fd fdR : FuncData} (F : Fun K "check_web" "check_web" sWeb f fd) (FR : Fun K "_check_row" "_check_row" sRow fR fdR) (bR : Binds K fdR ["row", "place", "size"] []) (gR : mg "_check_row" = some (.ref fR)) (B : Bl mg) (Cc : Cn mg) (EB : EC K mg "BadWeb" C) : FnOk P w K mg base (L2.CX P w) 2 f fd ["web"] (spWeb K C) := by
  have GR : FnOk P w K mg base (L2.CX P w) 1 fR fdR ["row", "place", "size"] (spRow K C) := ok_row FR B Cc EB
  obtain ⟨tm, gm⟩ := Cc.most
  refine F.okX scWeb (fun vs H Q E h => ?_) (fun cdv A outer s H vs Q E hr h => ?_)
  · obtain ⟨x, rfl, _⟩ := h
    rfl
  · obtain ⟨x, rfl, h⟩ := h
    refine ⟨_, pss_cons (ps_if (pt_not (pt_val (pe_callB call_isi (by rfl) B.isi (by decide +kernel) (pa_cons (pv 0) (pa_cons (pe_bltn (v := .ty "list") (u := .type "list") (by rfl) B.list (by decide +kernel) rfl) pa_nil))))) (pss_one (ps_rais rfl (takes_of rfl rfl rfl rfl) EB (by rfl) pe_str)) pss_nil)
      (pss_cons (ps_if (pt_cmpR op_gt (pe_callB call_len_seq (by rfl) B.len PySem.boot_len (pa_cons (pv 0) pa_nil)) (pe_glob (v := .int 200) rfl gm ⟨_, rfl⟩) (nomark _)) (pss_one (ps_rais rfl (takes_of rfl rfl rfl rfl) EB (by rfl) (pe_joined (.cons pe_str (.cons (pe_fmt (pe_glob (v := .int 200) rfl gm ⟨_, rfl⟩)) (.cons pe_str .nil)))))) pss_nil)
      (pss_cons (ps_for (passes_of rfl) rfl (pi_enum (by rfl) B.enumerate (pa_cons (pv 0) pa_nil)) (pg_tup rfl (pgs_cons (pg_name (i := 1) scWeb.nd rfl (.inl rfl)) (pgs_cons (pg_name (i := 2) scWeb.nd rfl (.inl rfl)) pgs_nil)))
        (pss_one (ps_expr (pe_callS GR hr (by rfl) gR FR.kp bR (fun σ => passAt (takes_of rfl rfl rfl rfl) σ) (pa_cons (pv 2) (pa_cons (pv 1) (pa_cons (pe_callB call_len_seq (by rfl) B.len PySem.boot_len (pa_cons (pv 0) pa_nil)) pa_nil)))))))
      (pss_cons (ps_setLc (i := 3) (own := [("column", 4)]) (g := gName 4) (tt := tYes) rfl scWeb.nd rfl rfl (sw_true rfl rfl rfl (by decide +kernel)) (pi_zipN (by rfl) B.zip (pv 0)) (blkOk_by (N := ["web", "place", "row", "columns", "column"]) (sc := defScope sWeb) (by decide +kernel))
        (fun _ _ _ _ _ => pg_name (i := 4) scWeb.nd rfl (Or.inl rfl)) (fun _ _ _ _ _ => pts_nil) (fun _ _ _ _ _ => pe_joinK K rfl pe_str (pv 4)))
      (pss_one (ps_if (pt_cmpR (op_neD hr.units) (pv 3) (pv 0) (nomark _)) (pss_one (ps_rais rfl (takes_of rfl rfl rfl rfl) EB (by rfl) pe_str)) pss_nil))))), ?_⟩
    rcases h with ⟨⟨s, hs, hkk⟩ | ⟨a, xs, rfl, hS, hx1, hbad⟩, q⟩ | ⟨a, n, e, rfl, ⟨hS, hn, hirr⟩, h⟩
    · refine ⟨_, rfl, x, .ty "list", .type s, .type "list", false, rfl, .ty "list", hs, kit_ty hkk, false, rfl, iteT ?_⟩
      exact q H (Same.refl _)
    · refine ⟨_, rfl, .ref a, .ty "list", .type "list", .type "list", true, rfl, .ty "list", tyList hS, kit_ty (by decide +kernel), true, rfl, iteF ?_⟩
      refine ⟨.ref a, rfl, a, xs, rfl, .inl hS, _, _, rfl, rfl, _, rfl, ?_⟩
      rcases hbad with hb | ⟨hle, k, v, hk, hpre, hrow⟩
      · rw [decide_eq_true (by omega)]
        refine iteT ?_
        refine ⟨_, rfl, by decide, .inr ⟨200, rfl, by decide, _, rfl, by decide, _, rfl, by decide, ?_⟩⟩
        exact q H (Same.refl _)
      · rw [decide_eq_false (by omega)]
        refine iteF ?_
        have hkl : k < xs.length := (List.getElem?_eq_some_iff.mp hk).1
        refine ⟨.ref a, rfl, a, _, rfl, hS, for_en (xs := xs) (fun i σ H1 => i ≤ k ∧ ∃ y1 y2, σ = [some (.ref a), y1, y2, none, none] ∧ Same H H1) ⟨Nat.zero_le _, none, none, rfl, Same.refl _⟩ (fun i σ H1 _ ⟨_, _, _, _, s1⟩ => s1.seq hS) ?_ ?_⟩
        · rintro i u σ H1 T hu ⟨hik, y1, y2, rfl, s1⟩ nT
          have s2 := s1.trans (same_upd (o := .tup [.int (i : Nat), u]) nT)
          refine ⟨T, _, rfl, SqT.of upd_same, rfl, _, _, rfl, _, _, rfl, rfl, ?_⟩
          refine ⟨_, rfl, _, rfl, .ref a, rfl, a, _, rfl, .inl (s2.seq hS), u, xs.length, i, rfl, by omega, hle, ?_⟩
          by_cases he : i = k
          · subst he
            rw [hk] at hu
            cases hu
            exact .inl ⟨hrow.same s2, q _ s2⟩
          · obtain ⟨e, rfl, h0⟩ := hpre i u (by omega) hu
            exact .inr ⟨⟨e, rfl, h0⟩, by omega, _, _, rfl, s2⟩
        · rintro σ H1 ⟨hik, _⟩
          omega
    · have hlen : ((web n e).map V.str).length = n := by rw [List.length_map, web_len]
      refine ⟨_, rfl, .ref a, .ty "list", .type "list", .type "list", true, rfl, .ty "list", tyList hS, kit_ty (by decide +kernel), true, rfl, iteF ?_⟩
      refine ⟨.ref a, rfl, a, _, rfl, .inl hS, _, _, rfl, rfl, _, rfl, ?_⟩
      rw [hlen, decide_eq_false (by omega)]
      refine iteF ?_
      refine ⟨.ref a, rfl, a, _, rfl, hS, for_en (xs := (web n e).map V.str) (fun i σ H1 => ∃ y1 y2, σ = [some (.ref a), y1, y2, none, none] ∧ Same H H1) ⟨none, none, rfl, Same.refl _⟩ (fun i σ H1 _ ⟨_, _, _, s1⟩ => s1.seq hS) ?_ ?_⟩
      · rintro i x σ H1 T hx ⟨y1, y2, rfl, s1⟩ nT
        obtain ⟨hi, rfl⟩ := webV_at hx
        have s2 := s1.trans (same_upd (o := .tup [.int (i : Nat), .str (row n (e i))]) nT)
        refine ⟨T, _, rfl, SqT.of upd_same, rfl, _, _, rfl, _, _, rfl, rfl, ?_⟩
        refine ⟨_, rfl, _, rfl, .ref a, rfl, a, _, rfl, .inl (s2.seq hS), ?_⟩
        rw [hlen]
        exact ⟨_, n, i, rfl, hi, hn, .inr ⟨⟨e i, rfl, hirr i hi⟩, _, _, rfl, s2⟩⟩
      · rintro σ H1 ⟨y1, y2, rfl, s1⟩
        refine ⟨.ref a, rfl, a, web n e, rfl, s1.seq hS, by rw [web_len]; exact Nat.le_trans hn (by decide), fun b hb => ?_, fun D nD => ?_⟩
        · obtain ⟨i, _, rfl⟩ := web_mem hb
          exact row_ascii _ _
        refine lc_zipN (n := n) (fun z => by have := congrArg List.length z; rw [web_len] at this; exact this) (fun b hb => ?_) (fun i H2 => Same H1 H2 ∧ H2 D = some (.lst (((web n (fun i j => e j i)).take i).map V.str))) ⟨same_upd nD, upd_same⟩ ?_ ?_
        · obtain ⟨i, _, rfl⟩ := web_mem hb
          exact row_size _ _
        · rintro i H2 T hi ⟨s2, e2⟩ nT
          have nTD : D ≠ T := ne_of_none e2 nT
          refine ⟨rfl, ⟨_, rfl⟩, .ref T, rfl, _, T, colAt (web n e) i, rfl, rfl, .inr (SqT.of upd_same), ?_, ((web n (fun i j => e j i)).take i).map V.str, ?_, ?_, ?_, ?_⟩
          · unfold colAt
            rw [List.map_map, List.length_map, web_len]
            have e1 : ∀ l : List Str, (l.map ((fun x => x.length) ∘ fun a => (⟨#[a.cps.getD i 0]⟩ : Str))).sum = l.length := fun l => by
              induction l with
              | nil => rfl
              | cons b l ih =>
                rw [List.map_cons, List.sum_cons, ih, List.length_cons]
                show 1 + l.length = _
                omega
            rw [e1, web_len]
            show n + n * 0 ≤ _
            omega
          · rw [upd_ne nTD]; exact e2
          · rw [List.length_map, List.length_take, web_len]
            exact small1000 (by omega)
          · intro b o eb
            have nb : b ≠ D := ne_of_none eb nD
            rw [upd_ne nb, upd_ne (ne_of_none (s2 _ _ eb) nT)]
            exact s2 _ _ eb
          · have ej : Txt.join (Str.ofString "") (colAt (web n e) i) = row n (fun j => e j i) := col_any hi
            have et : ((web n (fun i j => e j i)).take (i + 1)).map V.str = ((web n (fun i j => e j i)).take i).map V.str ++ [V.str (row n (fun j => e j i))] := by
              rw [List.take_add_one, web_at hi, List.map_append] <;> rfl
            rw [upd_same, et, ej]
        · rintro H2 ⟨s2, e2⟩
          have et : (web n (fun i j => e j i)).take n = web n (fun i j => e j i) := List.take_of_length_le (by rw [web_len]; exact Nat.le_refl _)
          rw [et] at e2
          have ok : ∀ e : Nat → Nat → Bool, ∀ b ∈ web n e, PyData.strOk b = true := fun e b hb => by
            obtain ⟨i, _, rfl⟩ := web_mem hb
            exact row_ok _ _
          refine ⟨.ref D, rfl, .ref a, rfl, .list ((web n (fun i j => e j i)).map PyData.str), .list ((web n e).map PyData.str), .lst (SqL.of e2) (dpS _), .lst ((s1.trans s2).seq hS) (dpS _), shapedS (ok _), shapedS (ok _), _, rfl, ?_⟩
          have ee : PyData.eqv (.list ((web n (fun i j => e j i)).map PyData.str)) (.list ((web n e).map PyData.str)) = decide (web n (fun i j => e j i) = web n e) := by
            simp only [PyData.eqv, eqvS]
          rw [ee]
          rcases h with ⟨hs, q⟩ | ⟨hs, q⟩
          · rw [decide_eq_false (fun z => hs (sym_iff.mp z))]
            refine iteT ?_
            exact q _ (s1.trans s2)
          · rw [decide_eq_true (sym_iff.mpr hs)]
            exact iteF (q _ (s1.trans s2))
end
end AX
set_option Elab.async false
set_option linter.all false
set_option maxRecDepth 100000
set_option maxHeartbeats 4000000
namespace AX
open PySem PySem.Spec PyProof.Rows L2 AK
theorem pss_no {X : Cx} {sts : List Stmt} : PSs X sts (fun _ _ _ => False) := ⟨fun _ _ _ _ _ _ h => h.elim⟩
/-- f(e), e ending in an error -/
theorem pe_argX {X : Cx} {e : Expr} {te : TE} {x : Str} {u : Addr} {p pos : Pos} (hg : Gl X x) (hm : X.mg x = some (.ref u)) (hk : PySem.W.keepIn X.K (.ref u) = true) (he : PE X e te) (hdb : (x == ("__debug__" : Str)) = false := by decide)
    (hs : starEach [e] X.env = (false, eval e X.env) :: starEach [] X.env := by rfl) (hpl : (backTo pos (starEach [] X.env)).any (·.1) = false := by rfl) : PE X (.Call (.Name x p) [e] [] pos) (fun σ H _ => te σ H fun _ _ => False) := by
  refine ⟨fun pins s σ H Q I h => ?_⟩
  refine wpAny_Call_Name_kw (ld_glob I hg hm ?_ hdb)
  refine PySem.W.callWith_K (h₀ := X.base) I.ok.mod.kin hk ?_ hs hpl
  rw [hs]
  show wpAny _ _ (spliced ((false, eval e X.env) :: backTo pos (starEach [] X.env))) _ _ s
  refine Calls.spliced_cons (thn (he.run pins s σ H _ I h) fun v s1 ⟨_, _, _, _, q⟩ => q.elim)
section
variable {P : Program} {w : World} {K : PySem.W.Frag} {mg : Str → Option Value} {base : Heap}
def BadAny (K : PySem.W.Frag) (H : Hp) (x : V) : Prop := Bad K H x ∨ ∃ a n e, x = .ref a ∧ Like K H a n e ∧ ¬ Sym n e
theorem BadAny.web {K : PySem.W.Frag} {H : Hp} {x : V} {E : Prop} {Q : Addr → Nat → (Nat → Nat → Bool) → Prop} (h : BadAny K H x) (e : E) : WebIn K H x E Q := by
  rcases h with h | ⟨a, n, ee, rfl, hl, hs⟩
  · exact .inl ⟨h, e⟩
  · exact .inr ⟨a, n, ee, rfl, hl, .inl ⟨hs, e⟩⟩
def degs (n : Nat) (e : Nat → Nat → Bool) : List Int := (List.range n).map fun i => (deg n (e i) : Int)
theorem degs_len (n : Nat) (e : Nat → Nat → Bool) : (degs n e).length = n := by simp [degs]
/-! ### ties -/
theorem scTies : FnScope ["web", "row"] ["web"] (defScope sTies) := ⟨rfl, rfl, rfl, by decide +kernel, rfl, by decide +kernel, by decide +kernel⟩
def spTies (K : PySem.W.Frag) (C : Addr) : Sp := fun vs H Q E => ∃ x, vs = [x] ∧ WebIn K H x (∀ H', Same H H' → E (.ref C) none H') fun a n e => ∀ H' p, Same H H' → H p = none → H' p = some (.lst ((degs n e).map V.int)) → Q (.ref p) H'
theorem ok_ties {f fW C : Addr} {fd fdW : FuncData} (F : Fun K "ties" "ties" sTies f fd) (GW : FnOk P w K mg base (L2.CX P w) 2 fW fdW ["web"] (spWeb K C)) (FW : Fun K "check_web" "check_web" sWeb fW fdW) (bW : Binds K fdW ["web"] []) (gW : mg "check_web" = some (.ref fW)) (Cc : Cn mg) : FnOk P w K mg base (L2.CX P w) 3 f fd ["web"] (spTies K C) := by
  obtain ⟨tk, gk⟩ := Cc.knows
  refine F.okX scTies (fun vs H Q E h => ?_) (fun cdv A outer s H vs Q E hr h => ?_)
  · obtain ⟨x, rfl, _⟩ := h
    rfl
  · obtain ⟨x, rfl, h⟩ := h
    refine ⟨_, pss_cons (ps_expr (pe_callS GW hr (by rfl) gW FW.kp bW (fun σ => passAt (takes_of rfl rfl rfl rfl) σ) (pa_cons (pv 0) pa_nil)))
      (pss_one (ps_ret (pe_lc (own := [("row", 1)]) (g := gName 1) (tt := tYes) rfl scTies.nd (pi_list (pv 0)) (blkOk_by (N := ["web", "row"]) (sc := defScope sTies) (by decide +kernel)) (fun _ _ _ _ _ => pg_name (i := 1) scTies.nd rfl (Or.inl rfl)) (fun _ _ _ _ _ => pts_nil)
        (fun _ _ _ _ _ => pe_m1 PySem.F.slot_str_count PySem.F.type_str_count mt_count (pv 1) (pe_glob (v := .str "x") rfl gk ⟨_, rfl⟩))))), ?_⟩
    rcases h with ⟨hb, q⟩ | ⟨a, n, e, rfl, hl, ⟨hs, q⟩ | ⟨hs, q⟩⟩
    · exact ⟨x, rfl, x, rfl, .inl ⟨hb, q⟩⟩
    · exact ⟨_, rfl, _, rfl, .inr ⟨a, n, e, rfl, hl, .inl ⟨hs, q⟩⟩⟩
    · refine ⟨_, rfl, _, rfl, .inr ⟨a, n, e, rfl, hl, .inr ⟨hs, fun H1 s1 => ?_⟩⟩⟩
      obtain ⟨hS, hn, _⟩ := hl
      refine ⟨.ref a, rfl, a, rfl, ⟨_, s1.seq hS⟩, fun D nD => lc_list (K := K) (xs := (web n e).map V.str) (fun i H2 => Same H1 H2 ∧ H2 D = some (.lst (((degs n e).take i).map V.int))) ⟨same_upd nD, upd_same⟩ (fun i H2 _ ⟨s2, _⟩ => (s1.trans s2).seq hS) ?_ ?_⟩
      · rintro i x H2 hx ⟨s2, e2⟩
        obtain ⟨hi, rfl⟩ := webV_at hx
        refine ⟨rfl, _, rfl, ⟨_, rfl⟩, _, _, rfl, rfl, ((degs n e).take i).map V.int, e2, ?_, fun b o eb => ?_, ?_⟩
        · rw [List.length_map, List.length_take, degs_len]
          exact small1000 (by omega)
        · rw [upd_ne (ne_of_none eb nD)]
          exact s2 _ _ eb
        · have et : ((degs n e).take (i + 1)).map V.int = ((degs n e).take i).map V.int ++ [V.int (Txt.count (row n (e i)) "x")] := by
            rw [List.take_add_one, row_knows]
            have eg : (degs n e)[i]? = some (deg n (e i) : Int) := by simp [degs, hi]
            rw [eg, List.map_append] <;> rfl
          rw [upd_same, et]
      · rintro H2 ⟨s2, e2⟩
        rw [List.length_map, web_len] at e2
        have et : (degs n e).take n = degs n e := List.take_of_length_le (by rw [degs_len]; exact Nat.le_refl _)
        rw [et] at e2
        exact q H2 D (s1.trans s2) (s1.free nD) e2
/-! ### doors at which a bad web is refused -/
def spRef (K : PySem.W.Frag) (C : Addr) : Sp := fun vs H _ E => ∃ x, vs = [x] ∧ BadAny K H x ∧ ∀ H', Same H H' → E (.ref C) none H'
theorem scTurned : FnScope ["web", "place", "row"] ["web"] (defScope sTurned) := ⟨rfl, rfl, rfl, by decide +kernel, rfl, by decide +kernel, by decide +kernel⟩
theorem ok_turned {f fW C : Addr} {fd fdW : FuncData} (F : Fun K "turned" "turned" sTurned f fd) (GW : FnOk P w K mg base (L2.CX P w) 2 fW fdW ["web"] (spWeb K C)) (FW : Fun K "check_web" "check_web" sWeb fW fdW) (bW : Binds K fdW ["web"] []) (gW : mg "check_web" = some (.ref fW)) : FnOk P w K mg base (L2.CX P w) 3 f fd ["web"] (spRef K C) := by
  refine F.okX scTurned (fun vs H Q E h => ?_) (fun cdv A outer s H vs Q E hr h => ?_)
  · obtain ⟨x, rfl, _⟩ := h
    rfl
  · obtain ⟨x, rfl, hb, q⟩ := h
    refine ⟨_, pss_cons (ps_expr (pe_callS GW hr (by rfl) gW FW.kp bW (fun σ => passAt (takes_of rfl rfl rfl rfl) σ) (pa_cons (pv 0) pa_nil))) pss_no, ?_⟩
    exact ⟨x, rfl, x, rfl, hb.web q⟩
theorem scThree : FnScope ["web", "asked", "one", "two", "other", "sign"] ["web"] (defScope sThree) := ⟨rfl, rfl, rfl, by decide +kernel, rfl, by decide +kernel, by decide +kernel⟩
theorem ok_three {f fW C : Addr} {fd fdW : FuncData} (F : Fun K "three" "three" sThree f fd) (GW : FnOk P w K mg base (L2.CX P w) 2 fW fdW ["web"] (spWeb K C)) (FW : Fun K "check_web" "check_web" sWeb fW fdW) (bW : Binds K fdW ["web"] []) (gW : mg "check_web" = some (.ref fW)) : FnOk P w K mg base (L2.CX P w) 3 f fd ["web"] (spRef K C) := by
  refine F.okX scThree (fun vs H Q E h => ?_) (fun cdv A outer s H vs Q E hr h => ?_)
  · obtain ⟨x, rfl, _⟩ := h
    rfl
  · obtain ⟨x, rfl, hb, q⟩ := h
    refine ⟨_, pss_cons (ps_expr (pe_callS GW hr (by rfl) gW FW.kp bW (fun σ => passAt (takes_of rfl rfl rfl rfl) σ) (pa_cons (pv 0) pa_nil))) pss_no, ?_⟩
    exact ⟨x, rfl, x, rfl, hb.web q⟩
theorem scAlike : FnScope ["web", "counts", "mixed", "size"] ["web"] (defScope sAlike) := ⟨rfl, rfl, rfl, by decide +kernel, rfl, by decide +kernel, by decide +kernel⟩
theorem ok_alike {f fT C : Addr} {fd fdT : FuncData} (F : Fun K "alike" "alike" sAlike f fd) (GT : FnOk P w K mg base (L2.CX P w) 3 fT fdT ["web"] (spTies K C)) (FT : Fun K "ties" "ties" sTies fT fdT) (bT : Binds K fdT ["web"] []) (gT : mg "ties" = some (.ref fT)) : FnOk P w K mg base (L2.CX P w) 4 f fd ["web"] (spRef K C) := by
  refine F.okX scAlike (fun vs H Q E h => ?_) (fun cdv A outer s H vs Q E hr h => ?_)
  · obtain ⟨x, rfl, _⟩ := h
    rfl
  · obtain ⟨x, rfl, hb, q⟩ := h
    refine ⟨_, pss_cons (ps_set (i := 1) scAlike.nd rfl (.inl rfl) (pe_callS GT hr (by rfl) gT FT.kp bT (fun σ => passAt (takes_of rfl rfl rfl rfl) σ) (pa_cons (pv 0) pa_nil))) pss_no, ?_⟩
    exact ⟨x, rfl, x, rfl, hb.web q⟩
theorem scProm : FnScope ["web", "above", "below", "many", "shared"] ["web"] (defScope sPromised) := ⟨rfl, rfl, rfl, by decide +kernel, rfl, by decide +kernel, by decide +kernel⟩
theorem ok_prom {f fT C : Addr} {fd fdT : FuncData} (F : Fun K "promised" "promised" sPromised f fd) (GT : FnOk P w K mg base (L2.CX P w) 3 fT fdT ["web"] (spTies K C)) (FT : Fun K "ties" "ties" sTies fT fdT) (bT : Binds K fdT ["web"] []) (gT : mg "ties" = some (.ref fT)) : FnOk P w K mg base (L2.CX P w) 4 f fd ["web"] (spRef K C) := by
  refine F.okX scProm (fun vs H Q E h => ?_) (fun cdv A outer s H vs Q E hr h => ?_)
  · obtain ⟨x, rfl, _⟩ := h
    rfl
  · obtain ⟨x, rfl, hb, q⟩ := h
    refine ⟨_, pss_cons (ps_set (i := 1) scProm.nd rfl (.inl rfl) pe_int) (pss_cons (ps_set (i := 2) scProm.nd rfl (.inl rfl) pe_int)
      (pss_cons (ps_for (passes_of rfl) rfl (pi_list (pe_callS GT hr (by rfl) gT FT.kp bT (fun σ => passAt (takes_of rfl rfl rfl rfl) σ) (pa_cons (pv 0) pa_nil))) (pg_name (i := 3) scProm.nd rfl (.inl rfl)) pss_no) pss_no)), ?_⟩
    exact ⟨x, rfl, x, rfl, hb.web q⟩
theorem scApart : FnScope ["web", "chosen", "counts", "person"] ["web"] (defScope sApart) := ⟨rfl, rfl, rfl, by decide +kernel, rfl, by decide +kernel, by decide +kernel⟩
theorem ok_apart {f fT C : Addr} {fd fdT : FuncData} (F : Fun K "_apart" "_apart" sApart f fd) (GT : FnOk P w K mg base (L2.CX P w) 3 fT fdT ["web"] (spTies K C)) (FT : Fun K "ties" "ties" sTies fT fdT) (bT : Binds K fdT ["web"] []) (gT : mg "ties" = some (.ref fT)) : FnOk P w K mg base (L2.CX P w) 4 f fd ["web"] (spRef K C) := by
  refine F.okX scApart (fun vs H Q E h => ?_) (fun cdv A outer s H vs Q E hr h => ?_)
  · obtain ⟨x, rfl, _⟩ := h
    rfl
  · obtain ⟨x, rfl, hb, q⟩ := h
    refine ⟨_, pss_cons (ps_set (i := 2) scApart.nd rfl (.inr rfl) (pe_callS GT hr (by rfl) gT FT.kp bT (fun σ => passAt (takes_of rfl rfl rfl rfl) σ) (pa_cons (pv 0) pa_nil))) pss_no, ?_⟩
    exact ⟨x, rfl, x, rfl, hb.web q⟩
theorem scStr : FnScope ["web"] ["web"] (defScope sStrangers) := ⟨rfl, rfl, rfl, by decide +kernel, rfl, by decide +kernel, by decide +kernel⟩
theorem ok_strangers {f fA C cU : Addr} {fd fdA : FuncData} (F : Fun K "strangers" "strangers" sStrangers f fd) (GA : FnOk P w K mg base (L2.CX P w) 4 fA fdA ["web"] (spRef K C)) (FA : Fun K "_apart" "_apart" sApart fA fdA) (bA : Binds K fdA ["web"] []) (gA : mg "_apart" = some (.ref fA)) (gU : mg "Unknown" = some (.ref cU)) (kU : PySem.W.keepIn K (.ref cU) = true) : FnOk P w K mg base (L2.CX P w) 5 f fd ["web"] (spRef K C) := by
  refine F.okX scStr (fun vs H Q E h => ?_) (fun cdv A outer s H vs Q E hr h => ?_)
  · obtain ⟨x, rfl, _⟩ := h
    rfl
  · obtain ⟨x, rfl, hb, q⟩ := h
    refine ⟨_, pss_one (ps_ret (pe_argX (by rfl) gU kU (pe_callS GA hr (by rfl) gA FA.kp bA (fun σ => passAt (takes_of rfl rfl rfl rfl) σ) (pa_cons (pv 0) pa_nil)))), ?_⟩
    exact ⟨x, rfl, x, rfl, hb, q⟩
theorem scFri : FnScope ["web"] ["web"] (defScope sFriends) := ⟨rfl, rfl, rfl, by decide +kernel, rfl, by decide +kernel, by decide +kernel⟩
theorem ok_friends {f fT fA C cU : Addr} {fd fdT fdA : FuncData} (F : Fun K "friends" "friends" sFriends f fd) (GT : FnOk P w K mg base (L2.CX P w) 3 fT fdT ["web"] (spRef K C)) (FT : Fun K "turned" "turned" sTurned fT fdT) (bT : Binds K fdT ["web"] []) (gT : mg "turned" = some (.ref fT)) (FA : Fun K "_apart" "_apart" sApart fA fdA) (gA : mg "_apart" = some (.ref fA)) (gU : mg "Known" = some (.ref cU)) (kU : PySem.W.keepIn K (.ref cU) = true) : FnOk P w K mg base (L2.CX P w) 4 f fd ["web"] (spRef K C) := by
  refine F.okX scFri (fun vs H Q E h => ?_) (fun cdv A outer s H vs Q E hr h => ?_)
  · obtain ⟨x, rfl, _⟩ := h
    rfl
  · obtain ⟨x, rfl, hb, q⟩ := h
    refine ⟨_, pss_one (ps_ret (pe_argX (by rfl) gU kU (pe_argX (by rfl) gA FA.kp (pe_callS GT hr (by rfl) gT FT.kp bT (fun σ => passAt (takes_of rfl rfl rfl rfl) σ) (pa_cons (pv 0) pa_nil))))), ?_⟩
    exact ⟨x, rfl, x, rfl, hb, q⟩
end
end AX
set_option Elab.async false
set_option linter.all false
set_option maxRecDepth 100000
set_option maxHeartbeats 4000000
namespace AX
open PySem PySem.Spec PyProof.Rows L2 AK
/-- f(e, ..), f a built-in function that the module imports -/
theorem pe_callI {X : Cx} {id : String} {r : List V → Hp → VK → Prop} {x : Str} {e : Expr} {es : List Expr} {t : TA} {p pos : Pos} (hc : CallR X (.builtin id) r) (hg : Gl X x) (hm : X.mg x = some (.builtin id)) (ha : PA X (e :: es) t) (hdb : (x == ("__debug__" : Str)) = false := by decide)
    (he : starEach (e :: es) X.env = (false, eval e X.env) :: starEach es X.env := by rfl) (hpl : (backTo pos (starEach es X.env)).any (·.1) = false := by rfl) : PE X (.Call (.Name x p) (e :: es) [] pos) (tCB r t) := by
  refine ⟨fun pins s σ H Q I h => ?_⟩
  refine wpAny_Call_Name_kw (ld_glob I hg hm ?_ hdb)
  exact PyProof.Rows.callWith_builtin1 (thn (ha.run pos pins s σ H _ I h) fun us s1 ⟨vs, H1, I1, r1, q1⟩ => hc pins s1 σ H1 vs us Q I1 r1 q1) he hpl
def rComb : List V → Hp → VK → Prop := fun vs H Q => ∃ a b : Int, vs = [.int a, .int b] ∧ 0 ≤ a ∧ 0 ≤ b ∧ a ≤ 1000 ∧ Q (.int (PySem.W.mcComb a b)) H
theorem call_comb {X : Cx} : CallR X (.builtin "math.comb") rComb := by
  intro pins s σ H xs us Q I r h
  obtain ⟨a, b, rfl, h0, h1, h2, q⟩ := h
  obtain ⟨u1, u2, rfl, ⟨t1, rfl⟩, ⟨t2, rfl⟩⟩ := vals2 r
  exact PySem.W.mc_comb h0 h1 (by omega) (.inr (by omega)) fun _ => ⟨.int _, H, I.tok _, ⟨_, rfl⟩, q⟩
section
variable {P : Program} {w : World} {K : PySem.W.Frag} {mg : Str → Option Value} {base : Heap}
/-- no count from a to 200 -/
def CntBad (K : PySem.W.Frag) (H : Hp) (x : V) (a : Int) : Prop := NotWhole K H x ∨ ∃ i : Int, x = .int i ∧ (i < a ∨ 200 < i)
theorem NotWhole.same {H H' : Hp} {x : V} (h : NotWhole K H x) (s : Same H H') : NotWhole K H' x := h.elim .inl fun a => .inr (a.same s)
theorem CntBad.same {H H' : Hp} {x : V} {a : Int} (h : CntBad K H x a) (s : Same H H') : CntBad K H' x a := h.elim (fun a => .inl (a.same s)) .inr
theorem cnt_bad {H : Hp} {x : V} {a : Int} {E Q : Prop} (h : CntBad K H x a) (q : E) : (NotWhole K H x ∧ E) ∨ ∃ i : Int, x = .int i ∧ ((i < a ∧ E) ∨ (a ≤ i ∧ ((V.int 200 = .int 200 ∧ 200 < i ∧ E) ∨ ((V.int 200 = .int 200 → i ≤ 200) ∧ Q)))) := by
  rcases h with h | ⟨i, rfl, h⟩
  · exact .inl ⟨h, q⟩
  · by_cases hi : i < a
    · exact .inr ⟨i, rfl, .inl ⟨hi, q⟩⟩
    · exact .inr ⟨i, rfl, .inr ⟨by omega, .inl ⟨rfl, by omega, q⟩⟩⟩
def SureBad (K : PySem.W.Frag) (H : Hp) (k u : V) : Prop := CntBad K H k 1 ∨ ((∃ i : Int, k = .int i ∧ 1 ≤ i ∧ i ≤ 200) ∧ CntBad K H u 1)
theorem SureBad.same {H H' : Hp} {k u : V} (h : SureBad K H k u) (s : Same H H') : SureBad K H' k u := h.elim (fun a => .inl (a.same s)) fun a => .inr ⟨a.1, a.2.same s⟩
/-! ### sure -/
theorem scSure : FnScope ["known", "unknown"] ["known", "unknown"] (defScope sSure) := ⟨rfl, rfl, rfl, by decide +kernel, rfl, by decide +kernel, by decide +kernel⟩
def spSure (K : PySem.W.Frag) (C : Addr) : Sp := fun vs H Q E => ∃ k u, vs = [k, u] ∧ ((SureBad K H k u ∧ E (.ref C) none H) ∨ ∃ i j : Int, k = .int i ∧ u = .int j ∧ 1 ≤ i ∧ i ≤ 200 ∧ 1 ≤ j ∧ j ≤ 200 ∧ Q (.int (PySem.W.mcComb (i + j - 2) (i - 1))) H)
theorem ok_sure {f fC C : Addr} {fd fdC : FuncData} (F : Fun K "sure" "sure" sSure f fd) (GC : FnOk P w K mg base (L2.CX P w) 2 fC fdC ["value", "least", "most"] (spCount K C)) (FC : FunC K fC fdC) (bC : L2.Binds K fdC ["value", "least", "most"] []) (gC : mg "check_count" = some (.ref fC)) (Cc : Cn mg) (gm : mg "comb" = some (.builtin "math.comb")) :
    FnOk P w K mg base (L2.CX P w) 3 f fd ["known", "unknown"] (spSure K C) := by
  obtain ⟨tm, gz⟩ := Cc.size
  refine F.okX scSure (fun vs H Q E h => ?_) (fun cdv A outer s H vs Q E hr h => ?_)
  · obtain ⟨k, u, rfl, _⟩ := h
    rfl
  · obtain ⟨k, u, rfl, h⟩ := h
    refine ⟨_, pss_cons (ps_expr (pe_callS GC hr (by rfl) gC FC.kp bC (fun σ => passAt (takes_of rfl rfl rfl rfl) σ) (pa_cons (pv 0) (pa_cons pe_int (pa_cons (pe_glob (v := .int 200) rfl gz ⟨_, rfl⟩) pa_nil)))))
      (pss_cons (ps_expr (pe_callS GC hr (by rfl) gC FC.kp bC (fun σ => passAt (takes_of rfl rfl rfl rfl) σ) (pa_cons (pv 1) (pa_cons pe_int (pa_cons (pe_glob (v := .int 200) rfl gz ⟨_, rfl⟩) pa_nil)))))
      (pss_one (ps_ret (pe_callI call_comb (by rfl) gm (pa_cons (pe_op op_sub (pe_op op_add (pv 0) (pv 1)) pe_int) (pa_cons (pe_op op_sub (pv 0) pe_int) pa_nil)))))), ?_⟩
    rcases h with ⟨hb | ⟨⟨i, rfl, h1, h2⟩, hb⟩, q⟩ | ⟨i, j, rfl, rfl, h1, h2, h3, h4, q⟩
    · exact ⟨k, rfl, k, 1, .int 200, rfl, by decide, .inr rfl, cnt_bad hb q⟩
    · exact ⟨_, rfl, _, 1, .int 200, rfl, by decide, .inr rfl, .inr ⟨i, rfl, .inr ⟨h1, .inr ⟨fun _ => h2, u, rfl, u, 1, .int 200, rfl, by decide, .inr rfl, cnt_bad hb q⟩⟩⟩⟩
    · refine ⟨_, rfl, _, 1, .int 200, rfl, by decide, .inr rfl, .inr ⟨i, rfl, .inr ⟨h1, .inr ⟨fun _ => h2, _, rfl, _, 1, .int 200, rfl, by decide, .inr rfl, .inr ⟨j, rfl, .inr ⟨h3, .inr ⟨fun _ => h4, ?_⟩⟩⟩⟩⟩⟩⟩
      exact ⟨_, rfl, _, rfl, _, _, rfl, rfl, _, _, rfl, rfl, _, rfl, _, _, rfl, rfl, i + j - 2, i - 1, rfl, by omega, by omega, by omega, q⟩
/-! ### fewest, web_of: counts refused -/
theorem scFewest : FnScope ["size", "mixed"] ["size"] (defScope sFewest) := ⟨rfl, rfl, rfl, by decide +kernel, rfl, by decide +kernel, by decide +kernel⟩
def spFewR (K : PySem.W.Frag) (C : Addr) : Sp := fun vs H _ E => ∃ x, vs = [x] ∧ (NotWhole K H x ∨ ∃ i : Int, x = .int i ∧ i < 0) ∧ E (.ref C) none H
theorem ok_fewest {f fC C : Addr} {fd fdC : FuncData} (F : Fun K "fewest" "fewest" sFewest f fd) (GC : FnOk P w K mg base (L2.CX P w) 2 fC fdC ["value", "least", "most"] (spCount K C)) (FC : FunC K fC fdC) {ds : List Value} (bC : L2.Binds K fdC ["value", "least", "most"] ds) (dC : Vals [.non] ds) (gC : mg "check_count" = some (.ref fC)) :
    FnOk P w K mg base (L2.CX P w) 3 f fd ["size"] (spFewR K C) := by
  refine F.okX scFewest (fun vs H Q E h => ?_) (fun cdv A outer s H vs Q E hr h => ?_)
  · obtain ⟨x, rfl, _⟩ := h
    rfl
  · obtain ⟨x, rfl, h, q⟩ := h
    refine ⟨_, pss_cons (ps_expr (pe_callSD GC hr (by rfl) gC FC.kp bC dC (fun σ => passAt (takes_of rfl rfl rfl rfl) σ) (pa_cons (pv 0) (pa_cons pe_int pa_nil)))) pss_no, ?_⟩
    refine ⟨x, rfl, x, 0, .non, rfl, by decide, .inl rfl, ?_⟩
    rcases h with h | ⟨i, rfl, hi⟩
    · exact .inl ⟨h, q⟩
    · exact .inr ⟨i, rfl, .inl ⟨hi, q⟩⟩
theorem scWebOf : FnScope ["size", "place"] ["size"] (defScope sWebOf) := ⟨rfl, rfl, rfl, by decide +kernel, rfl, by decide +kernel, by decide +kernel⟩
def spWebOfR (K : PySem.W.Frag) (C : Addr) : Sp := fun vs H _ E => ∃ x, vs = [x] ∧ CntBad K H x 0 ∧ E (.ref C) none H
theorem ok_webOf {f fC C : Addr} {fd fdC : FuncData} (F : Fun K "web_of" "web_of" sWebOf f fd) (GC : FnOk P w K mg base (L2.CX P w) 2 fC fdC ["value", "least", "most"] (spCount K C)) (FC : FunC K fC fdC) (bC : L2.Binds K fdC ["value", "least", "most"] []) (gC : mg "check_count" = some (.ref fC)) (Cc : Cn mg) :
    FnOk P w K mg base (L2.CX P w) 3 f fd ["size"] (spWebOfR K C) := by
  obtain ⟨tm, gm⟩ := Cc.most
  refine F.okX scWebOf (fun vs H Q E h => ?_) (fun cdv A outer s H vs Q E hr h => ?_)
  · obtain ⟨x, rfl, _⟩ := h
    rfl
  · obtain ⟨x, rfl, h, q⟩ := h
    refine ⟨_, pss_cons (ps_expr (pe_callS GC hr (by rfl) gC FC.kp bC (fun σ => passAt (takes_of rfl rfl rfl rfl) σ) (pa_cons (pv 0) (pa_cons pe_int (pa_cons (pe_glob (v := .int 200) rfl gm ⟨_, rfl⟩) pa_nil))))) pss_no, ?_⟩
    exact ⟨x, rfl, x, 0, .int 200, rfl, by decide, .inr rfl, cnt_bad h q⟩
end
end AX
set_option Elab.async false
set_option linter.all false
set_option maxRecDepth 100000
set_option maxHeartbeats 4000000
namespace AX
open PySem PySem.Spec PyProof.Rows L2 AK
theorem pe_no {X : Cx} {e : Expr} : PE X e (fun _ _ _ => False) := ⟨fun _ _ _ _ _ _ h => h.elim⟩
section
variable {P : Program} {w : World} {K : PySem.W.Frag} {mg : Str → Option Value} {base : Heap}
/-! ### Known -/
structure KC (K : PySem.W.Frag) (mg : Str → Option Value) (C : Addr) : Prop where
  g : mg "Known" = some (.ref C)
  cl : Cls K C
  no : NoAttr K C "people"
theorem scInit : FnScope ["self", "people"] ["self", "people"] (defScope sInit) := ⟨rfl, rfl, rfl, by decide +kernel, rfl, by decide +kernel, by decide +kernel⟩
def spInit (K : PySem.W.Frag) (C : Addr) : Sp := fun vs H Q _ => ∃ (p a dx : Addr) (xs : List V), vs = [.ref p, .ref a] ∧ H p = some (.ins C dx []) ∧ SqL K H a xs ∧ ∀ l H', H l = none → H' l = some (.lst xs) → H' p = some (.ins C dx [("people", .ref l)]) → (∀ b o, H b = some o → b ≠ p → H' b = some o) → Q .non H'
theorem ok_init {f C : Addr} {fd : FuncData} (F : Fun K "__init__" "Known.__init__" sInit f fd) (T : KC K mg C) (B : Bl mg) : FnOk P w K mg base CX0 1 f fd ["self", "people"] (spInit K C) := by
  refine F.ok scInit (fun vs H Q E h => ?_) (fun cdv A outer s H vs Q E hr h => ?_)
  · obtain ⟨p, a, dx, xs, rfl, _⟩ := h
    rfl
  · obtain ⟨p, a, dx, xs, rfl, hp, hS, q⟩ := h
    refine ⟨_, pss_one (ps_fld (pv 0) (pe_callTy call_list_of (by rfl) B.list (by decide +kernel) (pa_cons (pv 1) pa_nil)) rfl), ?_⟩
    refine ⟨.ref a, rfl, a, xs, rfl, .inl hS, fun l nl => ?_⟩
    have npl : p ≠ l := ne_of_none hp nl
    refine ⟨_, rfl, p, C, dx, [], rfl, (by rw [upd_ne npl]; exact hp), T.cl, T.no, (by show 0 < 1000; decide), ?_⟩
    refine q l _ nl (by rw [upd_ne npl.symm]; exact upd_same) upd_same fun b o e hb => ?_
    rw [upd_ne hb, upd_ne (ne_of_none e nl)]
    exact e
/-! ### found -/
theorem scFound : FnScope ["web", "known", "unknown", "left", "inside", "outside"] ["web", "known", "unknown"] (defScope sFound) := ⟨rfl, rfl, rfl, by decide +kernel, rfl, by decide +kernel, by decide +kernel⟩
def spFound (K : PySem.W.Frag) (CW CC CT CK : Addr) : Sp := fun vs H Q E => ∃ x k u, vs = [x, k, u] ∧ ((BadAny K H x ∧ ∀ H', Same H H' → E (.ref CW) none H') ∨ ∃ a n e, x = .ref a ∧ Like K H a n e ∧ Sym n e ∧
  ((SureBad K H k u ∧ ∀ H', Same H H' → E (.ref CC) none H') ∨ (∃ i j : Int, k = .int i ∧ u = .int j ∧ 1 ≤ i ∧ i ≤ 200 ∧ 1 ≤ j ∧ j ≤ 200 ∧ (n : Int) < PySem.W.mcComb (i + j - 2) (i - 1) ∧ ∀ H', Same H H' → E (.ref CT) none H') ∨
    (n = 1 ∧ k = .int 1 ∧ u = .int 1 ∧ ∀ H' p l dx, Same H H' → H' p = some (.ins CK dx [("people", .ref l)]) → H' l = some (.lst [.int 0]) → Q (.ref p) H')))
theorem ok_found {f fW fS fI CW CC CT CK : Addr} {fd fdW fdS fdI : FuncData} (F : Fun K "found" "found" sFound f fd) (GW : FnOk P w K mg base (L2.CX P w) 2 fW fdW ["web"] (spWeb K CW)) (FW : Fun K "check_web" "check_web" sWeb fW fdW) (bW : Binds K fdW ["web"] []) (gW : mg "check_web" = some (.ref fW))
    (GS : FnOk P w K mg base (L2.CX P w) 3 fS fdS ["known", "unknown"] (spSure K CC)) (FS : Fun K "sure" "sure" sSure fS fdS) (bS : Binds K fdS ["known", "unknown"] []) (gS : mg "sure" = some (.ref fS)) (EB : EC K mg "TooFew" CT)
    (T : KC K mg CK) (M : Mk K CK fI) (FI : Fun K "__init__" "Known.__init__" sInit fI fdI) (bI : Binds K fdI ["self", "people"] []) (B : Bl mg) : FnOk P w K mg base (L2.CX P w) 4 f fd ["web", "known", "unknown"] (spFound K CW CC CT CK) := by
  have GI : FnOk P w K mg base CX0 1 fI fdI ["self", "people"] (spInit K CK) := ok_init FI T B
  refine F.okX scFound (fun vs H Q E h => ?_) (fun cdv A outer s H vs Q E hr h => ?_)
  · obtain ⟨x, k, u, rfl, _⟩ := h
    rfl
  · obtain ⟨x, k, u, rfl, h⟩ := h
    have r2 := hr.mono (j := 2) (by decide)
    refine ⟨_, pss_cons (ps_expr (pe_callS GW r2 (by rfl) gW FW.kp bW (fun σ => passAt (takes_of rfl rfl rfl rfl) σ) (pa_cons (pv 0) pa_nil)))
      (pss_cons (ps_if (pt_cmpR op_lt (pe_callB call_len_seq (by rfl) B.len PySem.boot_len (pa_cons (pv 0) pa_nil)) (pe_callS GS hr (by rfl) gS FS.kp bS (fun σ => passAt (takes_of rfl rfl rfl rfl) σ) (pa_cons (pv 1) (pa_cons (pv 2) pa_nil))) (nomark _)) (pss_one (ps_rais rfl (takes_of rfl rfl rfl rfl) EB (by rfl) pe_str)) pss_nil)
      (pss_cons (ps_set (i := 3) scFound.nd rfl (.inl rfl) (pe_listRg rfl (by rfl) B.list (prg_1 (by rfl) B.range (pe_callB call_len_seq (by rfl) B.len PySem.boot_len (pa_cons (pv 0) pa_nil)))))
      (pss_cons (ps_set (i := 4) scFound.nd rfl (.inl rfl) (pe_lst pa_nil))
      (pss_cons (ps_set (i := 5) scFound.nd rfl (.inl rfl) (pe_lst pa_nil))
      (pss_cons (ps_while (passes_of rfl) (PW.pt (pw_and (pt_cmpR op_gt (pv 1) pe_int (nomark _)) (pw_and1 (pt_cmpR op_gt (pv 2) pe_int (nomark _))))) pss_no)
      (pss_one (ps_ret (pe_ifExp (pt_cmpR op_eq (pv 1) pe_int (nomark _)) (pe_make M GI r2 (by rfl) T.g bI .nil pass0 (pa_cons (pe_op op_cat (pv 4) (pe_slice sl_list (pv 3) po_none (po_some pe_int))) pa_nil)) pe_no)))))))), ?_⟩
    rcases h with ⟨hb, q⟩ | ⟨a, n, e, rfl, hl, hs, h⟩
    · exact ⟨x, rfl, x, rfl, hb.web q⟩
    · refine ⟨_, rfl, _, rfl, .inr ⟨a, n, e, rfl, hl, .inr ⟨hs, fun H1 s1 => ?_⟩⟩⟩
      have hS := s1.seq hl.1
      have hlen : ((web n e).map V.str).length = n := by rw [List.length_map, web_len]
      rcases h with ⟨hb, q⟩ | ⟨i, j, rfl, rfl, i1, i2, j1, j2, hlt, q⟩ | ⟨rfl, rfl, rfl, q⟩
      · exact ⟨.ref a, rfl, a, _, rfl, .inl hS, k, rfl, u, rfl, k, u, rfl, .inl ⟨hb.same s1, q H1 s1⟩⟩
      · refine ⟨.ref a, rfl, a, _, rfl, .inl hS, _, rfl, _, rfl, _, _, rfl, .inr ⟨i, j, rfl, rfl, i1, i2, j1, j2, _, _, rfl, rfl, _, rfl, ?_⟩⟩
        rw [hlen, decide_eq_true hlt]
        refine iteT ?_
        exact q H1 s1
      · refine ⟨.ref a, rfl, a, _, rfl, .inl hS, _, rfl, _, rfl, _, _, rfl, .inr ⟨1, 1, rfl, rfl, by decide, by decide, by decide, by decide, _, _, rfl, rfl, _, rfl, ?_⟩⟩
        rw [hlen, decide_eq_false (show ¬ ((1 : Nat) : Int) < PySem.W.mcComb (1 + 1 - 2) (1 - 1) by decide +kernel)]
        refine iteF ?_
        refine ⟨.ref a, rfl, a, _, rfl, .inl hS, _, rfl, RgOk.of_le (by decide) (by rw [hlen]; decide) (by decide) (by rw [hlen]; decide), fun L nL => ⟨by decide, fun I nI => ⟨by decide, fun O nO => ?_⟩⟩⟩
        rw [hlen] at nI nO ⊢
        refine ⟨fun _ σ H2 => σ = [some (.ref a), some (.int 1), some (.int 1), some (.ref L), some (.ref I), some (.ref O)] ∧ H2 = L2.upd (L2.upd (L2.upd H1 L (.lst (rgV 0 ((1 : Nat) : Int)))) I (.lst [])) O (.lst []), ⟨0, rfl, rfl⟩, ?_⟩
        rintro m σ H2 ⟨rfl, rfl⟩
        refine ⟨_, rfl, 1, 1, rfl, rfl, _, rfl, ?_⟩
        rw [decide_eq_false (show ¬ (1 : Int) < 1 by decide)]
        refine iteF (iteF ?_)
        refine ⟨_, rfl, rfl, _, rfl, ?_⟩
        rw [decide_eq_true rfl]
        refine iteT ?_
        have eL : L2.upd (L2.upd (L2.upd H1 L (.lst (rgV 0 ((1 : Nat) : Int)))) I (.lst [])) O (.lst []) L = some (.lst (rgV 0 ((1 : Nat) : Int))) := by
          rw [upd_ne (ne_of_none (by rw [upd_ne (ne_of_none upd_same nI)]; exact upd_same) nO), upd_ne (ne_of_none upd_same nI)]
          exact upd_same
        have eI : L2.upd (L2.upd (L2.upd H1 L (.lst (rgV 0 ((1 : Nat) : Int)))) I (.lst [])) O (.lst []) I = some (.lst []) := by
          rw [upd_ne (ne_of_none upd_same nO)]
          exact upd_same
        have s2 : Same H (L2.upd (L2.upd (L2.upd H1 L (.lst (rgV 0 ((1 : Nat) : Int)))) I (.lst [])) O (.lst [])) := s1.trans ((same_upd nL).trans ((same_upd nI).trans (same_upd nO)))
        generalize L2.upd (L2.upd (L2.upd H1 L (.lst (rgV 0 ((1 : Nat) : Int)))) I (.lst [])) O (.lst []) = H3 at eL eI s2 ⊢
        refine ⟨_, rfl, _, rfl, _, rfl, L, _, rfl, SqL.of eL, fun S nS => ⟨I, S, [], _, rfl, rfl, (by rw [upd_ne (ne_of_none eI nS)]; exact eI), upd_same, by decide, fun p np => ?_⟩⟩
        intro x dx nx ndx nex
        have s3 := s2.trans ((same_upd (o := .lst (cutV (rgV 0 ((1 : Nat) : Int)) none (some 1))) nS).trans (same_upd (o := .lst ([] ++ cutV (rgV 0 ((1 : Nat) : Int)) none (some 1))) np))
        refine ⟨x, p, dx, cutV (rgV 0 ((1 : Nat) : Int)) none (some 1), rfl, upd_same, SqL.of ?_, fun l H' nl e1 e2 kp => ⟨rfl, q H' x l dx (fun b o eb => ?_) e2 (by rw [e1] <;> rfl)⟩⟩
        · rw [upd_ne (ne_of_none upd_same nx), upd_ne (ne_of_none upd_same ndx)]
          exact upd_same
        · have eb3 := s3 b o eb
          refine kp b o ?_ (ne_of_none eb3 nx)
          rw [upd_ne (ne_of_none eb3 nx), upd_ne (ne_of_none eb3 ndx)]
          exact eb3
end
end AX
set_option Elab.async false
set_option linter.all false
set_option maxRecDepth 100000
set_option maxHeartbeats 4000000
namespace AX
open PySem PySem.Spec PyProof.Rows L2 AK
section
variable {P : Program} {w : World} {K : PySem.W.Frag} {mg : Str → Option Value} {base : Heap}
/-! ### _law_with_web -/
theorem scWithWeb : FnScope ["_law_door", "_law_web"] ["_law_door", "_law_web"] (defScope sWithWeb) := ⟨rfl, rfl, rfl, by decide +kernel, rfl, by decide +kernel, by decide +kernel⟩
def spWithWeb (K : PySem.W.Frag) (C : Addr) : Sp := fun vs H Q E => ∃ (d : Int) (x : V), vs = [.int d, x] ∧ BadAny K H x ∧ ∀ H', Same H H' → E (.ref C) none H'
structure Cal (K : PySem.W.Frag) (mg : Str → Option Value) (x : Str) (f : Addr) (fd : FuncData) (ps : List Str) : Prop where
  g : mg x = some (.ref f)
  kp : PySem.W.keepIn K (.ref f) = true
  b : Binds K fd ps []
theorem ok_withWeb {f f1 f2 f3 f4 f5 f6 f7 f8 CW CC CT CK : Addr} {fd d1 d2 d3 d4 d5 d6 d7 d8 : FuncData} (F : Fun K "_law_with_web" "_law_with_web" sWithWeb f fd)
    (G1 : FnOk P w K mg base (L2.CX P w) 3 f1 d1 ["web"] (spTies K CW)) (c1 : Cal K mg "ties" f1 d1 ["web"]) (G2 : FnOk P w K mg base (L2.CX P w) 3 f2 d2 ["web"] (spRef K CW)) (c2 : Cal K mg "turned" f2 d2 ["web"])
    (G3 : FnOk P w K mg base (L2.CX P w) 4 f3 d3 ["web"] (spRef K CW)) (c3 : Cal K mg "alike" f3 d3 ["web"]) (G4 : FnOk P w K mg base (L2.CX P w) 3 f4 d4 ["web"] (spRef K CW)) (c4 : Cal K mg "three" f4 d4 ["web"])
    (G5 : FnOk P w K mg base (L2.CX P w) 4 f5 d5 ["web", "known", "unknown"] (spFound K CW CC CT CK)) (c5 : Cal K mg "found" f5 d5 ["web", "known", "unknown"]) (G6 : FnOk P w K mg base (L2.CX P w) 4 f6 d6 ["web"] (spRef K CW)) (c6 : Cal K mg "promised" f6 d6 ["web"])
    (G7 : FnOk P w K mg base (L2.CX P w) 5 f7 d7 ["web"] (spRef K CW)) (c7 : Cal K mg "strangers" f7 d7 ["web"]) (G8 : FnOk P w K mg base (L2.CX P w) 4 f8 d8 ["web"] (spRef K CW)) (c8 : Cal K mg "friends" f8 d8 ["web"]) :
    FnOk P w K mg base (L2.CX P w) 6 f fd ["_law_door", "_law_web"] (spWithWeb K CW) := by
  refine F.okX scWithWeb (fun vs H Q E h => ?_) (fun cdv A outer s H vs Q E hr h => ?_)
  · obtain ⟨d, x, rfl, _⟩ := h
    rfl
  · obtain ⟨d, x, rfl, hb, q⟩ := h
    have r3 := hr.mono (j := 3) (by decide)
    have r4 := hr.mono (j := 4) (by decide)
    refine ⟨_, pss_cons (ps_if (pt_cmpR op_lt (pv 0) pe_int (nomark _)) (pss_one (ps_ret (pe_ifExp (pt_cmpR op_eq (pv 0) pe_int (nomark _)) (pe_callS G1 r3 (by rfl) c1.g c1.kp c1.b (fun σ => passAt (takes_of rfl rfl rfl rfl) σ) (pa_cons (pv 1) pa_nil)) (pe_callS G2 r3 (by rfl) c2.g c2.kp c2.b (fun σ => passAt (takes_of rfl rfl rfl rfl) σ) (pa_cons (pv 1) pa_nil))))) pss_nil)
      (pss_cons (ps_if (pt_cmpR op_lt (pv 0) pe_int (nomark _)) (pss_one (ps_ret (pe_ifExp (pt_cmpR op_eq (pv 0) pe_int (nomark _)) (pe_callS G3 r4 (by rfl) c3.g c3.kp c3.b (fun σ => passAt (takes_of rfl rfl rfl rfl) σ) (pa_cons (pv 1) pa_nil)) (pe_callS G4 r3 (by rfl) c4.g c4.kp c4.b (fun σ => passAt (takes_of rfl rfl rfl rfl) σ) (pa_cons (pv 1) pa_nil))))) pss_nil)
      (pss_cons (ps_if (pt_cmpR op_lt (pv 0) pe_int (nomark _)) (pss_one (ps_ret (pe_ifExp (pt_cmpR op_eq (pv 0) pe_int (nomark _)) (pe_callS G5 r4 (by rfl) c5.g c5.kp c5.b (fun σ => passAt (takes_of rfl rfl rfl rfl) σ) (pa_cons (pv 1) (pa_cons pe_non (pa_cons pe_non pa_nil)))) (pe_callS G6 r4 (by rfl) c6.g c6.kp c6.b (fun σ => passAt (takes_of rfl rfl rfl rfl) σ) (pa_cons (pv 1) pa_nil))))) pss_nil)
      (pss_one (ps_ret (pe_ifExp (pt_cmpR op_eq (pv 0) pe_int (nomark _)) (pe_callS G7 hr (by rfl) c7.g c7.kp c7.b (fun σ => passAt (takes_of rfl rfl rfl rfl) σ) (pa_cons (pv 1) pa_nil)) (pe_callS G8 r4 (by rfl) c8.g c8.kp c8.b (fun σ => passAt (takes_of rfl rfl rfl rfl) σ) (pa_cons (pv 1) pa_nil))))))), ?_⟩
    refine ⟨_, rfl, d, 2, rfl, rfl, _, rfl, ite2 (fun _ => ?_) (fun _ => ?_)⟩
    · refine ⟨_, rfl, rfl, _, rfl, ite2 (fun _ => ?_) (fun _ => ?_)⟩
      · exact ⟨x, rfl, x, rfl, hb.web q⟩
      · exact ⟨x, rfl, x, rfl, hb, q⟩
    refine ⟨_, rfl, d, 4, rfl, rfl, _, rfl, ite2 (fun _ => ?_) (fun _ => ?_)⟩
    · refine ⟨_, rfl, rfl, _, rfl, ite2 (fun _ => ?_) (fun _ => ?_)⟩
      · exact ⟨x, rfl, x, rfl, hb, q⟩
      · exact ⟨x, rfl, x, rfl, hb, q⟩
    refine ⟨_, rfl, d, 6, rfl, rfl, _, rfl, ite2 (fun _ => ?_) (fun _ => ?_)⟩
    · refine ⟨_, rfl, rfl, _, rfl, ite2 (fun _ => ?_) (fun _ => ?_)⟩
      · exact ⟨x, rfl, x, .non, .non, rfl, .inl ⟨hb, q⟩⟩
      · exact ⟨x, rfl, x, rfl, hb, q⟩
    refine ⟨_, rfl, rfl, _, rfl, ite2 (fun _ => ?_) (fun _ => ?_)⟩
    · exact ⟨x, rfl, x, rfl, hb, q⟩
    · exact ⟨x, rfl, x, rfl, hb, q⟩
/-! ### _law_with_count -/
def two (i j : Nat) : Bool := i != j
theorem two_web : [V.str (Str.ofString "-x"), V.str (Str.ofString "x-")] = (web 2 two).map V.str := by decide +kernel
theorem scWithCount : FnScope ["_law_door", "_law_count", "_law_web"] ["_law_door", "_law_count"] (defScope sWithCount) := ⟨rfl, rfl, rfl, by decide +kernel, rfl, by decide +kernel, by decide +kernel⟩
def spWithCount (K : PySem.W.Frag) (C : Addr) : Sp := fun vs H Q E => ∃ (d : Int) (x : V), vs = [.int d, x] ∧ (d < 4 → CntBad K H x 1) ∧ (d = 4 → NotWhole K H x ∨ ∃ i : Int, x = .int i ∧ i < 0) ∧ (4 < d → CntBad K H x 0) ∧ ∀ H', Same H H' → E (.ref C) none H'
theorem ok_withCount {f f1 f2 f3 f4 CW CC CT CK : Addr} {fd d1 d2 d3 d4 : FuncData} (F : Fun K "_law_with_count" "_law_with_count" sWithCount f fd)
    (G1 : FnOk P w K mg base (L2.CX P w) 3 f1 d1 ["known", "unknown"] (spSure K CC)) (c1 : Cal K mg "sure" f1 d1 ["known", "unknown"]) (G2 : FnOk P w K mg base (L2.CX P w) 4 f2 d2 ["web", "known", "unknown"] (spFound K CW CC CT CK)) (c2 : Cal K mg "found" f2 d2 ["web", "known", "unknown"])
    (G3 : FnOk P w K mg base (L2.CX P w) 3 f3 d3 ["size"] (spFewR K CC)) (c3 : Cal K mg "fewest" f3 d3 ["size"]) (G4 : FnOk P w K mg base (L2.CX P w) 3 f4 d4 ["size"] (spWebOfR K CC)) (c4 : Cal K mg "web_of" f4 d4 ["size"]) :
    FnOk P w K mg base (L2.CX P w) 5 f fd ["_law_door", "_law_count"] (spWithCount K CC) := by
  refine F.okX scWithCount (fun vs H Q E h => ?_) (fun cdv A outer s H vs Q E hr h => ?_)
  · obtain ⟨d, x, rfl, _⟩ := h
    rfl
  · obtain ⟨d, x, rfl, h1, h2, h3, q⟩ := h
    have r3 := hr.mono (j := 3) (by decide)
    refine ⟨_, pss_cons (ps_set (i := 2) scWithCount.nd rfl (.inl rfl) (pe_lst (pa_cons pe_str (pa_cons pe_str pa_nil))))
      (pss_cons (ps_if (pt_cmpR op_lt (pv 0) pe_int (nomark _)) (pss_one (ps_ret (pe_ifExp (pt_cmpR op_eq (pv 0) pe_int (nomark _)) (pe_callS G1 r3 (by rfl) c1.g c1.kp c1.b (fun σ => passAt (takes_of rfl rfl rfl rfl) σ) (pa_cons (pv 1) (pa_cons pe_int pa_nil))) (pe_callS G1 r3 (by rfl) c1.g c1.kp c1.b (fun σ => passAt (takes_of rfl rfl rfl rfl) σ) (pa_cons pe_int (pa_cons (pv 1) pa_nil)))))) pss_nil)
      (pss_cons (ps_if (pt_cmpR op_lt (pv 0) pe_int (nomark _)) (pss_one (ps_ret (pe_ifExp (pt_cmpR op_eq (pv 0) pe_int (nomark _)) (pe_callS G2 hr (by rfl) c2.g c2.kp c2.b (fun σ => passAt (takes_of rfl rfl rfl rfl) σ) (pa_cons (pv 2) (pa_cons (pv 1) (pa_cons pe_int pa_nil)))) (pe_callS G2 hr (by rfl) c2.g c2.kp c2.b (fun σ => passAt (takes_of rfl rfl rfl rfl) σ) (pa_cons (pv 2) (pa_cons pe_int (pa_cons (pv 1) pa_nil))))))) pss_nil)
      (pss_one (ps_ret (pe_ifExp (pt_cmpR op_eq (pv 0) pe_int (nomark _)) (pe_callS G3 r3 (by rfl) c3.g c3.kp c3.b (fun σ => passAt (takes_of rfl rfl rfl rfl) σ) (pa_cons (pv 1) pa_nil)) (pe_callS G4 r3 (by rfl) c4.g c4.kp c4.b (fun σ => passAt (takes_of rfl rfl rfl rfl) σ) (pa_cons (pv 1) pa_nil))))))), ?_⟩
    refine ⟨by decide, fun W nW => ?_⟩
    have s1 : Same H (L2.upd H W (.lst [.str "-x", .str "x-"])) := same_upd nW
    have e1 : L2.upd H W (.lst [.str "-x", .str "x-"]) W = some (.lst [.str "-x", .str "x-"]) := upd_same
    generalize L2.upd H W (.lst [.str "-x", .str "x-"]) = H1 at s1 e1 ⊢
    have hl : Like K H1 W 2 two := ⟨SqL.of (by rw [← two_web]; exact e1), by decide, fun i hi => show (i != i) = false from bne_self_eq_false i⟩
    have hs : Sym 2 two := fun i j _ _ => by show (i != j) = (j != i); rw [Bool.eq_iff_iff, bne_iff_ne, bne_iff_ne]; exact ⟨fun h => h.symm, fun h => h.symm⟩
    refine ⟨_, rfl, d, 2, rfl, rfl, _, rfl, ite2 (fun hd => ?_) (fun hd => ?_)⟩
    · have hb := (h1 (by have := of_decide_eq_true hd; omega)).same s1
      refine ⟨_, rfl, rfl, _, rfl, ite2 (fun _ => ?_) (fun _ => ?_)⟩
      · exact ⟨x, rfl, x, .int 3, rfl, .inl ⟨.inl hb, q H1 s1⟩⟩
      · exact ⟨x, rfl, .int 3, x, rfl, .inl ⟨.inr ⟨⟨3, rfl, by decide, by decide⟩, hb⟩, q H1 s1⟩⟩
    refine ⟨_, rfl, d, 4, rfl, rfl, _, rfl, ite2 (fun hd => ?_) (fun hd4 => ?_)⟩
    · have hb := (h1 (by have := of_decide_eq_true hd; omega)).same s1
      refine ⟨_, rfl, rfl, _, rfl, ite2 (fun _ => ?_) (fun _ => ?_)⟩
      · exact ⟨_, rfl, x, rfl, .ref W, x, .int 2, rfl, .inr ⟨W, 2, two, rfl, hl, hs, .inl ⟨.inl hb, fun H' s' => q H' (s1.trans s')⟩⟩⟩
      · exact ⟨_, rfl, x, rfl, .ref W, .int 3, x, rfl, .inr ⟨W, 2, two, rfl, hl, hs, .inl ⟨.inr ⟨⟨3, rfl, by decide, by decide⟩, hb⟩, fun H' s' => q H' (s1.trans s')⟩⟩⟩
    have hd4 : ¬ d < 4 := fun z => hd4 (decide_eq_true z)
    refine ⟨_, rfl, rfl, _, rfl, ite2 (fun he => ?_) (fun he => ?_)⟩
    · have he : d = 4 := by have := of_decide_eq_true he; injection this
      refine ⟨x, rfl, x, rfl, ?_, q H1 s1⟩
      rcases h2 he with h | h
      · exact .inl (h.same s1)
      · exact .inr h
    · have he : ¬ d = 4 := fun z => he (decide_eq_true (by rw [z]))
      exact ⟨x, rfl, x, rfl, (h3 (by omega)).same s1, q H1 s1⟩
end
end AX
set_option Elab.async false
set_option linter.all false
set_option maxRecDepth 100000
set_option maxHeartbeats 8000000
namespace AX
open PySem PySem.Spec PyProof.Rows L2 AK
/-! ### "-" * n -/
abbrev dash (n : Nat) : Str := row n fun _ => false
theorem fold_rep (c : Nat) : ∀ (k : Nat) (acc : Array Nat), (List.replicate k #[c]).foldl (· ++ ·) acc = acc ++ (List.replicate k c).toArray
  | 0, acc => by simp
  | k + 1, acc => by
    rw [List.replicate_succ, List.foldl_cons, fold_rep c k, List.replicate_succ]
    apply Array.ext'
    simp
theorem dash_cps (n : Nat) : (⟨(List.replicate n (Str.ofString "-").cps).foldl (· ++ ·) #[]⟩ : Str) = dash n := by
  have e : (Str.ofString "-").cps = #[45] := by decide +kernel
  rw [e, fold_rep]
  have h : ∀ l : List Nat, l.map (fun _ => sg false) = List.replicate l.length 45 := fun l => by
    induction l with
    | nil => rfl
    | cons c l ih => rw [List.map_cons, ih, List.length_cons, List.replicate_succ] <;> rfl
  unfold dash row
  rw [h, List.length_range]
  simp
def rDash : R2 := fun x y H Q => ∃ n : Nat, x = .str (Str.ofString "-") ∧ y = .int n ∧ n ≤ 1000 ∧ Q (.str (dash n)) H
theorem op_dash {X : Cx} : OpR X (binaryOp .Mult) rDash := by
  intro pins s σ H x y v u Q I rx ry h
  obtain ⟨n, rfl, rfl, hn, q⟩ := h
  obtain ⟨t, rfl⟩ := rx
  obtain ⟨t', rfl⟩ := ry
  have hl : (Str.ofString "-").length = 1 := by decide
  refine PySem.P.mul_str ?_ (fun h1 _ => ?_) (fun h1 _ => ?_) ?_
  · rw [decide_eq_false (by omega), decide_eq_false (by omega)] <;> rfl
  · rw [hl]
    have : (1 : Int) ≤ (2 ^ 63 - 1) / (n : Int) := by
      rw [Int.le_ediv_iff_mul_le (by omega)]
      omega
    omega
  · rw [hl]
    show Builtin.Str.tooLong (1 * ((n : Int)).toNat) = false
    have e : ((n : Int)).toNat = n := by omega
    rw [e, Nat.one_mul]
    unfold Builtin.Str.tooLong
    exact decide_eq_false (Nat.not_lt.mpr (Nat.le_of_lt (small1000 hn)))
  · by_cases h1 : (n : Int) < 1
    · rw [if_pos h1]
      have e : n = 0 := by omega
      subst e
      exact ⟨by decide, .str _, H, I.tok _, ⟨_, rfl⟩, q⟩
    · rw [if_neg h1]
      by_cases h2 : n = 1
      · subst h2
        rw [if_pos (by decide)]
        exact ⟨.str (dash 1), H, I, ⟨t, rfl⟩, q⟩
      · rw [if_neg (by rw [hl]; simp; omega)]
        have e : ((n : Int)).toNat = n := by omega
        rw [e, dash_cps]
        refine ⟨?_, .str _, H, I.tok _, ⟨_, rfl⟩, q⟩
        show (dash n).length ≤ sizeLine
        rw [row_len]
        exact Nat.le_of_lt (small1000 hn)
end AX
set_option Elab.async false
set_option linter.all false
set_option maxRecDepth 100000
set_option maxHeartbeats 8000000
namespace AX
open PySem PySem.Spec PyProof.Rows L2 AK
/-- a statement, then the rest from what holds after it -/
def tCut (R : L2.St → Hp → Prop) (t u : TS) : TS := fun D σ H => t { D with nx := R } σ H ∧ ∀ σ' H', R σ' H' → u D σ' H'
theorem pss_cut {X : Cx} {st : Stmt} {rest : List Stmt} {t u : TS} (R : L2.St → Hp → Prop) (h1 : PS X st t) (h2 : PSs X rest u) : PSs X (st :: rest) (tCut R t u) := by
  refine ⟨fun pins s σ H D I h => ?_⟩
  refine wpAny_execs_cons (thn (h1.run pins s σ H { D with nx := R } I h.1) fun f s1 q => ?_)
  cases f with
  | next =>
    obtain ⟨σ', H', I', q⟩ := q
    exact h2.run pins s1 σ' H' D I' (h.2 σ' H' q)
  | ret v => exact q
  | brk => exact q
  | cont => exact q
section
variable {P : Program} {w : World} {K : PySem.W.Frag} {mg : Str → Option Value} {base : Heap}
/-! ### bad webs -/
theorem bad_list {H : Hp} {a : Addr} {xs : List V} (h : SqL K H a xs) (hl : xs.length ≤ 200) {k : Nat} {v : V} (hk : xs[k]? = some v) (hp : ∀ i u, i < k → xs[i]? = some u → ∃ e, u = .str (row xs.length e) ∧ e i = false) (hr : RowBad K H xs.length k v) : BadAny K H (.ref a) :=
  .inl (.inr ⟨a, xs, rfl, h, by omega, .inr ⟨hl, k, v, hk, hp, hr⟩⟩)
theorem bad_first {H : Hp} {a : Addr} {v : V} {xs : List V} (h : SqL K H a (v :: xs)) (hl : xs.length ≤ 100) (hr : RowBad K H (xs.length + 1) 0 v) : BadAny K H (.ref a) :=
  bad_list h (by rw [List.length_cons]; omega) (k := 0) rfl (fun i _ hi => absurd hi (Nat.not_lt_zero _)) (by rw [List.length_cons]; exact hr)
theorem bad_str {H : Hp} {n k : Nat} {s : Str} (hz : s.length ≤ 1000) (h : s.length ≠ n) : RowBad K H n k (.str s) := .inr ⟨s, rfl, hz, .inl h⟩
theorem bad_sign {H : Hp} {n k : Nat} {s : Str} (hz : s.length ≤ 1000) (h : s.length = n) (hc : Txt.count s (Str.ofString "x") + Txt.count s (Str.ofString "-") ≠ n) : RowBad K H n k (.str s) := .inr ⟨s, rfl, hz, .inr (.inl ⟨h, hc⟩)⟩
theorem bad_self {H : Hp} {n k : Nat} {e : Nat → Bool} (hn : n ≤ 1000) (h : e k = true) : RowBad K H n k (.str (row n e)) := .inr ⟨_, rfl, by rw [row_len]; exact hn, .inr (.inr ⟨e, rfl, h⟩)⟩
theorem badAny_same {H H' : Hp} {x : V} (h : BadAny K H x) (s : Same H H') : BadAny K H' x := by
  rcases h with h | ⟨a, n, e, rfl, hl, hs⟩
  · rcases h with h | ⟨a, xs, rfl, hS, h1, h⟩
    · exact .inl (.inl (h.same s))
    · refine .inl (.inr ⟨a, xs, rfl, s.seq hS, h1, ?_⟩)
      rcases h with h | ⟨h2, k, v, hk, hp, hr⟩
      · exact .inl h
      · exact .inr ⟨h2, k, v, hk, hp, hr.same s⟩
  · exact .inr ⟨a, n, e, rfl, hl.same s, hs⟩
/-- the sixteen, one by one, in the heap in which they lie -/
theorem sixteen {H : Hp} {T D L1 L2' L3 L4 L5 I L6 L7 M1 M2 M3 M4 : Addr} (eT : H T = some (.tup [])) (eD : H D = some (.dK [])) (e1 : H L1 = some (.lst [.str ""])) (e2 : H L2' = some (.lst [.str "x"])) (e3 : H L3 = some (.lst [.str "-", .str "-"])) (e4 : H L4 = some (.lst [.str "-x", .str "--"])) (e5 : H L5 = some (.lst [.str "-X", .str "X-"]))
    (eI : H I = some (.lst [.str "-"])) (e6 : H L6 = some (.lst [.ref I])) (e7 : H L7 = some (.lst [.str "--", .str "-"])) (f1 : H M1 = some (.lst [.str "-x", .str "x-", .str ""])) (f2 : H M2 = some (.lst (List.replicate 201 (.str (dash 201))))) (f3 : H M3 = some (.lst [.str "o"])) (f4 : H M4 = some (.lst [.non])) :
    ∀ j : Nat, j < 16 → ∃ v, [V.non, .ref T, .str "-", .int 5, .ref D, .ref L1, .ref L2', .ref L3, .ref L4, .ref L5, .ref L6, .ref L7, .ref M1, .ref M2, .ref M3, .ref M4][j]? = some v ∧ BadAny K H v := by
  intro j hj
  have hc : j = 0 ∨ j = 1 ∨ j = 2 ∨ j = 3 ∨ j = 4 ∨ j = 5 ∨ j = 6 ∨ j = 7 ∨ j = 8 ∨ j = 9 ∨ j = 10 ∨ j = 11 ∨ j = 12 ∨ j = 13 ∨ j = 14 ∨ j = 15 := by omega
  rcases hc with rfl | rfl | rfl | rfl | rfl | rfl | rfl | rfl | rfl | rfl | rfl | rfl | rfl | rfl | rfl | rfl
  · exact ⟨_, rfl, .inl (.inl ⟨"NoneType", .base .non, by decide +kernel⟩)⟩
  · exact ⟨_, rfl, .inl (.inl ⟨"tuple", .base (.tup eT), by decide +kernel⟩)⟩
  · exact ⟨_, rfl, .inl (.inl ⟨"str", .base (.str _), by decide +kernel⟩)⟩
  · exact ⟨_, rfl, .inl (.inl ⟨"int", .base (.int _), by decide +kernel⟩)⟩
  · exact ⟨_, rfl, .inl (.inl ⟨"dict", .base (.dK eD), by decide +kernel⟩)⟩
  · exact ⟨_, rfl, bad_first (SqL.of e1) (by decide) (bad_str (by decide) (by decide))⟩
  · exact ⟨_, rfl, bad_first (v := .str (row 1 fun _ => true)) (SqL.of e2) (by decide) (bad_self (by decide) rfl)⟩
  · exact ⟨_, rfl, bad_first (SqL.of e3) (by decide) (bad_str (by decide) (by decide))⟩
  · refine ⟨_, rfl, .inr ⟨L4, 2, fun i j => i == 0 && j == 1, rfl, ⟨SqL.of e4, by decide, fun i hi => ?_⟩, fun hs => ?_⟩⟩
    · have : i = 0 ∨ i = 1 := by omega
      rcases this with rfl | rfl <;> rfl
    · have := hs 0 1 (by decide) (by decide)
      exact absurd this (by decide)
  · exact ⟨_, rfl, bad_first (SqL.of e5) (by decide) (bad_sign (by decide) (by decide) (by decide +kernel))⟩
  · exact ⟨_, rfl, bad_first (SqL.of e6) (by decide) (.inl ⟨"list", .base (.lst eI), by decide +kernel⟩)⟩
  · refine ⟨_, rfl, bad_list (SqL.of e7) (by decide) (k := 1) rfl (fun i u hi hu => ?_) (bad_str (by decide) (by decide))⟩
    have : i = 0 := by omega
    subst this
    exact ⟨fun _ => false, (Option.some.inj hu).symm, rfl⟩
  · exact ⟨_, rfl, bad_first (SqL.of f1) (by decide) (bad_str (by decide) (by decide))⟩
  · refine ⟨_, rfl, .inl (.inr ⟨M2, _, rfl, SqL.of f2, ?_, .inl ?_⟩)⟩
    · rw [List.length_replicate]; decide
    · rw [List.length_replicate]; decide
  · exact ⟨_, rfl, bad_first (SqL.of f3) (by decide) (bad_sign (by decide) (by decide) (by decide +kernel))⟩
  · exact ⟨_, rfl, bad_first (SqL.of f4) (by decide) (.inl ⟨"NoneType", .base .non, by decide +kernel⟩)⟩
/-- a row with one sign changed -/
def mkRow (n p : Nat) (s : Str) : Str := dash p ++ s ++ dash (n - p - 1)
theorem mk_x : ∀ n : Nat, n < 7 → ∀ p : Nat, p < n → mkRow n p (Str.ofString "x") = row n (fun j => j == p) := by decide +kernel
theorem mk_b : ∀ n : Nat, n < 7 → ∀ p : Nat, p < n → (mkRow n p (Str.ofString " ")).length = n ∧ Txt.count (mkRow n p (Str.ofString " ")) (Str.ofString "x") + Txt.count (mkRow n p (Str.ofString " ")) (Str.ofString "-") ≠ (n : Int) := by decide +kernel
theorem mk_len (n p : Nat) (s : Str) (hp : p < n) : (mkRow n p s).length = n - 1 + s.length := by
  unfold mkRow
  rw [Str.length_append, Str.length_append, row_len, row_len]
  omega
theorem nobody_at {n i : Nat} (hi : i < n) : (web n fun _ _ => false)[i]? = some (dash n) := web_at hi
theorem changed {H : Hp} {R : Addr} {n at_ p : Nat} {s : Str} (h2 : 2 ≤ n) (h6 : n < 7) (ha : at_ < n) (hp : p = (at_ + 1) % n) (hs : s = Str.ofString "x" ∨ s = Str.ofString " " ∨ s = Str.ofString "" ∨ s = Str.ofString "xx") (h : SqL K H R (((web n fun _ _ => false).map V.str).set at_ (.str (mkRow n p s)))) : BadAny K H (.ref R) := by
  have hpn : p < n := by rw [hp]; exact Nat.mod_lt _ (by omega)
  have hne : p ≠ at_ := by
    by_cases hh : at_ + 1 < n
    · rw [Nat.mod_eq_of_lt hh] at hp; omega
    · have : at_ + 1 = n := by omega
      rw [this, Nat.mod_self] at hp; omega
  have hlen : (((web n fun _ _ => false).map V.str).set at_ (.str (mkRow n p s))).length = n := by rw [List.length_set, List.length_map, web_len]
  have gen : (∀ k, RowBad K H n k (.str (mkRow n p s))) → BadAny K H (.ref R) := fun hr => by
    refine bad_list h (by omega) (k := at_) (v := .str (mkRow n p s)) ?_ (fun i u hi hu => ?_) (by rw [hlen]; exact hr at_)
    · rw [List.getElem?_set]
      rw [if_pos rfl, if_pos (by rw [List.length_map, web_len]; exact ha)]
    · rw [List.getElem?_set, if_neg (by omega), List.getElem?_map, nobody_at (by omega)] at hu
      rw [hlen]
      exact ⟨fun _ => false, (Option.some.inj hu).symm, rfl⟩
  rcases hs with rfl | rfl | rfl | rfl
  · refine .inr ⟨R, n, fun i j => i == at_ && j == p, rfl, ⟨?_, by omega, fun i hi => ?_⟩, fun hs => ?_⟩
    · have e : ((web n fun _ _ => false).map V.str).set at_ (.str (mkRow n p (Str.ofString "x"))) = (web n fun i j => i == at_ && j == p).map V.str := by
        refine List.ext_getElem? fun k => ?_
        rw [List.getElem?_set]
        by_cases hk : k < n
        · rw [List.getElem?_map, List.getElem?_map, nobody_at hk, web_at hk]
          by_cases hka : at_ = k
          · subst hka
            rw [if_pos rfl, if_pos (by rw [List.length_map, web_len]; exact hk), mk_x n h6 p hpn]
            show some (V.str _) = some (V.str _)
            congr 3
            funext j
            simp
          · rw [if_neg hka]
            show some (V.str (row n fun _ => false)) = some (V.str _)
            congr 3
            funext j
            have : (k == at_) = false := by simp; omega
            rw [this, Bool.false_and]
        · rw [if_neg (by omega)]
          have e1 : ((web n fun _ _ => false).map V.str)[k]? = none := by rw [List.getElem?_eq_none_iff, List.length_map, web_len]; omega
          have e2 : ((web n fun i j => i == at_ && j == p).map V.str)[k]? = none := by rw [List.getElem?_eq_none_iff, List.length_map, web_len]; omega
          rw [e1, e2]
      rw [e] at h
      exact h
    · show (i == at_ && i == p) = false
      by_cases hh : i = at_
      · subst hh
        have : (i == p) = false := by simp; omega
        rw [this, Bool.and_false]
      · have : (i == at_) = false := by simp; omega
        rw [this, Bool.false_and]
    · have h1 := hs at_ p ha hpn
      have e1 : (at_ == at_ && p == p) = true := by simp
      have e2 : (p == at_ && at_ == p) = false := by
        have : (p == at_) = false := by simp; omega
        rw [this, Bool.false_and]
      have h1 : (at_ == at_ && p == p) = (p == at_ && at_ == p) := h1
      rw [e1, e2] at h1
      cases h1
  · obtain ⟨b1, b2⟩ := mk_b n h6 p hpn
    exact gen fun k => bad_sign (by omega) b1 b2
  · have hl := mk_len n p (Str.ofString "") hpn
    have e0 : (Str.ofString "").length = 0 := by decide
    exact gen fun k => bad_str (by omega) (by omega)
  · have hl := mk_len n p (Str.ofString "xx") hpn
    have e0 : (Str.ofString "xx").length = 2 := by decide
    exact gen fun k => bad_str (by omega) (by omega)
end
end AX
set_option Elab.async false
set_option linter.all false
set_option maxRecDepth 100000
set_option maxHeartbeats 8000000
namespace AX
open PySem PySem.Spec PyProof.Rows L2 AK
theorem rep_flat (x : V) : ∀ k : Nat, (List.replicate k [x]).flatten = List.replicate k x
  | 0 => rfl
  | k + 1 => by rw [List.replicate_succ, List.flatten_cons, rep_flat x k, List.replicate_succ] <;> rfl
section
variable {P : Program} {w : World} {K : PySem.W.Frag} {mg : Str → Option Value} {base : Heap}
abbrev nBad : List Str := ["_law_which", "_law_more", "_law_bad", "_law_size", "_law_rows", "_law_at", "_law_sign", "_law_place", "_law_one"]
theorem scBadWeb : FnScope nBad ["_law_which", "_law_more"] (defScope sBadWeb) := ⟨rfl, rfl, rfl, by decide +kernel, rfl, by decide +kernel, by decide +kernel⟩
def spBadWeb (K : PySem.W.Frag) : Sp := fun vs H Q _ => ∃ a b : Int, vs = [.int a, .int b] ∧ 0 ≤ a ∧ 0 ≤ b ∧ ∀ H' v, Same H H' → BadAny K H' v → Q v H'
def R1 (K : PySem.W.Frag) (H : Hp) (a b : Int) (σ : L2.St) (H1 : Hp) : Prop := ∃ (B : Addr) (xs : List V), σ = [some (.int a), some (.int b), some (.ref B), none, none, none, none, none, none] ∧ Same H H1 ∧ H1 B = some (.lst xs) ∧ ∀ j : Nat, j < 16 → ∃ v, xs[j]? = some v ∧ BadAny K H1 v
def R2 (H : Hp) (σ : L2.St) (H1 : Hp) : Prop := ∃ (y0 y1 y2 : Option V) (n at_ p : Nat) (R : Addr) (s : Str), σ = [y0, y1, y2, some (.int n), some (.ref R), some (.int at_), some (.str s), some (.int p), none] ∧ Same H H1 ∧ H R = none ∧ H1 R = some (.lst ((web n fun _ _ => false).map V.str)) ∧
  2 ≤ n ∧ n < 7 ∧ at_ < n ∧ p = (at_ + 1) % n ∧ (s = Str.ofString "x" ∨ s = Str.ofString " " ∨ s = Str.ofString "" ∨ s = Str.ofString "xx")
theorem ok_badWeb {f : Addr} {fd : FuncData} (F : Fun K "_law_bad_web" "_law_bad_web" sBadWeb f fd) (B : Bl mg) : FnOk P w K mg base CX0 1 f fd ["_law_which", "_law_more"] (spBadWeb K) := by
  refine F.ok scBadWeb (fun vs H Q E h => ?_) (fun cdv A outer s H vs Q E hr h => ?_)
  · obtain ⟨a, b, rfl, _⟩ := h
    rfl
  · obtain ⟨a, b, rfl, ha, hb, q⟩ := h
    refine ⟨_, pss_cons (ps_set (i := 2) scBadWeb.nd rfl (.inl rfl) (pe_lst (pa_cons pe_non (pa_cons (pe_tup pa_nil) (pa_cons pe_str (pa_cons pe_int (pa_cons pe_dnewK (pa_cons (pe_lst (pa_cons pe_str pa_nil)) (pa_cons (pe_lst (pa_cons pe_str pa_nil)) (pa_cons (pe_lst (pa_cons pe_str (pa_cons pe_str pa_nil))) (pa_cons (pe_lst (pa_cons pe_str (pa_cons pe_str pa_nil))) (pa_cons (pe_lst (pa_cons pe_str (pa_cons pe_str pa_nil)))
        (pa_cons (pe_lst (pa_cons (pe_lst (pa_cons pe_str pa_nil)) pa_nil)) (pa_cons (pe_lst (pa_cons pe_str (pa_cons pe_str pa_nil))) pa_nil))))))))))))))
      (pss_cut (R1 K H a b) (ps_set (i := 2) scBadWeb.nd rfl (.inl rfl) (pe_op op_cat (pv 2) (pe_lst (pa_cons (pe_lst (pa_cons pe_str (pa_cons pe_str (pa_cons pe_str pa_nil)))) (pa_cons (pe_op op_rep (pe_lst (pa_cons (pe_op op_dash pe_str pe_int) pa_nil)) pe_int) (pa_cons (pe_lst (pa_cons pe_str pa_nil)) (pa_cons (pe_lst (pa_cons pe_non pa_nil)) pa_nil)))))))
      (pss_cons (ps_if (pt_cmpR op_lt (pe_op op_mod (pv 0) pe_int) pe_int (nomark _)) (pss_one (ps_ret (pe_ix ix_list (pv 2) (pe_op op_mod (pv 0) pe_int) (fun _ _ => rfl)))) pss_nil)
      (pss_cons (ps_set (i := 3) scBadWeb.nd rfl (.inr rfl) (pe_op op_add pe_int (pe_op op_mod (pv 1) pe_int)))
      (pss_cons (ps_setLc (i := 4) (own := [("_law_one", 8)]) (g := gName 8) (tt := tYes) rfl scBadWeb.nd rfl rfl (sw_true rfl rfl rfl (by decide +kernel)) (pi_range1 (by rfl) B.range (pa_cons (pv 3) pa_nil)) (blkOk_by (N := nBad) (sc := defScope sBadWeb) (by decide +kernel))
        (fun _ _ _ _ _ => pg_name (i := 8) scBadWeb.nd rfl (Or.inl rfl)) (fun _ _ _ _ _ => pts_nil) (fun _ _ _ _ _ => pe_op op_dash pe_str (pv 3)))
      (pss_cons (ps_set (i := 5) scBadWeb.nd rfl (.inl rfl) (pe_op op_mod (pe_op op_fdiv (pv 0) pe_int) (pv 3)))
      (pss_cons (ps_set (i := 6) scBadWeb.nd rfl (.inl rfl) (pe_ix ix_list (pe_lst (pa_cons pe_str (pa_cons pe_str (pa_cons pe_str (pa_cons pe_str pa_nil))))) (pe_op op_mod (pe_op op_fdiv (pv 0) pe_int) pe_int) (fun _ _ => rfl)))
      (pss_cut (R2 H) (ps_set (i := 7) scBadWeb.nd rfl (.inl rfl) (pe_op op_mod (pe_op op_add (pv 5) pe_int) (pv 3)))
      (pss_cons (ps_asg (pe_op op_add_str (pe_op op_add_str (pe_op op_dash pe_str (pv 7)) (pv 6)) (pe_op op_dash pe_str (pe_op op_sub (pe_op op_sub (pv 3) (pv 7)) pe_int))) (pg_sub (pv 4) (pv 5) set_list))
      (pss_one (ps_ret (pv 4))))))))))), ?_⟩
    -- the first list
    refine ⟨by decide, fun T nT => ?_⟩
    have s1 := same_upd (o := .tup []) nT
    have eT := upd_same (H := H) (a := T) (o := .tup [])
    generalize L2.upd H T (.tup []) = H1 at s1 eT ⊢
    intro D nD
    have s2 := same_upd (o := .dK []) nD
    have eD := upd_same (H := H1) (a := D) (o := .dK [])
    generalize L2.upd H1 D (.dK []) = H2 at s2 eD ⊢
    refine ⟨by decide, fun L1 nL1 => ?_⟩
    have s3 := same_upd (o := .lst [.str ""]) nL1
    have eL1 := upd_same (H := H2) (a := L1) (o := .lst [.str ""])
    generalize L2.upd H2 L1 (.lst [.str ""]) = H3 at s3 eL1 ⊢
    refine ⟨by decide, fun L2a nL2a => ?_⟩
    have s4 := same_upd (o := .lst [.str "x"]) nL2a
    have eL2a := upd_same (H := H3) (a := L2a) (o := .lst [.str "x"])
    generalize L2.upd H3 L2a (.lst [.str "x"]) = H4 at s4 eL2a ⊢
    refine ⟨by decide, fun L3 nL3 => ?_⟩
    have s5 := same_upd (o := .lst [.str "-", .str "-"]) nL3
    have eL3 := upd_same (H := H4) (a := L3) (o := .lst [.str "-", .str "-"])
    generalize L2.upd H4 L3 (.lst [.str "-", .str "-"]) = H5 at s5 eL3 ⊢
    refine ⟨by decide, fun L4 nL4 => ?_⟩
    have s6 := same_upd (o := .lst [.str "-x", .str "--"]) nL4
    have eL4 := upd_same (H := H5) (a := L4) (o := .lst [.str "-x", .str "--"])
    generalize L2.upd H5 L4 (.lst [.str "-x", .str "--"]) = H6 at s6 eL4 ⊢
    refine ⟨by decide, fun L5 nL5 => ?_⟩
    have s7 := same_upd (o := .lst [.str "-X", .str "X-"]) nL5
    have eL5 := upd_same (H := H6) (a := L5) (o := .lst [.str "-X", .str "X-"])
    generalize L2.upd H6 L5 (.lst [.str "-X", .str "X-"]) = H7 at s7 eL5 ⊢
    refine ⟨by decide, fun I nI => ?_⟩
    have s8 := same_upd (o := .lst [.str "-"]) nI
    have eI := upd_same (H := H7) (a := I) (o := .lst [.str "-"])
    generalize L2.upd H7 I (.lst [.str "-"]) = H8 at s8 eI ⊢
    refine ⟨fits (Nat.le_of_ble_eq_true rfl), fun L6 nL6 => ?_⟩
    have s9 := same_upd (o := .lst [.ref I]) nL6
    have eL6 := upd_same (H := H8) (a := L6) (o := .lst [.ref I])
    generalize L2.upd H8 L6 (.lst [.ref I]) = H9 at s9 eL6 ⊢
    refine ⟨by decide, fun L7 nL7 => ?_⟩
    have s10 := same_upd (o := .lst [.str "--", .str "-"]) nL7
    have eL7 := upd_same (H := H9) (a := L7) (o := .lst [.str "--", .str "-"])
    generalize L2.upd H9 L7 (.lst [.str "--", .str "-"]) = H10 at s10 eL7 ⊢
    refine ⟨fits (Nat.le_of_ble_eq_true rfl), fun B0 nB0 => ?_⟩
    have s11 := same_upd (o := .lst [V.non, .ref T, .str "-", .int 5, .ref D, .ref L1, .ref L2a, .ref L3, .ref L4, .ref L5, .ref L6, .ref L7]) nB0
    have eB0 := upd_same (H := H10) (a := B0) (o := .lst [V.non, .ref T, .str "-", .int 5, .ref D, .ref L1, .ref L2a, .ref L3, .ref L4, .ref L5, .ref L6, .ref L7])
    generalize L2.upd H10 B0 (.lst [V.non, .ref T, .str "-", .int 5, .ref D, .ref L1, .ref L2a, .ref L3, .ref L4, .ref L5, .ref L6, .ref L7]) = H11 at s11 eB0 ⊢
    refine ⟨?_, ?_⟩
    · refine ⟨_, rfl, ?_⟩
      refine ⟨fits (Nat.le_of_ble_eq_true rfl), fun M1 nM1 => ?_⟩
      have s12 := same_upd (o := .lst [.str "-x", .str "x-", .str ""]) nM1
      have eM1 := upd_same (H := H11) (a := M1) (o := .lst [.str "-x", .str "x-", .str ""])
      generalize L2.upd H11 M1 (.lst [.str "-x", .str "x-", .str ""]) = H12 at s12 eM1 ⊢
      refine ⟨201, rfl, rfl, by decide, by decide, fun Xa nXa => ?_⟩
      have s13 := same_upd (o := .lst [.str (dash 201)]) nXa
      have eXa := upd_same (H := H12) (a := Xa) (o := .lst [.str (dash 201)])
      generalize L2.upd H12 Xa (.lst [.str (dash 201)]) = H13 at s13 eXa ⊢
      refine ⟨Xa, 201, _, rfl, rfl, eXa, by decide, by decide, by decide, fun M2 nM2 => ?_⟩
      have s14 := same_upd (o := .lst (List.replicate (201 : Int).toNat [V.str (dash 201)]).flatten) nM2
      have eM2 := upd_same (H := H13) (a := M2) (o := .lst (List.replicate (201 : Int).toNat [V.str (dash 201)]).flatten)
      generalize L2.upd H13 M2 (.lst (List.replicate (201 : Int).toNat [V.str (dash 201)]).flatten) = H14 at s14 eM2 ⊢
      refine ⟨by decide, fun M3 nM3 => ?_⟩
      have s15 := same_upd (o := .lst [.str "o"]) nM3
      have eM3 := upd_same (H := H14) (a := M3) (o := .lst [.str "o"])
      generalize L2.upd H14 M3 (.lst [.str "o"]) = H15 at s15 eM3 ⊢
      refine ⟨by decide, fun M4 nM4 => ?_⟩
      have s16 := same_upd (o := .lst [.non]) nM4
      have eM4 := upd_same (H := H15) (a := M4) (o := .lst [.non])
      generalize L2.upd H15 M4 (.lst [.non]) = H16 at s16 eM4 ⊢
      refine ⟨fits (Nat.le_of_ble_eq_true rfl), fun B1 nB1 => ?_⟩
      have s17 := same_upd (o := .lst [V.ref M1, .ref M2, .ref M3, .ref M4]) nB1
      have eB1 := upd_same (H := H16) (a := B1) (o := .lst [V.ref M1, .ref M2, .ref M3, .ref M4])
      generalize L2.upd H16 B1 (.lst [V.ref M1, .ref M2, .ref M3, .ref M4]) = H17 at s17 eB1 ⊢
      refine ⟨B0, B1, _, _, rfl, rfl, (s12.trans (s13.trans (s14.trans (s15.trans (s16.trans (s17)))))) _ _ eB0, eB1, fits (Nat.le_of_ble_eq_true rfl), fun B2 nB2 => ?_⟩
      have sz := same_upd (o := .lst ([V.non, .ref T, .str "-", .int 5, .ref D, .ref L1, .ref L2a, .ref L3, .ref L4, .ref L5, .ref L6, .ref L7] ++ [V.ref M1, .ref M2, .ref M3, .ref M4])) nB2
      have eM2' : H14 M2 = some (.lst (List.replicate 201 (.str (dash 201)))) := by rw [eM2, rep_flat] <;> rfl
      refine ⟨B2, _, rfl, (s1.trans (s2.trans (s3.trans (s4.trans (s5.trans (s6.trans (s7.trans (s8.trans (s9.trans (s10.trans (s11.trans (s12.trans (s13.trans (s14.trans (s15.trans (s16.trans (s17))))))))))))))))).trans sz, upd_same, ?_⟩
      exact sixteen (sz _ _ ((s2.trans (s3.trans (s4.trans (s5.trans (s6.trans (s7.trans (s8.trans (s9.trans (s10.trans (s11.trans (s12.trans (s13.trans (s14.trans (s15.trans (s16.trans (s17)))))))))))))))) _ _ eT)) (sz _ _ ((s3.trans (s4.trans (s5.trans (s6.trans (s7.trans (s8.trans (s9.trans (s10.trans (s11.trans (s12.trans (s13.trans (s14.trans (s15.trans (s16.trans (s17))))))))))))))) _ _ eD)) (sz _ _ ((s4.trans (s5.trans (s6.trans (s7.trans (s8.trans (s9.trans (s10.trans (s11.trans (s12.trans (s13.trans (s14.trans (s15.trans (s16.trans (s17)))))))))))))) _ _ eL1)) (sz _ _ ((s5.trans (s6.trans (s7.trans (s8.trans (s9.trans (s10.trans (s11.trans (s12.trans (s13.trans (s14.trans (s15.trans (s16.trans (s17))))))))))))) _ _ eL2a)) (sz _ _ ((s6.trans (s7.trans (s8.trans (s9.trans (s10.trans (s11.trans (s12.trans (s13.trans (s14.trans (s15.trans (s16.trans (s17)))))))))))) _ _ eL3)) (sz _ _ ((s7.trans (s8.trans (s9.trans (s10.trans (s11.trans (s12.trans (s13.trans (s14.trans (s15.trans (s16.trans (s17))))))))))) _ _ eL4)) (sz _ _ ((s8.trans (s9.trans (s10.trans (s11.trans (s12.trans (s13.trans (s14.trans (s15.trans (s16.trans (s17)))))))))) _ _ eL5)) (sz _ _ ((s9.trans (s10.trans (s11.trans (s12.trans (s13.trans (s14.trans (s15.trans (s16.trans (s17))))))))) _ _ eI)) (sz _ _ ((s10.trans (s11.trans (s12.trans (s13.trans (s14.trans (s15.trans (s16.trans (s17)))))))) _ _ eL6)) (sz _ _ ((s11.trans (s12.trans (s13.trans (s14.trans (s15.trans (s16.trans (s17))))))) _ _ eL7)) (sz _ _ ((s13.trans (s14.trans (s15.trans (s16.trans (s17))))) _ _ eM1)) (sz _ _ ((s15.trans (s16.trans (s17))) _ _ eM2')) (sz _ _ ((s16.trans (s17)) _ _ eM3)) (sz _ _ ((s17) _ _ eM4))
    clear nB0 eB0 s11 H11 nL7 eL7 s10 nL6 eL6 s9
    rintro σ H1 ⟨B, xs, rfl, s1, eB, h16⟩
    refine ⟨_, rfl, _, 20, rfl, rfl, (show (0 : Int) < 20 by decide), _, 16, rfl, rfl, _, rfl, ite2 (fun hlt => ?_) (fun _ => ?_)⟩
    · have hlt := of_decide_eq_true hlt
      have h0 : 0 ≤ a % 20 := Int.emod_nonneg _ (by decide)
      obtain ⟨v, hv, hbad⟩ := h16 (a % 20).toNat (by omega)
      have e : a % 20 = (((a % 20).toNat : Nat) : Int) := by omega
      refine ⟨_, rfl, _, rfl, _, 20, rfl, rfl, (show (0 : Int) < 20 by decide), B, xs, _, v, rfl, rfl, SqL.of eB, by rw [e]; exact atI_nat hv, ?_⟩
      exact q H1 v s1 hbad
    obtain ⟨n, hn⟩ : ∃ n : Nat, (n : Int) = 2 + b % 5 := ⟨(2 + b % 5).toNat, by omega⟩
    have hn2 : 2 ≤ n := by omega
    have hn7 : n < 7 := by omega
    refine ⟨_, rfl, _, 5, rfl, rfl, (show (0 : Int) < 5 by decide), _, _, rfl, rfl, ?_⟩
    refine ⟨_, rfl, 2 + b % 5, rfl, by omega, by omega, fun R nR => lc_range (fun i H2 => Same H1 H2 ∧ H2 R = some (.lst (((web n fun _ _ => false).take i).map V.str))) ⟨same_upd nR, upd_same⟩ ?_ ?_⟩
    · rintro i H2 hi ⟨s2, e2⟩
      have hi : i < n := by omega
      refine ⟨rfl, _, rfl, n, rfl, by rw [hn], by omega, _, e2, ?_, fun c o eb => ?_, ?_⟩
      · rw [List.length_map, List.length_take, web_len]
        exact small1000 (by omega)
      · rw [upd_ne (ne_of_none eb nR)]
        exact s2 _ _ eb
      · have et : ((web n fun _ _ => false).take (i + 1)).map V.str = ((web n fun _ _ => false).take i).map V.str ++ [V.str (dash n)] := by
          rw [List.take_add_one, web_at hi, List.map_append] <;> rfl
        rw [upd_same, et]
    rintro H2 ⟨s2, e2⟩
    have en : (2 + b % 5).toNat = n := by omega
    rw [en, List.take_of_length_le (by rw [web_len]; exact Nat.le_refl _)] at e2
    have nRH : H R = none := s1.free nR
    have hpos : (0 : Int) < 2 + b % 5 := by omega
    refine ⟨_, rfl, _, 20, rfl, rfl, ⟨by decide, by decide⟩, _, rfl, _, _, rfl, rfl, hpos, ?_⟩
    refine ⟨by decide, fun S nS => ?_⟩
    obtain ⟨sg', hsg, hs4⟩ : ∃ s : Str, atI [V.str (Str.ofString "x"), V.str (Str.ofString " "), V.str (Str.ofString ""), V.str (Str.ofString "xx")] (a / 120 % 4) = some (.str s) ∧ (s = Str.ofString "x" ∨ s = Str.ofString " " ∨ s = Str.ofString "" ∨ s = Str.ofString "xx") := by
      have h : a / 120 % 4 = 0 ∨ a / 120 % 4 = 1 ∨ a / 120 % 4 = 2 ∨ a / 120 % 4 = 3 := by omega
      rcases h with e | e | e | e <;> rw [e]
      · exact ⟨_, rfl, .inl rfl⟩
      · exact ⟨_, rfl, .inr (.inl rfl)⟩
      · exact ⟨_, rfl, .inr (.inr (.inl rfl))⟩
      · exact ⟨_, rfl, .inr (.inr (.inr rfl))⟩
    refine ⟨_, rfl, _, 120, rfl, rfl, ⟨by decide, by decide⟩, _, 4, rfl, rfl, (show (0 : Int) < 4 by decide), S, _, _, .str sg', rfl, rfl, SqL.of upd_same, hsg, ?_⟩
    have s3 := s2.trans (same_upd (o := .lst [V.str (Str.ofString "x"), V.str (Str.ofString " "), V.str (Str.ofString ""), V.str (Str.ofString "xx")]) nS)
    have e3 : L2.upd H2 S (.lst [V.str (Str.ofString "x"), V.str (Str.ofString " "), V.str (Str.ofString ""), V.str (Str.ofString "xx")]) R = some (.lst ((web n fun _ _ => false).map V.str)) := by
      rw [upd_ne (ne_of_none e2 nS)]
      exact e2
    have a0 : 0 ≤ a / 20 % (2 + b % 5) := Int.emod_nonneg _ (by omega)
    have a1 : a / 20 % (2 + b % 5) < 2 + b % 5 := Int.emod_lt_of_pos _ hpos
    obtain ⟨at_, hat⟩ : ∃ m : Nat, (m : Int) = a / 20 % (2 + b % 5) := ⟨(a / 20 % (2 + b % 5)).toNat, by omega⟩
    have hpl : ((((at_ + 1) % n : Nat)) : Int) = (a / 20 % (2 + b % 5) + 1) % (2 + b % 5) := by
      rw [← hat, ← hn]
      rfl
    refine ⟨?_, ?_⟩
    · refine ⟨_, rfl, _, _, rfl, rfl, _, rfl, _, _, rfl, rfl, hpos, ?_⟩
      refine ⟨_, _, _, n, at_, (at_ + 1) % n, R, sg', by rw [hpl, hat, hn] <;> rfl, s1.trans s3, nRH, e3, hn2, hn7, by omega, rfl, hs4⟩
    clear hpl hat a1 a0 e3 s3 hs4 hsg
    rintro σ H3 ⟨y0, y1, y2, n, at_, p, R, s, rfl, s3, nR, eR, h2, h6, ha, hp, hs⟩
    have hpn : p < n := by rw [hp]; exact Nat.mod_lt _ (by omega)
    have hsl : s.length ≤ 2 := by rcases hs with rfl | rfl | rfl | rfl <;> decide
    refine ⟨_, rfl, p, rfl, rfl, by omega, _, rfl, _, s, rfl, rfl, ?_, _, rfl, _, rfl, _, _, rfl, rfl, _, _, rfl, rfl, n - p - 1, rfl, ?_, by omega, _, _, rfl, rfl, ?_, _, rfl, _, rfl, R, _, _, at_, rfl, rfl, eR, ?_, _, rfl, ?_⟩
    · rw [row_len]; exact fits (by omega)
    · show V.int _ = V.int _
      congr 1
      omega
    · rw [Str.length_append, row_len, row_len]; exact fits (by omega)
    · rw [List.length_map, web_len]
      unfold ixN
      rw [if_pos (by omega), if_pos (by omega)]
      simp
    · refine q _ _ (fun c o eb => ?_) (changed h2 h6 ha hp hs (SqL.of upd_same))
      rw [upd_ne (ne_of_none eb nR)]
      exact s3 _ _ eb
end
end AX
set_option Elab.async false
set_option linter.all false
set_option maxRecDepth 100000
set_option maxHeartbeats 8000000
namespace AX
open PySem PySem.Spec PyProof.Rows L2 AK
theorem suite_ex {X : Cx} {sts : List Stmt} {Pz : Addr → Prop} {t : Addr → TS} (h : ∀ Dc, Pz Dc → PSs X sts (t Dc)) : PSs X sts (fun D σ H => ∃ Dc, Pz Dc ∧ t Dc D σ H) :=
  ⟨fun pins s σ H D I ⟨Dc, hp, hq⟩ => (h Dc hp).run pins s σ H D I hq⟩
/-- isinstance(error, c), the written part by name -/
theorem pe_isE {X : Cx} {a D : Addr} {oe : Obj} {pn : List (Addr × Obj)} {e : Expr} {es : List Expr} {t : TA} {p pos : Pos} (K : PySem.W.Frag) (hK : X.K = K) (C : ExcC K D) (hz : Zc (.ref D) none oe) (hf : ∃ vs, oe.data = .fields vs) (hg : Gl (X.suite a ((a, oe) :: pn)) "isinstance") (hm : X.mg "isinstance" = none) (ha : PA (X.suite a ((a, oe) :: pn)) (e :: es) t)
    (he : starEach (e :: es) X.env = (false, eval e X.env) :: starEach es X.env := by rfl) (hpl : (backTo pos (starEach es X.env)).any (·.1) = false := by rfl) : PE (X.suite a ((a, oe) :: pn)) (.Call (.Name "isinstance" p) (e :: es) [] pos) (tCB (rIsE K D a) t) := by
  subst hK
  exact pe_callB (call_isE C hz hf) hg hm (by decide +kernel) ha (he := he) (hpl := hpl)
theorem pe_ixK {X : Cx} {a b : Expr} {ta tb : TE} {pos : Pos} (K : PySem.W.Frag) (hK : X.K = K) (ha : PE X a ta) (hb : PE X b tb) (hs : PlainIx b) : PE X (.Subscript a b pos) (tOp (rIxL K) ta tb) := by
  subst hK
  exact pe_ix ix_list ha hb hs
theorem pg_tupK {X : Cx} {es : List Expr} {k : Nat} {t : TGs} {n : Nat} {pos : Pos} (K : PySem.W.Frag) (hK : X.K = K) (hc : X.calm = true) (h : PGs X es t) (hn : (assignEach es X.env).length = n := by rfl) (hst : (assignEach es X.env).findIdx? (·.1) = none := by rfl) : PG X (.Tuple es k pos) (gTup K n t) := by
  subst hK
  exact pg_tup hc h hn hst
/-- the classes of errors among one another -/
structure ES (K : PySem.W.Frag) (mg : Str → Option Value) (CW CC CT CE : Addr) : Prop where
  gW : mg "BadWeb" = some (.ref CW)
  gC : mg "BadCount" = some (.ref CC)
  gT : mg "TooFew" = some (.ref CT)
  gE : mg "WebError" = some (.ref CE)
  ve : mg "ValueError" = none
  xW : ExcC K CW
  xC : ExcC K CC
  xT : ExcC K CT
  mW : PySem.W.exmOne K (.ref CW) (.ref CE) = some true
  mC : PySem.W.exmOne K (.ref CC) (.ref CE) = some true
  mT : PySem.W.exmOne K (.ref CT) (.ref CE) = some true
  ww : PySem.W.kitOne K (.ref CW) (.ref CW) = some true
  wc : PySem.W.kitOne K (.ref CW) (.ref CC) = some false
  wt : PySem.W.kitOne K (.ref CW) (.ref CT) = some false
  wv : PySem.W.kitOne K (.ref CW) (.type "ValueError") = some true
  cw : PySem.W.kitOne K (.ref CC) (.ref CW) = some false
  cc : PySem.W.kitOne K (.ref CC) (.ref CC) = some true
  ct : PySem.W.kitOne K (.ref CC) (.ref CT) = some false
  cv : PySem.W.kitOne K (.ref CC) (.type "ValueError") = some true
  tw : PySem.W.kitOne K (.ref CT) (.ref CW) = some false
  tc : PySem.W.kitOne K (.ref CT) (.ref CC) = some false
  tt : PySem.W.kitOne K (.ref CT) (.ref CT) = some true
  tv : PySem.W.kitOne K (.ref CT) (.type "ValueError") = some true
theorem pair_big : ∀ p ∈ [((2 : Int), (200 : Int)), (3, 40), (10, 10), (41, 2), (200, 200)], 40 ≤ PySem.W.mcComb (p.1 + p.2 - 2) (p.1 - 1) := by decide +kernel
section
variable {P : Program} {w : World} {K : PySem.W.Frag} {mg : Str → Option Value} {base : Heap}
abbrev nTold : List Str := ["_law_kind", "_law_which", "_law_more", "_law_strange", "_law_door", "_law_bad", "_law_size", "_law_known", "_law_unknown", "error", "_law_told_here", "_law_one"]
theorem scTold : FnScope nTold ["_law_kind", "_law_which", "_law_more"] (defScope sTold) := ⟨rfl, rfl, rfl, by decide +kernel, rfl, by decide +kernel, by decide +kernel⟩
def spTold (K : PySem.W.Frag) : Sp := fun vs H Q _ => ∃ k a m : Int, vs = [.int k, .int a, .int m] ∧ 0 ≤ k ∧ k < 4 ∧ 0 ≤ a ∧ 0 ≤ m ∧ m < 1000 ∧ ∀ H' p, Same H H' → H' p = some (.lst [.bl (decide (k < 2)), .bl (decide (k = 2)), .bl (decide (k = 3)), .bl true]) → Q (.ref p) H'
/-- strange counts: each of them refused, as a size from 1 and as one from 0 -/
def Neg (K : PySem.W.Frag) (H : Hp) (x : V) : Prop := NotWhole K H x ∨ ∃ i : Int, x = .int i ∧ i < 0
theorem strange {H : Hp} {S1 S2 S3 : Addr} {m y z : Int} {Pz : V → Prop} (e1 : H S1 = some (.lst [.int 3])) (e2 : H S2 = some (.tup [.int 3])) (e3 : H S3 = some (.dK [])) (hm : 0 ≤ m) (hn : ∀ v, Neg K H v → Pz v) (hy : Pz (.int y)) (hz : Pz (.int z)) :
    ∀ j : Nat, j < 11 → ∃ v, ([V.non, .str (Str.ofString "3"), .bl true, .bl false, .int (-1 - m), .ref S1, .ref S2, .ref S3, .int (-1)] ++ [V.int y, .int z])[j]? = some v ∧ Pz v := by
  intro j hj
  have hc : j = 0 ∨ j = 1 ∨ j = 2 ∨ j = 3 ∨ j = 4 ∨ j = 5 ∨ j = 6 ∨ j = 7 ∨ j = 8 ∨ j = 9 ∨ j = 10 := by omega
  rcases hc with rfl | rfl | rfl | rfl | rfl | rfl | rfl | rfl | rfl | rfl | rfl
  · exact ⟨_, rfl, hn _ (.inl (.inr ⟨"NoneType", .base .non, by decide +kernel⟩))⟩
  · exact ⟨_, rfl, hn _ (.inl (.inr ⟨"str", .base (.str _), by decide +kernel⟩))⟩
  · exact ⟨_, rfl, hn _ (.inl (.inl ⟨true, rfl⟩))⟩
  · exact ⟨_, rfl, hn _ (.inl (.inl ⟨false, rfl⟩))⟩
  · exact ⟨_, rfl, hn _ (.inr ⟨-1 - m, rfl, by omega⟩)⟩
  · exact ⟨_, rfl, hn _ (.inl (.inr ⟨"list", .base (.lst e1), by decide +kernel⟩))⟩
  · exact ⟨_, rfl, hn _ (.inl (.inr ⟨"tuple", .base (.tup e2), by decide +kernel⟩))⟩
  · exact ⟨_, rfl, hn _ (.inl (.inr ⟨"dict", .base (.dK e3), by decide +kernel⟩))⟩
  · exact ⟨_, rfl, hn _ (.inr ⟨-1, rfl, by decide⟩)⟩
  · exact ⟨_, rfl, hy⟩
  · exact ⟨_, rfl, hz⟩
theorem Neg.c1 {H : Hp} {x : V} (h : Neg K H x) : CntBad K H x 1 := h.elim .inl fun ⟨i, e, hi⟩ => .inr ⟨i, e, .inl (by omega)⟩
theorem Neg.c0 {H : Hp} {x : V} (h : Neg K H x) : CntBad K H x 0 := h.elim .inl fun ⟨i, e, hi⟩ => .inr ⟨i, e, .inl hi⟩
theorem ok_told {f f1 f2 f3 f4 CW CC CT CK CE : Addr} {fd d1 d2 d3 d4 : FuncData} (F : Fun K "_law_told" "_law_told" sTold f fd) (B : Bl mg) (T : ES K mg CW CC CT CE)
    (G1 : FnOk P w K mg base (L2.CX P w) 6 f1 d1 ["_law_door", "_law_web"] (spWithWeb K CW)) (c1 : Cal K mg "_law_with_web" f1 d1 ["_law_door", "_law_web"]) (G2 : FnOk P w K mg base CX0 1 f2 d2 ["_law_which", "_law_more"] (spBadWeb K)) (c2 : Cal K mg "_law_bad_web" f2 d2 ["_law_which", "_law_more"])
    (G3 : FnOk P w K mg base (L2.CX P w) 5 f3 d3 ["_law_door", "_law_count"] (spWithCount K CC)) (c3 : Cal K mg "_law_with_count" f3 d3 ["_law_door", "_law_count"]) (G4 : FnOk P w K mg base (L2.CX P w) 4 f4 d4 ["web", "known", "unknown"] (spFound K CW CC CT CK)) (c4 : Cal K mg "found" f4 d4 ["web", "known", "unknown"]) :
    FnOk P w K mg base CX0 7 f fd ["_law_kind", "_law_which", "_law_more"] (spTold K) := by
  refine F.ok scTold (fun vs H Q E h => ?_) (fun cdv A outer s H vs Q E hr h => ?_)
  · obtain ⟨k, a, m, rfl, _⟩ := h
    rfl
  · obtain ⟨k, a, m, rfl, k0, k4, a0, m0, m1, q⟩ := h
    have r1 := hr.mono (j := 1) (by decide)
    have r4 := hr.mono (j := 4) (by decide)
    have r5 := hr.mono (j := 5) (by decide)
    refine ⟨_, pss_cons (ps_set (i := 3) scTold.nd rfl (.inl rfl) (pe_lst (pa_cons pe_non (pa_cons pe_str (pa_cons pe_bl (pa_cons pe_bl (pa_cons (pe_op op_sub (pe_un un_neg pe_int) (pv 2)) (pa_cons (pe_lst (pa_cons pe_int pa_nil)) (pa_cons (pe_tup (pa_cons pe_int pa_nil)) (pa_cons pe_dnewK (pa_cons (pe_un un_neg pe_int) pa_nil)))))))))))
      (pss_cons (ps_try_as (i := 9) rfl rfl scTold.nd rfl rfl ⟨rfl, by decide, .inl T.gE⟩ takes0 (fun W pn xe tk _ =>
          pss_one (ps_if (pt_cmpR op_lt (pv 0) pe_int (nomark _)) (pss_one (ps_expr (pe_callS G1 hr (by rfl) c1.g c1.kp c1.b (fun σ => passAt tk σ) (pa_cons (pe_op op_mod (pe_op op_fdiv (pv 1) pe_int) pe_int) (pa_cons (pe_call G2 r1 (by rfl) c2.g c2.kp c2.b .nil pass0 (pa_cons (pv 1) (pa_cons (pv 2) pa_nil))) pa_nil)))))
          (pss_one (ps_if (pt_cmpR op_eq (pv 0) pe_int (nomark _))
            (pss_cons (ps_set (i := 4) scTold.nd rfl (.inl rfl) (pe_op op_mod (pe_op op_fdiv (pv 1) pe_int) pe_int))
            (pss_cons (ps_set (i := 5) scTold.nd rfl (.inl rfl) (pe_op op_cat (pv 3) (pe_ifExp (pt_cmpR op_lt (pv 4) pe_int (nomark _)) (pe_lst (pa_cons pe_int (pa_cons (pe_op op_add pe_int (pv 2)) pa_nil))) (pe_lst (pa_cons (pe_un un_neg pe_int) (pa_cons (pe_op op_sub (pe_un un_neg pe_int) (pv 2)) pa_nil))))))
            (pss_one (ps_expr (pe_callS G3 r5 (by rfl) c3.g c3.kp c3.b (fun σ => passAt tk σ) (pa_cons (pv 4) (pa_cons (pe_ixK K rfl (pv 5) (pe_op op_mod (pv 1) pe_int) (fun _ _ => rfl)) pa_nil)))))))
            (pss_cons (ps_set (i := 6) scTold.nd rfl (.inr rfl) (pe_op op_mod (pv 2) pe_int))
            (pss_cons (ps_asg (pe_ixK K rfl (pe_lst (pa_cons (pe_tup (pa_cons pe_int (pa_cons pe_int pa_nil))) (pa_cons (pe_tup (pa_cons pe_int (pa_cons pe_int pa_nil))) (pa_cons (pe_tup (pa_cons pe_int (pa_cons pe_int pa_nil))) (pa_cons (pe_tup (pa_cons pe_int (pa_cons pe_int pa_nil))) (pa_cons (pe_tup (pa_cons pe_int (pa_cons pe_int pa_nil))) pa_nil)))))) (pe_op op_mod (pv 1) pe_int) (fun _ _ => rfl))
              (pg_tupK (n := 2) K rfl rfl (pgs_cons (pg_name (i := 7) scTold.nd rfl (.inl rfl) (.inl rfl)) (pgs_cons (pg_name (i := 8) scTold.nd rfl (.inl rfl) (.inl rfl)) pgs_nil))))
            (pss_one (ps_expr (pe_callS G4 r4 (by rfl) c4.g c4.kp c4.b (fun σ => passAt tk σ) (pa_cons (pe_lc (own := [("_law_one", 11)]) (g := gName 11) (tt := tYes) rfl scTold.nd (pi_range1 (by rfl) B.range (pa_cons (pv 6) pa_nil)) (blkOk_by (N := nTold) (sc := defScope sTold) (by decide +kernel)) (fun _ _ _ _ _ => pg_name (i := 11) scTold.nd rfl (Or.inl rfl)) (fun _ _ _ _ _ => pts_nil) (fun _ _ _ _ _ => pe_op op_dash pe_str (pv 6))) (pa_cons (pv 7) (pa_cons (pv 8) pa_nil))))))))))))
        (fun a oe cls d pn hz hf => suite_ex (Pz := fun Dc => cls = .ref Dc ∧ d = none ∧ ExcC K Dc) fun Dc hp =>
          have hz' : Zc (.ref Dc) none oe := by rw [← hp.1, ← hp.2.1]; exact hz
          pss_cons (ps_set (i := 10) scTold.nd rfl (.inl rfl) (pe_lst (pa_cons (pe_isE K rfl hp.2.2 hz' hf (by rfl) B.isi (pa_cons (pv 9) (pa_cons (pe_glob (v := .ref CW) rfl T.gW rfl) pa_nil))) (pa_cons (pe_isE K rfl hp.2.2 hz' hf (by rfl) B.isi (pa_cons (pv 9) (pa_cons (pe_glob (v := .ref CC) rfl T.gC rfl) pa_nil))) (pa_cons (pe_isE K rfl hp.2.2 hz' hf (by rfl) B.isi (pa_cons (pv 9) (pa_cons (pe_glob (v := .ref CT) rfl T.gT rfl) pa_nil))) pa_nil)))))
          (pss_one (ps_ret (pe_op op_cat (pv 10) (pe_lst (pa_cons (pe_isE K rfl hp.2.2 hz' hf (by rfl) B.isi (pa_cons (pv 9) (pa_cons (pe_bltn (v := .ty "ValueError") (u := .type "ValueError") (by rfl) T.ve (by decide +kernel) rfl) pa_nil))) pa_nil)))))))
      (pss_one (ps_ret (pe_lst pa_nil)))), ?_⟩
    refine ⟨1, rfl, _, rfl, _, _, rfl, rfl, by decide, fun S1 nS1 => ?_⟩
    have sG1 := same_upd (o := .lst [.int 3]) nS1
    have eS1 := upd_same (H := H) (a := S1) (o := .lst [.int 3])
    generalize L2.upd H S1 (.lst [.int 3]) = G1 at sG1 eS1 ⊢
    refine ⟨by decide, fun S2 nS2 => ?_⟩
    have sG2 := same_upd (o := .tup [.int 3]) nS2
    have eS2 := upd_same (H := G1) (a := S2) (o := .tup [.int 3])
    generalize L2.upd G1 S2 (.tup [.int 3]) = G2 at sG2 eS2 ⊢
    intro S3 nS3
    have sG3 := same_upd (o := .dK []) nS3
    have eS3 := upd_same (H := G2) (a := S3) (o := .dK [])
    generalize L2.upd G2 S3 (.dK []) = G3 at sG3 eS3 ⊢
    refine ⟨1, rfl, fits (Nat.le_of_ble_eq_true rfl), fun S nS => ?_⟩
    have s4 := (sG1.trans (sG2.trans (sG3))).trans (same_upd (o := .lst [V.non, .str (Str.ofString "3"), .bl true, .bl false, .int (-1 - m), .ref S1, .ref S2, .ref S3, .int (-1)]) nS)
    have eS := upd_same (H := G3) (a := S) (o := .lst [V.non, .str (Str.ofString "3"), .bl true, .bl false, .int (-1 - m), .ref S1, .ref S2, .ref S3, .int (-1)])
    have fS1 := same_upd (o := .lst [V.non, .str (Str.ofString "3"), .bl true, .bl false, .int (-1 - m), .ref S1, .ref S2, .ref S3, .int (-1)]) nS _ _ (((sG2.trans (sG3)) _ _ eS1))
    have fS2 := same_upd (o := .lst [V.non, .str (Str.ofString "3"), .bl true, .bl false, .int (-1 - m), .ref S1, .ref S2, .ref S3, .int (-1)]) nS _ _ (((sG3) _ _ eS2))
    have fS3 := same_upd (o := .lst [V.non, .str (Str.ofString "3"), .bl true, .bl false, .int (-1 - m), .ref S1, .ref S2, .ref S3, .int (-1)]) nS _ _ (eS3)
    clear sG1 sG2 sG3 eS1 eS2 eS3
    refine ⟨_, rfl, k, 2, rfl, rfl, _, rfl, ite2 (fun hk => ?_) (fun hk => ?_)⟩
    · have hk := of_decide_eq_true hk
      have hd1 : decide (k < 2) = true := decide_eq_true hk
      have hd2 : decide (k = 2) = false := decide_eq_false (by omega)
      have hd3 : decide (k = 3) = false := decide_eq_false (by omega)
      refine ⟨_, rfl, _, 20, rfl, rfl, ⟨by decide, by decide⟩, _, 8, rfl, rfl, (show (0 : Int) < 8 by decide), _, rfl, _, rfl, a, m, rfl, a0, m0, fun H5 v s5 hb => ?_⟩
      refine ⟨_, v, rfl, hb, fun H6 s6 => ?_⟩
      refine ⟨true, T.mW, fun _ er ner => ⟨CW, ⟨rfl, rfl, T.xW⟩, ?_⟩, fun z => nomatch z⟩
      refine ⟨_, rfl, .ref CW, .ref CW, true, rfl, (fun _ h => h), T.ww, _, rfl, .ref CC, .ref CC, false, rfl, (fun _ h => h), T.wc, _, rfl, .ref CT, .ref CT, false, rfl, (fun _ h => h), T.wt, fits (Nat.le_of_ble_eq_true rfl), fun p1 n1 => ?_⟩
      refine ⟨_, rfl, _, rfl, .ty "ValueError", .type "ValueError", true, rfl, (fun _ h => h), T.wv, fits (Nat.le_of_ble_eq_true rfl), fun p2 n2 => ?_⟩
      refine ⟨p1, p2, _, _, rfl, rfl, (by rw [upd_ne (ne_of_none upd_same n2)]; exact upd_same), upd_same, fits (Nat.le_of_ble_eq_true rfl), fun p3 n3 => ?_⟩
      exact q _ p3 (((s4.trans s5).trans s6).trans ((same_upd n1).trans ((same_upd n2).trans (same_upd n3)))) (by rw [upd_same, hd1, hd2, hd3] <;> rfl)
    have hk : ¬ k < 2 := fun z => hk (decide_eq_true z)
    have hd1 : decide (k < 2) = false := decide_eq_false hk
    refine ⟨_, rfl, rfl, _, rfl, ite2 (fun hk2 => ?_) (fun hk2 => ?_)⟩
    · have hk2 : k = 2 := by have := of_decide_eq_true hk2; injection this
      have hd2 : decide (k = 2) = true := decide_eq_true hk2
      have hd3 : decide (k = 3) = false := decide_eq_false (by omega)
      have j0 : 0 ≤ a % 11 := Int.emod_nonneg _ (by decide)
      have j1 : a % 11 < 11 := Int.emod_lt_of_pos _ (by decide)
      have ej : a % 11 = (((a % 11).toNat : Nat) : Int) := by omega
      have d0 : 0 ≤ a / 11 % 6 := Int.emod_nonneg _ (by decide)
      have d1 : a / 11 % 6 < 6 := Int.emod_lt_of_pos _ (by decide)
      refine ⟨_, rfl, _, 11, rfl, rfl, ⟨by decide, by decide⟩, _, 6, rfl, rfl, (show (0 : Int) < 6 by decide), ?_⟩
      refine ⟨_, rfl, _, rfl, _, 4, rfl, rfl, _, rfl, ite2 (fun hd => ?_) (fun hd => ?_)⟩
      · refine ⟨_, rfl, _, _, rfl, rfl, fits (Nat.le_of_ble_eq_true rfl), fun L nL => ?_⟩
        have s5 := same_upd (o := .lst [V.int 0, .int (201 + m)]) nL
        have eS5 := s5 _ _ eS
        have e5 : _ := upd_same (H := L2.upd G3 S (.lst [V.non, .str (Str.ofString "3"), .bl true, .bl false, .int (-1 - m), .ref S1, .ref S2, .ref S3, .int (-1)])) (a := L) (o := .lst [V.int 0, .int (201 + m)])
        refine ⟨S, L, _, _, rfl, rfl, eS5, e5, fits (Nat.le_of_ble_eq_true rfl), fun Bd nB => ?_⟩
        have s6 := same_upd (o := .lst ([V.non, .str (Str.ofString "3"), .bl true, .bl false, .int (-1 - m), .ref S1, .ref S2, .ref S3, .int (-1)] ++ [V.int 0, .int (201 + m)])) nB
        have hd := of_decide_eq_true hd
        have hn : ∀ v, Neg K (L2.upd (L2.upd (L2.upd G3 S (.lst [V.non, .str (Str.ofString "3"), .bl true, .bl false, .int (-1 - m), .ref S1, .ref S2, .ref S3, .int (-1)])) L (.lst [V.int 0, .int (201 + m)])) Bd (.lst ([V.non, .str (Str.ofString "3"), .bl true, .bl false, .int (-1 - m), .ref S1, .ref S2, .ref S3, .int (-1)] ++ [V.int 0, .int (201 + m)]))) v → (fun v => (a / 11 % 6 < 4 → CntBad K (L2.upd (L2.upd (L2.upd G3 S (.lst [V.non, .str (Str.ofString "3"), .bl true, .bl false, .int (-1 - m), .ref S1, .ref S2, .ref S3, .int (-1)])) L (.lst [V.int 0, .int (201 + m)])) Bd (.lst ([V.non, .str (Str.ofString "3"), .bl true, .bl false, .int (-1 - m), .ref S1, .ref S2, .ref S3, .int (-1)] ++ [V.int 0, .int (201 + m)]))) v 1) ∧ (a / 11 % 6 = 4 → Neg K (L2.upd (L2.upd (L2.upd G3 S (.lst [V.non, .str (Str.ofString "3"), .bl true, .bl false, .int (-1 - m), .ref S1, .ref S2, .ref S3, .int (-1)])) L (.lst [V.int 0, .int (201 + m)])) Bd (.lst ([V.non, .str (Str.ofString "3"), .bl true, .bl false, .int (-1 - m), .ref S1, .ref S2, .ref S3, .int (-1)] ++ [V.int 0, .int (201 + m)]))) v) ∧ (4 < a / 11 % 6 → CntBad K (L2.upd (L2.upd (L2.upd G3 S (.lst [V.non, .str (Str.ofString "3"), .bl true, .bl false, .int (-1 - m), .ref S1, .ref S2, .ref S3, .int (-1)])) L (.lst [V.int 0, .int (201 + m)])) Bd (.lst ([V.non, .str (Str.ofString "3"), .bl true, .bl false, .int (-1 - m), .ref S1, .ref S2, .ref S3, .int (-1)] ++ [V.int 0, .int (201 + m)]))) v 0)) v := fun v h => ⟨fun _ => h.c1, fun _ => h, fun _ => h.c0⟩
        obtain ⟨v, hv, hP⟩ := strange (s6 _ _ (s5 _ _ fS1)) (s6 _ _ (s5 _ _ fS2)) (s6 _ _ (s5 _ _ fS3)) m0 hn ⟨fun _ => .inr ⟨0, rfl, .inl (by decide)⟩, fun z => by omega, fun z => by omega⟩ ⟨fun _ => .inr ⟨201 + m, rfl, .inr (by omega)⟩, fun z => by omega, fun z => by omega⟩ (a % 11).toNat (by omega)
        refine ⟨_, rfl, _, rfl, _, rfl, _, 11, rfl, rfl, (show (0 : Int) < 11 by decide), Bd, _, _, v, rfl, rfl, SqL.of upd_same, by rw [ej]; exact atI_nat hv, _, v, rfl, hP.1, hP.2.1, hP.2.2, fun H7 s7 => ?_⟩
        refine ⟨true, T.mC, fun _ er ner => ⟨CC, ⟨rfl, rfl, T.xC⟩, ?_⟩, fun z => nomatch z⟩
        refine ⟨_, rfl, .ref CW, .ref CW, false, rfl, (fun _ h => h), T.cw, _, rfl, .ref CC, .ref CC, true, rfl, (fun _ h => h), T.cc, _, rfl, .ref CT, .ref CT, false, rfl, (fun _ h => h), T.ct, fits (Nat.le_of_ble_eq_true rfl), fun p1 n1 => ?_⟩
        refine ⟨_, rfl, _, rfl, .ty "ValueError", .type "ValueError", true, rfl, (fun _ h => h), T.cv, fits (Nat.le_of_ble_eq_true rfl), fun p2 n2 => ?_⟩
        refine ⟨p1, p2, _, _, rfl, rfl, (by rw [upd_ne (ne_of_none upd_same n2)]; exact upd_same), upd_same, fits (Nat.le_of_ble_eq_true rfl), fun p3 n3 => ?_⟩
        exact q _ p3 ((((s4.trans s5).trans s6).trans s7).trans ((same_upd n1).trans ((same_upd n2).trans (same_upd n3)))) (by rw [upd_same, hd1, hd2, hd3] <;> rfl)
      · refine ⟨7, rfl, 2, rfl, _, rfl, _, _, rfl, rfl, fits (Nat.le_of_ble_eq_true rfl), fun L nL => ?_⟩
        have s5 := same_upd (o := .lst [V.int (-7), .int (-2 - m)]) nL
        have eS5 := s5 _ _ eS
        have e5 : _ := upd_same (H := L2.upd G3 S (.lst [V.non, .str (Str.ofString "3"), .bl true, .bl false, .int (-1 - m), .ref S1, .ref S2, .ref S3, .int (-1)])) (a := L) (o := .lst [V.int (-7), .int (-2 - m)])
        refine ⟨S, L, _, _, rfl, rfl, eS5, e5, fits (Nat.le_of_ble_eq_true rfl), fun Bd nB => ?_⟩
        have s6 := same_upd (o := .lst ([V.non, .str (Str.ofString "3"), .bl true, .bl false, .int (-1 - m), .ref S1, .ref S2, .ref S3, .int (-1)] ++ [V.int (-7), .int (-2 - m)])) nB
        have hd : ¬ a / 11 % 6 < 4 := fun z => hd (decide_eq_true z)
        have hn : ∀ v, Neg K (L2.upd (L2.upd (L2.upd G3 S (.lst [V.non, .str (Str.ofString "3"), .bl true, .bl false, .int (-1 - m), .ref S1, .ref S2, .ref S3, .int (-1)])) L (.lst [V.int (-7), .int (-2 - m)])) Bd (.lst ([V.non, .str (Str.ofString "3"), .bl true, .bl false, .int (-1 - m), .ref S1, .ref S2, .ref S3, .int (-1)] ++ [V.int (-7), .int (-2 - m)]))) v → (fun v => (a / 11 % 6 < 4 → CntBad K (L2.upd (L2.upd (L2.upd G3 S (.lst [V.non, .str (Str.ofString "3"), .bl true, .bl false, .int (-1 - m), .ref S1, .ref S2, .ref S3, .int (-1)])) L (.lst [V.int (-7), .int (-2 - m)])) Bd (.lst ([V.non, .str (Str.ofString "3"), .bl true, .bl false, .int (-1 - m), .ref S1, .ref S2, .ref S3, .int (-1)] ++ [V.int (-7), .int (-2 - m)]))) v 1) ∧ (a / 11 % 6 = 4 → Neg K (L2.upd (L2.upd (L2.upd G3 S (.lst [V.non, .str (Str.ofString "3"), .bl true, .bl false, .int (-1 - m), .ref S1, .ref S2, .ref S3, .int (-1)])) L (.lst [V.int (-7), .int (-2 - m)])) Bd (.lst ([V.non, .str (Str.ofString "3"), .bl true, .bl false, .int (-1 - m), .ref S1, .ref S2, .ref S3, .int (-1)] ++ [V.int (-7), .int (-2 - m)]))) v) ∧ (4 < a / 11 % 6 → CntBad K (L2.upd (L2.upd (L2.upd G3 S (.lst [V.non, .str (Str.ofString "3"), .bl true, .bl false, .int (-1 - m), .ref S1, .ref S2, .ref S3, .int (-1)])) L (.lst [V.int (-7), .int (-2 - m)])) Bd (.lst ([V.non, .str (Str.ofString "3"), .bl true, .bl false, .int (-1 - m), .ref S1, .ref S2, .ref S3, .int (-1)] ++ [V.int (-7), .int (-2 - m)]))) v 0)) v := fun v h => ⟨fun _ => h.c1, fun _ => h, fun _ => h.c0⟩
        obtain ⟨v, hv, hP⟩ := strange (s6 _ _ (s5 _ _ fS1)) (s6 _ _ (s5 _ _ fS2)) (s6 _ _ (s5 _ _ fS3)) m0 hn (hn _ (.inr ⟨-7, rfl, by decide⟩)) (hn _ (.inr ⟨-2 - m, rfl, by omega⟩)) (a % 11).toNat (by omega)
        refine ⟨_, rfl, _, rfl, _, rfl, _, 11, rfl, rfl, (show (0 : Int) < 11 by decide), Bd, _, _, v, rfl, rfl, SqL.of upd_same, by rw [ej]; exact atI_nat hv, _, v, rfl, hP.1, hP.2.1, hP.2.2, fun H7 s7 => ?_⟩
        refine ⟨true, T.mC, fun _ er ner => ⟨CC, ⟨rfl, rfl, T.xC⟩, ?_⟩, fun z => nomatch z⟩
        refine ⟨_, rfl, .ref CW, .ref CW, false, rfl, (fun _ h => h), T.cw, _, rfl, .ref CC, .ref CC, true, rfl, (fun _ h => h), T.cc, _, rfl, .ref CT, .ref CT, false, rfl, (fun _ h => h), T.ct, fits (Nat.le_of_ble_eq_true rfl), fun p1 n1 => ?_⟩
        refine ⟨_, rfl, _, rfl, .ty "ValueError", .type "ValueError", true, rfl, (fun _ h => h), T.cv, fits (Nat.le_of_ble_eq_true rfl), fun p2 n2 => ?_⟩
        refine ⟨p1, p2, _, _, rfl, rfl, (by rw [upd_ne (ne_of_none upd_same n2)]; exact upd_same), upd_same, fits (Nat.le_of_ble_eq_true rfl), fun p3 n3 => ?_⟩
        exact q _ p3 ((((s4.trans s5).trans s6).trans s7).trans ((same_upd n1).trans ((same_upd n2).trans (same_upd n3)))) (by rw [upd_same, hd1, hd2, hd3] <;> rfl)
    have hk2 : ¬ k = 2 := fun z => hk2 (decide_eq_true (by rw [z]))
    have hd2 : decide (k = 2) = false := decide_eq_false hk2
    have hd3 : decide (k = 3) = true := decide_eq_true (by omega)
    have q0 : 0 ≤ m % 40 := Int.emod_nonneg _ (by decide)
    have q1 : m % 40 < 40 := Int.emod_lt_of_pos _ (by decide)
    obtain ⟨n, hn⟩ : ∃ n : Nat, (n : Int) = m % 40 := ⟨(m % 40).toNat, by omega⟩
    refine ⟨_, rfl, _, 40, rfl, rfl, (show (0 : Int) < 40 by decide), ?_⟩
    generalize L2.upd G3 S (.lst [V.non, .str (Str.ofString "3"), .bl true, .bl false, .int (-1 - m), .ref S1, .ref S2, .ref S3, .int (-1)]) = J0 at s4 eS fS1 fS2 fS3 ⊢
    refine ⟨by decide, fun P1 nP1 => ?_⟩
    have sJ1 := same_upd (o := .tup [.int 2, .int 200]) nP1
    have eP1 := upd_same (H := J0) (a := P1) (o := .tup [.int 2, .int 200])
    generalize L2.upd J0 P1 (.tup [.int 2, .int 200]) = J1 at sJ1 eP1 ⊢
    refine ⟨by decide, fun P2 nP2 => ?_⟩
    have sJ2 := same_upd (o := .tup [.int 3, .int 40]) nP2
    have eP2 := upd_same (H := J1) (a := P2) (o := .tup [.int 3, .int 40])
    generalize L2.upd J1 P2 (.tup [.int 3, .int 40]) = J2 at sJ2 eP2 ⊢
    refine ⟨by decide, fun P3 nP3 => ?_⟩
    have sJ3 := same_upd (o := .tup [.int 10, .int 10]) nP3
    have eP3 := upd_same (H := J2) (a := P3) (o := .tup [.int 10, .int 10])
    generalize L2.upd J2 P3 (.tup [.int 10, .int 10]) = J3 at sJ3 eP3 ⊢
    refine ⟨by decide, fun P4 nP4 => ?_⟩
    have sJ4 := same_upd (o := .tup [.int 41, .int 2]) nP4
    have eP4 := upd_same (H := J3) (a := P4) (o := .tup [.int 41, .int 2])
    generalize L2.upd J3 P4 (.tup [.int 41, .int 2]) = J4 at sJ4 eP4 ⊢
    refine ⟨by decide, fun P5 nP5 => ?_⟩
    have sJ5 := same_upd (o := .tup [.int 200, .int 200]) nP5
    have eP5 := upd_same (H := J4) (a := P5) (o := .tup [.int 200, .int 200])
    generalize L2.upd J4 P5 (.tup [.int 200, .int 200]) = J5 at sJ5 eP5 ⊢
    refine ⟨fits (Nat.le_of_ble_eq_true rfl), fun L nL => ?_⟩
    have s6 := same_upd (o := .lst [V.ref P1, .ref P2, .ref P3, .ref P4, .ref P5]) nL
    have s5 := s4.trans ((sJ1.trans (sJ2.trans (sJ3.trans (sJ4.trans (sJ5))))).trans s6)
    obtain ⟨Pi, x, y, hat, hPi, hxy⟩ : ∃ (Pi : Addr) (x y : Int), atI [V.ref P1, .ref P2, .ref P3, .ref P4, .ref P5] (a % 5) = some (.ref Pi) ∧ L2.upd J5 L (.lst [V.ref P1, .ref P2, .ref P3, .ref P4, .ref P5]) Pi = some (.tup [.int x, .int y]) ∧ (x, y) ∈ [((2 : Int), (200 : Int)), (3, 40), (10, 10), (41, 2), (200, 200)] := by
      have h : a % 5 = 0 ∨ a % 5 = 1 ∨ a % 5 = 2 ∨ a % 5 = 3 ∨ a % 5 = 4 := by omega
      rcases h with e | e | e | e | e <;> rw [e]
      · exact ⟨P1, 2, 200, rfl, s6 _ _ (((sJ2.trans (sJ3.trans (sJ4.trans (sJ5)))) _ _ eP1)), by decide⟩
      · exact ⟨P2, 3, 40, rfl, s6 _ _ (((sJ3.trans (sJ4.trans (sJ5))) _ _ eP2)), by decide⟩
      · exact ⟨P3, 10, 10, rfl, s6 _ _ (((sJ4.trans (sJ5)) _ _ eP3)), by decide⟩
      · exact ⟨P4, 41, 2, rfl, s6 _ _ (((sJ5) _ _ eP4)), by decide⟩
      · exact ⟨P5, 200, 200, rfl, s6 _ _ (eP5), by decide⟩
    have hbig := pair_big _ hxy
    have hr : 1 ≤ x ∧ x ≤ 200 ∧ 1 ≤ y ∧ y ≤ 200 := (show ∀ p ∈ [((2 : Int), (200 : Int)), (3, 40), (10, 10), (41, 2), (200, 200)], 1 ≤ p.1 ∧ p.1 ≤ 200 ∧ 1 ≤ p.2 ∧ p.2 ≤ 200 by decide) _ hxy
    refine ⟨_, rfl, _, 5, rfl, rfl, (show (0 : Int) < 5 by decide), L, _, _, .ref Pi, rfl, rfl, SqL.of upd_same, hat, ?_⟩
    refine ⟨Pi, _, rfl, SqT.of hPi, rfl, _, _, rfl, _, _, rfl, rfl, ?_⟩
    generalize L2.upd J5 L (.lst [V.ref P1, .ref P2, .ref P3, .ref P4, .ref P5]) = J6 at s5 ⊢
    refine ⟨_, rfl, m % 40, rfl, by omega, by omega, fun R nR => lc_range (fun i H2 => Same J6 H2 ∧ H2 R = some (.lst (((web n fun _ _ => false).take i).map V.str))) ⟨same_upd nR, upd_same⟩ ?_ ?_⟩
    · rintro i H2 hi ⟨s7, e7⟩
      have hi : i < n := by omega
      refine ⟨rfl, _, rfl, n, rfl, by rw [hn], by omega, _, e7, ?_, fun c o eb => ?_, ?_⟩
      · rw [List.length_map, List.length_take, web_len]
        exact small1000 (by omega)
      · rw [upd_ne (ne_of_none eb nR)]
        exact s7 _ _ eb
      · have et : ((web n fun _ _ => false).take (i + 1)).map V.str = ((web n fun _ _ => false).take i).map V.str ++ [V.str (dash n)] := by
          rw [List.take_add_one, web_at hi, List.map_append] <;> rfl
        rw [upd_same, et]
    rintro H2 ⟨s7, e7⟩
    have en : (m % 40).toNat = n := by omega
    rw [en, List.take_of_length_le (by rw [web_len]; exact Nat.le_refl _)] at e7
    refine ⟨_, rfl, _, rfl, .ref R, .int x, .int y, rfl, .inr ⟨R, n, fun _ _ => false, rfl, ⟨SqL.of e7, by omega, fun _ _ => rfl⟩, fun _ _ _ _ => rfl, .inr (.inl ⟨x, y, rfl, rfl, hr.1, hr.2.1, hr.2.2.1, hr.2.2.2, by have : 40 ≤ PySem.W.mcComb (x + y - 2) (x - 1) := hbig; omega, fun H8 s8 => ?_⟩)⟩⟩
    refine ⟨true, T.mT, fun _ er ner => ⟨CT, ⟨rfl, rfl, T.xT⟩, ?_⟩, fun z => nomatch z⟩
    refine ⟨_, rfl, .ref CW, .ref CW, false, rfl, (fun _ h => h), T.tw, _, rfl, .ref CC, .ref CC, false, rfl, (fun _ h => h), T.tc, _, rfl, .ref CT, .ref CT, true, rfl, (fun _ h => h), T.tt, fits (Nat.le_of_ble_eq_true rfl), fun p1 n1 => ?_⟩
    refine ⟨_, rfl, _, rfl, .ty "ValueError", .type "ValueError", true, rfl, (fun _ h => h), T.tv, fits (Nat.le_of_ble_eq_true rfl), fun p2 n2 => ?_⟩
    refine ⟨p1, p2, _, _, rfl, rfl, (by rw [upd_ne (ne_of_none upd_same n2)]; exact upd_same), upd_same, fits (Nat.le_of_ble_eq_true rfl), fun p3 n3 => ?_⟩
    exact q _ p3 (((s5.trans s7).trans s8).trans ((same_upd n1).trans ((same_upd n2).trans (same_upd n3)))) (by rw [upd_same, hd1, hd2, hd3] <;> rfl)
end
end AX
set_option Elab.async false
set_option linter.all false
set_option maxRecDepth 100000
set_option maxHeartbeats 8000000
namespace AX
open PySem PySem.Spec PyProof.Rows L2 AK
section
variable {P : Program} {w : World} {K : PySem.W.Frag} {mg : Str → Option Value} {base : Heap}
/-! ### _law_great -/
theorem scGreat : FnScope ["error"] [] (defScope sGreat) := ⟨rfl, rfl, rfl, by decide +kernel, rfl, by decide +kernel, by decide +kernel⟩
def spGreat (K : PySem.W.Frag) : Sp := fun vs H Q _ => vs = [] ∧ ∀ H', Same H H' → Q (.bl true) H'
theorem ok_great {f f1 CW CC CT CE : Addr} {fd d1 : FuncData} (F : Fun K "_law_great" "_law_great" sGreat f fd) (B : Bl mg) (T : ES K mg CW CC CT CE) (G1 : FnOk P w K mg base (L2.CX P w) 3 f1 d1 ["size"] (spWebOfR K CC)) (c1 : Cal K mg "web_of" f1 d1 ["size"]) : FnOk P w K mg base CX0 4 f fd [] (spGreat K) := by
  refine F.ok scGreat (fun vs H Q E h => ?_) (fun cdv A outer s H vs Q E hr h => ?_)
  · obtain ⟨rfl, _⟩ := h
    rfl
  · obtain ⟨rfl, q⟩ := h
    refine ⟨_, pss_cons (ps_try_as (i := 0) rfl rfl scGreat.nd rfl rfl ⟨rfl, by decide, .inl T.gE⟩ takes0 (fun W pn xe tk _ => pss_one (ps_expr (pe_callS G1 hr (by rfl) c1.g c1.kp c1.b (fun σ => passAt tk σ) (pa_cons pe_int pa_nil))))
        (fun a oe cls d pn hz hf => suite_ex (Pz := fun Dc => cls = .ref Dc ∧ d = none ∧ ExcC K Dc) fun Dc hp =>
          have hz' : Zc (.ref Dc) none oe := by rw [← hp.1, ← hp.2.1]; exact hz
          pss_one (ps_ret (pe_and (pe_isE K rfl hp.2.2 hz' hf (by rfl) B.isi (pa_cons (pv 0) (pa_cons (pe_glob (v := .ref CC) rfl T.gC rfl) pa_nil))) (pe_one (pe_not (pe_isE K rfl hp.2.2 hz' hf (by rfl) B.isi (pa_cons (pv 0) (pa_cons (pe_glob (v := .ref CW) rfl T.gW rfl) pa_nil)))))))))
      (pss_one (ps_ret pe_bl)), ?_⟩
    refine ⟨.int 201, rfl, .inr ⟨201, rfl, .inr (by decide)⟩, ?_⟩
    refine ⟨true, T.mC, fun _ er ner => ⟨CC, ⟨rfl, rfl, T.xC⟩, ?_⟩, fun z => nomatch z⟩
    refine ⟨_, rfl, .ref CC, .ref CC, true, rfl, (fun _ h => h), T.cc, true, rfl, iteT ?_⟩
    refine ⟨_, rfl, .ref CW, .ref CW, false, rfl, (fun _ h => h), T.cw, false, rfl, ?_⟩
    exact q H (Same.refl _)
/-! ### law -/
theorem web_rep (n : Nat) : (List.replicate n (V.str (dash n))) = (web n fun _ _ => false).map V.str := by
  have h : ∀ l : List Nat, (l.map fun _ => row n fun _ => false).map V.str = List.replicate l.length (V.str (dash n)) := fun l => by
    induction l with
    | nil => rfl
    | cons c l ih => rw [List.map_cons, List.map_cons, ih, List.length_cons, List.replicate_succ]
  unfold web
  rw [h, List.length_range]
theorem deg_no (n : Nat) : deg n (fun _ => false) = 0 := by
  have h : ∀ l : List Nat, (l.filter fun _ => false) = [] := fun l => by
    induction l with
    | nil => rfl
    | cons c l ih => rw [List.filter_cons_of_neg (by simp), ih]
  unfold deg
  rw [h] <;> rfl
theorem one_web : [V.str (Str.ofString "-")] = (web 1 fun _ _ => false).map V.str := by decide +kernel
theorem flat_web (n : Nat) : (List.replicate n [V.str (dash n)]).flatten = (web n fun _ _ => false).map V.str := by rw [rep_flat, web_rep]
theorem flat_int (n : Nat) : (List.replicate n [V.int 0]).flatten = (List.replicate n (0 : Int)).map V.int := by rw [rep_flat, List.map_replicate]
def RL (σ : L2.St) (_ : Hp) : Prop := ∃ y0 y1 y2 y3 : Option V, σ = [y0, y1, y2, y3]
theorem degs_no (n : Nat) : degs n (fun _ _ => false) = List.replicate n 0 := by
  have h : ∀ l : List Nat, l.map (fun i => (deg n ((fun _ _ => false : Nat → Nat → Bool) i) : Int)) = List.replicate l.length 0 := fun l => by
    induction l with
    | nil => rfl
    | cons c l ih => rw [List.map_cons, ih, List.length_cons, List.replicate_succ, deg_no] <;> rfl
  unfold degs
  rw [h, List.length_range]
theorem shapedB (b1 b2 b3 : Bool) : SeqAt.shaped (.list [.bool b1, .bool b2, .bool b3, .bool true]) = true := by cases b1 <;> cases b2 <;> cases b3 <;> decide +kernel
theorem eqvB (b1 b2 b3 : Bool) : PyData.eqv (.list [.bool b1, .bool b2, .bool b3, .bool true]) (.list [.bool b1, .bool b2, .bool b3, .bool true]) = true := by cases b1 <;> cases b2 <;> cases b3 <;> decide +kernel
theorem dpB {H : Hp} (b1 b2 b3 : Bool) : DpAll K H [.bl b1, .bl b2, .bl b3, .bl true] [.bool b1, .bool b2, .bool b3, .bool true] := .cons (.bl _) (.cons (.bl _) (.cons (.bl _) (.cons (.bl _) .nil)))
abbrev nLaw : List Str := ["_law_script", "_law_cell", "_law_kind", "_law_due"]
theorem scLaw : FnScope nLaw ["_law_script"] (defScope sLaw) := ⟨rfl, rfl, rfl, by decide +kernel, rfl, by decide +kernel, by decide +kernel⟩
def spLaw (K : PySem.W.Frag) : Sp := fun vs H Q _ => ∃ (a : Addr) (ns : List Int), vs = [.ref a] ∧ SqL K H a (ns.map V.int) ∧ ∀ H', Q (.bl true) H'
theorem ok_law {f f1 f2 f3 f4 CW CC CT CK : Addr} {fd d1 d2 d3 d4 : FuncData} (F : Fun K "law" "law" sLaw f fd) (B : Bl mg) (KK : KC K mg CK)
    (G1 : FnOk P w K mg base CX0 7 f1 d1 ["_law_kind", "_law_which", "_law_more"] (spTold K)) (c1 : Cal K mg "_law_told" f1 d1 ["_law_kind", "_law_which", "_law_more"]) (G2 : FnOk P w K mg base (L2.CX P w) 3 f2 d2 ["web"] (spTies K CW)) (c2 : Cal K mg "ties" f2 d2 ["web"])
    (G3 : FnOk P w K mg base (L2.CX P w) 4 f3 d3 ["web", "known", "unknown"] (spFound K CW CC CT CK)) (c3 : Cal K mg "found" f3 d3 ["web", "known", "unknown"]) (G4 : FnOk P w K mg base CX0 4 f4 d4 [] (spGreat K)) (c4 : Cal K mg "_law_great" f4 d4 []) :
    FnOk P w K mg base CX0 8 f fd ["_law_script"] (spLaw K) := by
  refine F.ok scLaw (fun vs H Q E h => ?_) (fun cdv A outer s H vs Q E hr h => ?_)
  · obtain ⟨a, ns, rfl, _⟩ := h
    rfl
  · obtain ⟨a, ns, rfl, hS, q⟩ := h
    have r3 := hr.mono (j := 3) (by decide)
    have r4 := hr.mono (j := 4) (by decide)
    refine ⟨_, pss_cons (ps_for PassesOwn.never rfl (pi_list (pv 0)) (pg_name (i := 1) scLaw.nd rfl (.inl rfl))
        (pss_cons (ps_set (i := 2) scLaw.nd rfl (.inl rfl) (pe_op op_mod (pv 1) pe_int))
        (pss_cons (ps_set (i := 3) scLaw.nd rfl (.inl rfl) (pe_lst (pa_cons (pe_cmpR op_lt (pv 2) pe_int (nomark _)) (pa_cons (pe_cmpR op_eq (pv 2) pe_int (nomark _)) (pa_cons (pe_cmpR op_eq (pv 2) pe_int (nomark _)) (pa_cons pe_bl pa_nil))))))
        (pss_one (ps_if (pt_cmpR (op_neD hr.units) (pe_call G1 hr (by rfl) c1.g c1.kp c1.b .nil pass0 (pa_cons (pv 2) (pa_cons (pe_op op_mod (pe_op op_fdiv (pv 1) pe_int) pe_int) (pa_cons (pe_op op_mod (pe_op op_fdiv (pv 1) pe_int) pe_int) pa_nil)))) (pv 3) (nomark _)) (pss_one ps_never) pss_nil)))))
      (pss_cut RL (ps_if (PW.pt (pw_and (pt_cmpR op_eq (pe_op op_mod (pe_callB (cr_sum rfl) (by rfl) B.sum (by decide +kernel) (pa_cons (pv 0) pa_nil)) pe_int) pe_int (nomark _))
          (pw_and1 (pt_cmpR (op_neD hr.units) (pe_callS G2 r3 (by rfl) c2.g c2.kp c2.b (fun σ => passAt takes0 σ) (pa_cons (pe_op op_rep (pe_lst (pa_cons (pe_op op_dash pe_str pe_int) pa_nil)) pe_int) pa_nil)) (pe_op op_rep (pe_lst (pa_cons pe_int pa_nil)) pe_int) (nomark _))))) (pss_one ps_never) pss_nil)
      (pss_one (ps_ret (pe_and (pe_cmpR (op_eqD hr.units) (pe_fld (pe_callS G3 r4 (by rfl) c3.g c3.kp c3.b (fun σ => passAt takes0 σ) (pa_cons (pe_lst (pa_cons pe_str pa_nil)) (pa_cons pe_int (pa_cons pe_int pa_nil)))) rfl) (pe_lst (pa_cons pe_int pa_nil)) (nomark _))
        (pe_one (pe_call0 G4 r4 (by rfl) c4.g c4.kp c4.b .nil pass0)))))), ?_⟩
    refine ⟨_, rfl, a, rfl, ⟨_, hS⟩, for_list (K := K) (xs := ns.map V.int) (fun i σ H1 => ∃ y1 y2 y3, σ = [some (.ref a), y1, y2, y3] ∧ Same H H1) ⟨none, none, none, rfl, Same.refl _⟩ (fun i σ H1 _ ⟨_, _, _, _, s1⟩ => s1.seq hS) ?_ ?_⟩
    · rintro i x σ H1 hx ⟨y1, y2, y3, rfl, s1⟩
      rw [List.getElem?_map] at hx
      obtain ⟨z, hz, rfl⟩ := Option.map_eq_some_iff.mp hx
      refine ⟨_, rfl, _, 4, rfl, rfl, (show (0 : Int) < 4 by decide), ?_⟩
      have k0 : 0 ≤ z % 4 := Int.emod_nonneg _ (by decide)
      have k4 : z % 4 < 4 := Int.emod_lt_of_pos _ (by decide)
      have t0 : 0 ≤ z / 4 % 100000 := Int.emod_nonneg _ (by decide)
      have u0 : 0 ≤ z / 400000 % 1000 := Int.emod_nonneg _ (by decide)
      have u1 : z / 400000 % 1000 < 1000 := Int.emod_lt_of_pos _ (by decide)
      refine ⟨_, rfl, _, 2, rfl, rfl, _, rfl, rfl, _, rfl, rfl, fits (Nat.le_of_ble_eq_true rfl), fun D nD => ?_⟩
      refine ⟨_, rfl, _, rfl, _, 4, rfl, rfl, ⟨by decide, by decide⟩, _, 100000, rfl, rfl, (show (0 : Int) < 100000 by decide), _, rfl, _, 400000, rfl, rfl, ⟨by decide, by decide⟩, _, 1000, rfl, rfl, (show (0 : Int) < 1000 by decide), z % 4, z / 4 % 100000, z / 400000 % 1000, rfl, k0, k4, t0, u0, u1, fun H3 p s3 e3 => ?_⟩
      have eq2 : ∀ c : Int, decide (V.int (z % 4) = V.int c) = decide (z % 4 = c) := fun c => by
        rw [decide_eq_decide]
        exact ⟨fun h => by injection h, fun h => by rw [h]⟩
      have eD : H3 D = some (.lst [.bl (decide (z % 4 < 2)), .bl (decide (z % 4 = 2)), .bl (decide (z % 4 = 3)), .bl true]) := by
        have h := s3 _ _ (upd_same (H := H1) (a := D) (o := .lst [.bl (decide (z % 4 < 2)), .bl (decide (V.int (z % 4) = V.int 2)), .bl (decide (V.int (z % 4) = V.int 3)), .bl true]))
        rw [eq2, eq2] at h
        exact h
      refine ⟨_, rfl, _, _, .lst (SqL.of e3) (dpB _ _ _), .lst (SqL.of eD) (dpB _ _ _), shapedB _ _ _, shapedB _ _ _, _, rfl, ?_⟩
      rw [eqvB]
      exact iteF ⟨_, _, _, rfl, (s1.trans (same_upd nD)).trans s3⟩
    · rintro σ H1 ⟨y1, y2, y3, rfl, s1⟩
      refine ⟨?_, ?_⟩
      · refine ⟨_, rfl, a, ns, rfl, s1.seq hS, _, 32, rfl, rfl, (show (0 : Int) < 32 by decide), rfl, _, rfl, ite2 (fun _ => ?_) (fun _ => ?_)⟩
        · refine ⟨200, rfl, rfl, by decide, fits (Nat.le_of_ble_eq_true rfl), fun Xa nX => ⟨Xa, 200, _, rfl, rfl, upd_same, by decide, by decide, fits (Nat.le_of_ble_eq_true rfl), fun Y nY => ?_⟩⟩
          have eY := upd_same (H := L2.upd H1 Xa (.lst [.str (dash 200)])) (a := Y) (o := .lst (List.replicate (200 : Int).toNat [V.str (dash 200)]).flatten)
          have e200 : (200 : Int).toNat = 200 := rfl
          rw [e200, flat_web] at eY
          refine ⟨_, rfl, .inr ⟨Y, 200, fun _ _ => false, rfl, ⟨SqL.of eY, by decide, fun _ _ => rfl⟩, .inr ⟨fun _ _ _ _ => rfl, fun H2 p s2 np e2 => ?_⟩⟩⟩
          refine ⟨fits (Nat.le_of_ble_eq_true rfl), fun Z nZ => ⟨Z, 200, _, rfl, rfl, upd_same, by decide, by decide, fits (Nat.le_of_ble_eq_true rfl), fun U nU => ?_⟩⟩
          have e3 : L2.upd (L2.upd H2 Z (.lst [.int 0])) U (.lst (List.replicate (200 : Int).toNat [V.int 0]).flatten) p = some (.lst ((List.replicate 200 (0 : Int)).map V.int)) := by
            have h1 : L2.upd H2 Z (.lst [.int 0]) p = some (.lst ((degs 200 fun _ _ => false).map V.int)) := by
              rw [upd_ne (ne_of_none e2 nZ)]
              exact e2
            rw [upd_ne (ne_of_none h1 nU), h1, degs_no]
          have eU := upd_same (H := L2.upd H2 Z (.lst [.int 0])) (a := U) (o := .lst (List.replicate (200 : Int).toNat [V.int 0]).flatten)
          rw [e200, flat_int] at eU
          rw [e200, flat_int] at e3
          refine ⟨.list ((List.replicate 200 (0 : Int)).map PyData.int), .list ((List.replicate 200 (0 : Int)).map PyData.int), .lst (SqL.of e3) (dpI _), .lst (SqL.of eU) (dpI _), shapedI _, shapedI _, _, rfl, ?_⟩
          have ee : PyData.eqv (.list ((List.replicate 200 (0 : Int)).map PyData.int)) (.list ((List.replicate 200 (0 : Int)).map PyData.int)) = true := by
            simp only [PyData.eqv, eqvI, decide_true]
          rw [ee]
          exact iteF ⟨_, _, _, _, rfl⟩
        · exact iteF ⟨_, _, _, _, rfl⟩
      rintro σ H2 ⟨z0, z1, z2, z3, rfl⟩
      refine ⟨fits (Nat.le_of_ble_eq_true rfl), fun W nW => ?_⟩
      have eW := upd_same (H := H2) (a := W) (o := .lst [V.str (Str.ofString "-")])
      rw [one_web] at eW
      refine ⟨_, _, _, rfl, .inr ⟨W, 1, fun _ _ => false, rfl, ⟨SqL.of eW, by decide, fun _ _ => rfl⟩, fun _ _ _ _ => rfl, .inr (.inr ⟨rfl, rfl, rfl, fun H3 p l dx s3 ep el => ?_⟩)⟩⟩
      refine ⟨p, CK, dx, _, .ref l, rfl, ep, KK.cl, KK.no, rfl, fits (Nat.le_of_ble_eq_true rfl), fun Z nZ => ?_⟩
      have el2 : L2.upd H3 Z (.lst [.int 0]) l = some (.lst [.int 0]) := by
        rw [upd_ne (ne_of_none el nZ)]
        exact el
      refine ⟨.list [.int 0], .list [.int 0], .lst (SqL.of el2) (dpI [0]), .lst (SqL.of upd_same) (dpI [0]), shapedI [0], shapedI [0], _, rfl, ?_⟩
      have ee : PyData.eqv (.list [.int 0]) (.list [.int 0]) = true := by decide +kernel
      rw [ee]
      refine iteT ?_
      exact ⟨rfl, fun H4 s4 => q H4⟩
end
end AX
set_option Elab.async false
set_option linter.all false
set_option maxRecDepth 100000
set_option maxHeartbeats 4000000
namespace AX
open PySem PySem.Spec PyProof.Rows L2 AK
def FAt (K : PySem.W.Frag) (x : Str) (st : Stmt) : Prop := ∃ (f : Addr) (fd : FuncData), PySem.W.nsIn K mainGlobals x = some (some (.ref f)) ∧ Fun K x x st f fd
theorem fat_mk {K : PySem.W.Frag} {x : Str} {st : Stmt} {f : Addr} {oc : Value} {od an : Option Addr} {osl : Array (Option Value)} {kV doc pm cdv ct : Value} (a : PySem.W.nsIn K mainGlobals x = some (some (.ref f))) (l : K.lookup f = some ⟨oc, od, .func (PySem.W.fnOf x x (defArgs st) (defBody st) (defScope st) .none kV doc pm an cdv ct), osl⟩)
    (c : PySem.W.codeIn K cdv x = true) (k : PySem.W.keepIn K (.ref f) = true) : FAt K x st := ⟨f, _, a, fun_mk l c k⟩
def DAt (K : PySem.W.Frag) : Prop := ∃ (f : Addr) (fd : FuncData), PySem.W.nsIn K mainGlobals "check_count" = some (some (.ref f)) ∧ FunC K f fd
theorem dat_mk {K : PySem.W.Frag} {f T : Addr} {oc o1 : Value} {od an o2 : Option Addr} {osl o3 : Array (Option Value)} {kV doc pm cdv ct : Value} {n : Nat} (a : PySem.W.nsIn K mainGlobals "check_count" = some (some (.ref f))) (l : K.lookup f = some ⟨oc, od, .func (PySem.W.fnOf "check_count" "check_count" (defArgs sCount) (defBody sCount) (defScope sCount) (.ref T) kV doc pm an cdv ct), osl⟩)
    (c : PySem.W.codeIn K cdv "check_count" = true) (k : PySem.W.keepIn K (.ref f) = true) (lT : K.lookup T = some ⟨o1, o2, .seq #[.none] n, o3⟩) : DAt K :=
  ⟨f, _, a, ⟨oc, od, .ref T, kV, doc, pm, an, cdv, ct, osl, rfl, l, c, .inr ⟨by simp, T, _, [.none], n, rfl, lT, rfl, .cons rfl .nil⟩, .inl rfl⟩, k⟩
def SAt (K : PySem.W.Frag) (x y : Str) : Prop := ∃ t, PySem.W.nsIn K mainGlobals x = some (some (.str y t))
theorem sat_mk {K : PySem.W.Frag} {x y : Str} {t : Tok} (a : PySem.W.nsIn K mainGlobals x = some (some (.str y t))) : SAt K x y := ⟨t, a⟩
def IAt (K : PySem.W.Frag) (x : Str) (i : Int) : Prop := ∃ t, PySem.W.nsIn K mainGlobals x = some (some (.int i t))
theorem iat_mk {K : PySem.W.Frag} {x : Str} {i : Int} {t : Tok} (a : PySem.W.nsIn K mainGlobals x = some (some (.int i t))) : IAt K x i := ⟨t, a⟩
/-- a class of errors in the written part -/
structure EAt (K : PySem.W.Frag) (x : Str) (C : Addr) : Prop where
  g : PySem.W.nsIn K mainGlobals x = some (some (.ref C))
  q : PySem.W.excIn K C [.type "ValueError", .type "Exception", .type "BaseException", .type "object"] "ValueError.__new__" = true
  kp : PySem.W.keepIn K (.ref C) = true
  sb : PySem.W.subIn K (.ref C) (.type "BaseException") = some true
  ty : PySem.W.typeIn K (.ref C) = some (.type "type")
  x : ExcC K C
theorem eat_mk {K : PySem.W.Frag} {x : Str} {C : Addr} (g : PySem.W.nsIn K mainGlobals x = some (some (.ref C))) (q : PySem.W.excIn K C [.type "ValueError", .type "Exception", .type "BaseException", .type "object"] "ValueError.__new__" = true) (kp : PySem.W.keepIn K (.ref C) = true) (sb : PySem.W.subIn K (.ref C) (.type "BaseException") = some true)
    (ty : PySem.W.typeIn K (.ref C) = some (.type "type")) (hg : PySem.W.findIn K (.ref C) "__getattribute__" = some (some (.builtin "BaseException.__getattribute__"))) (hk : PySem.W.findIn K (.ref C) "__getattr__" = some none) (hd : PySem.W.hasDictIn K C = true) (ha : PySem.W.findIn K (.ref C) "__class__" = some (some (.builtin "object.__class__")))
    (hn : PySem.W.specialIn K (.builtin "object.__class__") "__get__" = some (some (.builtin "getset_descriptor.__get__"))) (ht : PySem.W.takesIn K (.builtin "object.__class__") = some true) (hm : PySem.W.mroIn K C (.type "object") = some true) : EAt K x C := ⟨g, q, kp, sb, ty, ⟨hg, hk, sb, hd, ha, hn, ht, hm⟩⟩
/-- what the classes of errors are to one another -/
structure EX (K : PySem.W.Frag) (CW CC CT CE : Addr) : Prop where
  gE : PySem.W.nsIn K mainGlobals "WebError" = some (some (.ref CE))
  mW : PySem.W.exmOne K (.ref CW) (.ref CE) = some true
  mC : PySem.W.exmOne K (.ref CC) (.ref CE) = some true
  mT : PySem.W.exmOne K (.ref CT) (.ref CE) = some true
  ww : PySem.W.kitOne K (.ref CW) (.ref CW) = some true
  wc : PySem.W.kitOne K (.ref CW) (.ref CC) = some false
  wt : PySem.W.kitOne K (.ref CW) (.ref CT) = some false
  wv : PySem.W.kitOne K (.ref CW) (.type "ValueError") = some true
  cw : PySem.W.kitOne K (.ref CC) (.ref CW) = some false
  cc : PySem.W.kitOne K (.ref CC) (.ref CC) = some true
  ct : PySem.W.kitOne K (.ref CC) (.ref CT) = some false
  cv : PySem.W.kitOne K (.ref CC) (.type "ValueError") = some true
  tw : PySem.W.kitOne K (.ref CT) (.ref CW) = some false
  tc : PySem.W.kitOne K (.ref CT) (.ref CC) = some false
  tt : PySem.W.kitOne K (.ref CT) (.ref CT) = some true
  tv : PySem.W.kitOne K (.ref CT) (.type "ValueError") = some true
/-- Known -/
structure NAt (K : PySem.W.Frag) (C f : Addr) : Prop where
  g : PySem.W.nsIn K mainGlobals "Known" = some (some (.ref C))
  cl : Cls K C
  no : NoAttr K C "people"
  mkk : Mk K C f
  fn : ∃ fd, Fun K "__init__" "Known.__init__" sInit f fd
theorem nat_mk {K : PySem.W.Frag} {C f : Addr} {oc : Value} {od an : Option Addr} {osl : Array (Option Value)} {kV doc pm cdv ct : Value} (g : PySem.W.nsIn K mainGlobals "Known" = some (some (.ref C))) (pg : PySem.W.plainGet K C Str.empty = true) (hd : PySem.W.hasDictIn K C = true) (po : PySem.W.plainOver K C = true)
    (sa : PySem.W.findIn K (.ref C) "__setattr__" = some (some (.builtin "object.__setattr__"))) (no : PySem.W.findIn K (.ref C) "people" = some none) (mk : PySem.W.makesIn K C = true) (ini : PySem.W.findIn K (.ref C) "__init__" = some (some (.ref f))) (fn : PySem.W.isFn K (.ref f) = true) (kp : PySem.W.keepIn K (.ref C) = true)
    (l : K.lookup f = some ⟨oc, od, .func (PySem.W.fnOf "__init__" "Known.__init__" (defArgs sInit) (defBody sInit) (defScope sInit) .none kV doc pm an cdv ct), osl⟩) (c : PySem.W.codeIn K cdv "Known.__init__" = true) (k : PySem.W.keepIn K (.ref f) = true) : NAt K C f := ⟨g, ⟨pg, hd, po, sa⟩, no, ⟨mk, ini, fn, kp⟩, _, fun_mk l c k⟩
def UAt (K : PySem.W.Frag) : Prop := ∃ C, PySem.W.nsIn K mainGlobals "Unknown" = some (some (.ref C)) ∧ PySem.W.keepIn K (.ref C) = true
theorem uat_mk {K : PySem.W.Frag} {C : Addr} (g : PySem.W.nsIn K mainGlobals "Unknown" = some (some (.ref C))) (k : PySem.W.keepIn K (.ref C) = true) : UAt K := ⟨C, g, k⟩

theorem all_mk {l : PySem.W.OpenLaw} {w : World} {K : PySem.W.Frag} {h : Heap} {mg : Str → Option Value} {fa CW CC CT CE CK fI : Addr} (X : K.In h) (G : h.Ns mainGlobals mg) (hfa : mg "law" = some (.ref fa))
    (hWhole : FAt K "is_whole" sWhole) (hWeb : FAt K "check_web" sWeb) (hRow : FAt K "_check_row" sRow) (hTies : FAt K "ties" sTies) (hTurned : FAt K "turned" sTurned) (hSure : FAt K "sure" sSure) (hFound : FAt K "found" sFound) (hProm : FAt K "promised" sPromised) (hStr : FAt K "strangers" sStrangers) (hFri : FAt K "friends" sFriends) (hApart : FAt K "_apart" sApart) (hAlike : FAt K "alike" sAlike) (hThree : FAt K "three" sThree) (hFew : FAt K "fewest" sFewest) (hWebOf : FAt K "web_of" sWebOf) (hWW : FAt K "_law_with_web" sWithWeb) (hWC : FAt K "_law_with_count" sWithCount) (hBW : FAt K "_law_bad_web" sBadWeb) (hTold : FAt K "_law_told" sTold) (hGreat : FAt K "_law_great" sGreat) (hLaw : FAt K "law" sLaw)
    (hCount : DAt K) (kn : SAt K "KNOWS" "x") (ap : SAt K "APART" "-") (mo : IAt K "MOST_PEOPLE" 200) (ms : IAt K "MOST_SIZE" 200) (gcomb : PySem.W.nsIn K mainGlobals "comb" = some (some (.builtin "math.comb")))
    (eW : EAt K "BadWeb" CW) (eC : EAt K "BadCount" CC) (eT : EAt K "TooFew" CT) (ex : EX K CW CC CT CE) (nK : NAt K CK fI) (uU : UAt K)
    (z0 : PySem.W.nsIn K mainGlobals "isinstance" = some none) (z1 : PySem.W.nsIn K mainGlobals "int" = some none) (z2 : PySem.W.nsIn K mainGlobals "bool" = some none) (z3 : PySem.W.nsIn K mainGlobals "list" = some none) (z4 : PySem.W.nsIn K mainGlobals "str" = some none) (z5 : PySem.W.nsIn K mainGlobals "len" = some none) (z6 : PySem.W.nsIn K mainGlobals "enumerate" = some none) (z7 : PySem.W.nsIn K mainGlobals "zip" = some none) (z8 : PySem.W.nsIn K mainGlobals "range" = some none) (z9 : PySem.W.nsIn K mainGlobals "sum" = some none) (z10 : PySem.W.nsIn K mainGlobals "ValueError" = some none) :
    ∃ fd : FuncData, (∀ (s : Shared) (v : Value), BindsTo s fd ⟨[v], []⟩ [("_law_script", v)]) ∧ ∀ base : Heap, K.In base → base.Ns mainGlobals mg → FnOk l.prog w K mg base CX0 8 fa fd ["_law_script"] (spLaw K) := by
  have gg : ∀ {x : Str} {v : Value}, PySem.W.nsIn K mainGlobals x = some (some v) → mg x = some v := fun e => PySem.W.mg_of X G e
  have gn : ∀ {x : Str}, PySem.W.nsIn K mainGlobals x = some none → mg x = none := fun e => PySem.W.mg_none_of X G e
  obtain ⟨fWhole, dWhole, aWhole, FWhole⟩ := hWhole
  obtain ⟨fWeb, dWeb, aWeb, FWeb⟩ := hWeb
  obtain ⟨fRow, dRow, aRow, FRow⟩ := hRow
  obtain ⟨fTies, dTies, aTies, FTies⟩ := hTies
  obtain ⟨fTurned, dTurned, aTurned, FTurned⟩ := hTurned
  obtain ⟨fSure, dSure, aSure, FSure⟩ := hSure
  obtain ⟨fFound, dFound, aFound, FFound⟩ := hFound
  obtain ⟨fProm, dProm, aProm, FProm⟩ := hProm
  obtain ⟨fStr, dStr, aStr, FStr⟩ := hStr
  obtain ⟨fFri, dFri, aFri, FFri⟩ := hFri
  obtain ⟨fApart, dApart, aApart, FApart⟩ := hApart
  obtain ⟨fAlike, dAlike, aAlike, FAlike⟩ := hAlike
  obtain ⟨fThree, dThree, aThree, FThree⟩ := hThree
  obtain ⟨fFew, dFew, aFew, FFew⟩ := hFew
  obtain ⟨fWebOf, dWebOf, aWebOf, FWebOf⟩ := hWebOf
  obtain ⟨fWW, dWW, aWW, FWW⟩ := hWW
  obtain ⟨fWC, dWC, aWC, FWC⟩ := hWC
  obtain ⟨fBW, dBW, aBW, FBW⟩ := hBW
  obtain ⟨fTold, dTold, aTold, FTold⟩ := hTold
  obtain ⟨fGreat, dGreat, aGreat, FGreat⟩ := hGreat
  obtain ⟨fLaw, dLaw, aLaw, FLaw⟩ := hLaw
  obtain ⟨fCo, dCo, aCo, FCo⟩ := hCount
  obtain ⟨dI, FI⟩ := nK.fn
  obtain ⟨cU, gU, kU⟩ := uU
  have e := hfa.symm.trans (gg aLaw)
  cases e
  have bWhole := FWhole.binds (ps := ["value"]) fun _ _ _ _ _ _ us hl => match us, hl with | [_], _ => rfl
  have bWeb := FWeb.binds (ps := ["web"]) fun _ _ _ _ _ _ us hl => match us, hl with | [_], _ => rfl
  have bRow := FRow.binds (ps := ["row", "place", "size"]) fun _ _ _ _ _ _ us hl => match us, hl with | [_, _, _], _ => rfl
  have bTies := FTies.binds (ps := ["web"]) fun _ _ _ _ _ _ us hl => match us, hl with | [_], _ => rfl
  have bTurned := FTurned.binds (ps := ["web"]) fun _ _ _ _ _ _ us hl => match us, hl with | [_], _ => rfl
  have bSure := FSure.binds (ps := ["known", "unknown"]) fun _ _ _ _ _ _ us hl => match us, hl with | [_, _], _ => rfl
  have bFound := FFound.binds (ps := ["web", "known", "unknown"]) fun _ _ _ _ _ _ us hl => match us, hl with | [_, _, _], _ => rfl
  have bProm := FProm.binds (ps := ["web"]) fun _ _ _ _ _ _ us hl => match us, hl with | [_], _ => rfl
  have bStr := FStr.binds (ps := ["web"]) fun _ _ _ _ _ _ us hl => match us, hl with | [_], _ => rfl
  have bFri := FFri.binds (ps := ["web"]) fun _ _ _ _ _ _ us hl => match us, hl with | [_], _ => rfl
  have bApart := FApart.binds (ps := ["web"]) fun _ _ _ _ _ _ us hl => match us, hl with | [_], _ => rfl
  have bAlike := FAlike.binds (ps := ["web"]) fun _ _ _ _ _ _ us hl => match us, hl with | [_], _ => rfl
  have bThree := FThree.binds (ps := ["web"]) fun _ _ _ _ _ _ us hl => match us, hl with | [_], _ => rfl
  have bFew := FFew.binds (ps := ["size"]) fun _ _ _ _ _ _ us hl => match us, hl with | [_], _ => rfl
  have bWebOf := FWebOf.binds (ps := ["size"]) fun _ _ _ _ _ _ us hl => match us, hl with | [_], _ => rfl
  have bWW := FWW.binds (ps := ["_law_door", "_law_web"]) fun _ _ _ _ _ _ us hl => match us, hl with | [_, _], _ => rfl
  have bWC := FWC.binds (ps := ["_law_door", "_law_count"]) fun _ _ _ _ _ _ us hl => match us, hl with | [_, _], _ => rfl
  have bBW := FBW.binds (ps := ["_law_which", "_law_more"]) fun _ _ _ _ _ _ us hl => match us, hl with | [_, _], _ => rfl
  have bTold := FTold.binds (ps := ["_law_kind", "_law_which", "_law_more"]) fun _ _ _ _ _ _ us hl => match us, hl with | [_, _, _], _ => rfl
  have bGreat := FGreat.binds (ps := []) fun _ _ _ _ _ _ us hl => match us, hl with | [], _ => rfl
  have bI := FI.binds (ps := ["self", "people"]) fun _ _ _ _ _ _ us hl => match us, hl with | [_, _], _ => rfl
  obtain ⟨ds2, vd2, bC2⟩ := FCo.binds1 (ps := ["value", "least", "most"]) 2 0 (by simp) rfl fun T kV doc pm an cdv ct us its hl hi => match us, hl, its, hi with | [_, _], _, [_], _ => ⟨_, rfl, rfl⟩
  obtain ⟨ds3, vd3, bC3⟩ := FCo.binds1 (ps := ["value", "least", "most"]) 3 1 (by simp) rfl fun T kV doc pm an cdv ct us its hl hi => match us, hl, its, hi with | [_, _, _], _, [_], _ => ⟨_, rfl, rfl⟩
  have vd3 : Vals [] ds3 := vd3
  cases vd3
  have vd2 : Vals [.non] ds2 := vd2
  have B : Bl mg := ⟨gn z0, gn z1, gn z2, gn z3, gn z4, gn z5, gn z6, gn z7, gn z8, gn z9⟩
  have Cc : Cn mg := ⟨let ⟨t, e⟩ := kn; ⟨t, gg e⟩, let ⟨t, e⟩ := ap; ⟨t, gg e⟩, let ⟨t, e⟩ := mo; ⟨t, gg e⟩, let ⟨t, e⟩ := ms; ⟨t, gg e⟩⟩
  have EW : EC K mg "BadWeb" CW := ⟨gg eW.g, eW.q, eW.kp, eW.sb, eW.ty⟩
  have EK : EC K mg "BadCount" CC := ⟨gg eC.g, eC.q, eC.kp, eC.sb, eC.ty⟩
  have ET : EC K mg "TooFew" CT := ⟨gg eT.g, eT.q, eT.kp, eT.sb, eT.ty⟩
  have T : ES K mg CW CC CT CE := ⟨gg eW.g, gg eC.g, gg eT.g, gg ex.gE, gn z10, eW.x, eC.x, eT.x, ex.mW, ex.mC, ex.mT, ex.ww, ex.wc, ex.wt, ex.wv, ex.cw, ex.cc, ex.ct, ex.cv, ex.tw, ex.tc, ex.tt, ex.tv⟩
  have KK : KC K mg CK := ⟨gg nK.g, nK.cl, nK.no⟩
  refine ⟨dLaw, fun s v => ?_, fun base _ _ => ?_⟩
  · obtain ⟨oc, od, kV, doc, pm, an, cdv, ct, osl, rfl, _, _⟩ := FLaw.ex
    exact .of_eq rfl
  have GCo := ok_count (P := l.prog) (w := w) (base := base) FCo FWhole bWhole (gg aWhole) B EK
  have GWeb := ok_web (P := l.prog) (w := w) (base := base) FWeb FRow bRow (gg aRow) B Cc EW
  have GTies := ok_ties (P := l.prog) (w := w) (base := base) FTies GWeb FWeb bWeb (gg aWeb) Cc
  have GTurned := ok_turned (P := l.prog) (w := w) (base := base) FTurned GWeb FWeb bWeb (gg aWeb)
  have GThree := ok_three (P := l.prog) (w := w) (base := base) FThree GWeb FWeb bWeb (gg aWeb)
  have GAlike := ok_alike (P := l.prog) (w := w) (base := base) FAlike GTies FTies bTies (gg aTies)
  have GProm := ok_prom (P := l.prog) (w := w) (base := base) FProm GTies FTies bTies (gg aTies)
  have GApart := ok_apart (P := l.prog) (w := w) (base := base) FApart GTies FTies bTies (gg aTies)
  have GStr := ok_strangers (P := l.prog) (w := w) (base := base) FStr GApart FApart bApart (gg aApart) (gg gU) kU
  have GFri := ok_friends (P := l.prog) (w := w) (base := base) FFri GTurned FTurned bTurned (gg aTurned) FApart (gg aApart) (gg nK.g) nK.mkk.kp
  have GSure := ok_sure (P := l.prog) (w := w) (base := base) FSure GCo FCo bC3 (gg aCo) Cc (gg gcomb)
  have GFew := ok_fewest (P := l.prog) (w := w) (base := base) FFew GCo FCo bC2 vd2 (gg aCo)
  have GWebOf := ok_webOf (P := l.prog) (w := w) (base := base) FWebOf GCo FCo bC3 (gg aCo) Cc
  have GFound := ok_found (P := l.prog) (w := w) (base := base) FFound GWeb FWeb bWeb (gg aWeb) GSure FSure bSure (gg aSure) ET KK nK.mkk FI bI B
  have cal : ∀ {x : Str} {f : Addr} {fd : FuncData} {ps : List Str}, PySem.W.nsIn K mainGlobals x = some (some (.ref f)) → PySem.W.keepIn K (.ref f) = true → Binds K fd ps [] → Cal K mg x f fd ps := fun a k b => ⟨gg a, k, b⟩
  have GWW := ok_withWeb (P := l.prog) (w := w) (base := base) FWW GTies (cal aTies FTies.kp bTies) GTurned (cal aTurned FTurned.kp bTurned) GAlike (cal aAlike FAlike.kp bAlike) GThree (cal aThree FThree.kp bThree) GFound (cal aFound FFound.kp bFound) GProm (cal aProm FProm.kp bProm) GStr (cal aStr FStr.kp bStr) GFri (cal aFri FFri.kp bFri)
  have GWC := ok_withCount (P := l.prog) (w := w) (base := base) FWC GSure (cal aSure FSure.kp bSure) GFound (cal aFound FFound.kp bFound) GFew (cal aFew FFew.kp bFew) GWebOf (cal aWebOf FWebOf.kp bWebOf)
  have GBW := ok_badWeb (P := l.prog) (w := w) (base := base) FBW B
  have GTold := ok_told (P := l.prog) (w := w) (base := base) FTold B T GWW (cal aWW FWW.kp bWW) GBW (cal aBW FBW.kp bBW) GWC (cal aWC FWC.kp bWC) GFound (cal aFound FFound.kp bFound)
  have GGreat := ok_great (P := l.prog) (w := w) (base := base) FGreat B T GWebOf (cal aWebOf FWebOf.kp bWebOf)
  exact ok_law FLaw B KK GTold (cal aTold FTold.kp bTold) GTies (cal aTies FTies.kp bTies) GFound (cal aFound FFound.kp bFound) GGreat (cal aGreat FGreat.kp bGreat)
end AX
set_option Elab.async false
set_option linter.all false
set_option maxRecDepth 100000
open PySem PySem.W PyProof.Rows
set_option maxHeartbeats 0 in
theorem PySem.Challenge.cw_allknown_k06_refused_holds : PySem.Challenge.rw_allknown_k06_refused.Holds := by
  w_on; o_law; k_head; (case hw => w_witness2)
  k_fill
  refine L2.walk_of (l := PySem.Challenge.rw_allknown_k06_refused) (n := 63) (k := 8) (x := "_law_script") (CX := fun _ => L2.CX0) (sp := fun w => AX.spLaw _) rfl (by decide) rfl ⟨rfl, by decide, by decide⟩ (fun w h Y => PySem.W.km_in_of Y) ?F (fun _ _ a ns hl _ hS => ⟨a, ns, rfl, hS, fun _ => rfl⟩) (fun _ _ _ _ _ h => h)
  case F =>
    intro w mg fa h KX G hmg
    refine' AX.all_mk KX G hmg ?f0 ?f1 ?f2 ?f3 ?f4 ?f5 ?f6 ?f7 ?f8 ?f9 ?f10 ?f11 ?f12 ?f13 ?f14 ?f15 ?f16 ?f17 ?f18 ?f19 ?f20 ?uCo ?ukn ?uap ?umo ?ums ?ucomb ?ueW ?ueC ?ueT ?uex ?unK ?uuU ?z0 ?z1 ?z2 ?z3 ?z4 ?z5 ?z6 ?z7 ?z8 ?z9 ?z10
    (case ueW => refine' AX.eat_mk ?vWg ?vWq ?vWkp ?vWsb ?vWty ?vWhg ?vWhk ?vWhd ?vWha ?vWhn ?vWht ?vWhm; (case vWg => k_is); (case vWq => k_exc); (case vWkp => k_is); (case vWsb => k_is); (case vWty => k_is); (case vWhg => k_is); (case vWhk => k_is); (case vWhd => k_is); (case vWha => k_is); (case vWhn => k_is); (case vWht => k_is); (case vWhm => k_is))
    (case ueC => refine' AX.eat_mk ?vCg ?vCq ?vCkp ?vCsb ?vCty ?vChg ?vChk ?vChd ?vCha ?vChn ?vCht ?vChm; (case vCg => k_is); (case vCq => k_exc); (case vCkp => k_is); (case vCsb => k_is); (case vCty => k_is); (case vChg => k_is); (case vChk => k_is); (case vChd => k_is); (case vCha => k_is); (case vChn => k_is); (case vCht => k_is); (case vChm => k_is))
    (case ueT => refine' AX.eat_mk ?vTg ?vTq ?vTkp ?vTsb ?vTty ?vThg ?vThk ?vThd ?vTha ?vThn ?vTht ?vThm; (case vTg => k_is); (case vTq => k_exc); (case vTkp => k_is); (case vTsb => k_is); (case vTty => k_is); (case vThg => k_is); (case vThk => k_is); (case vThd => k_is); (case vTha => k_is); (case vThn => k_is); (case vTht => k_is); (case vThm => k_is))
    (case uex => refine' ⟨?xgE, ?xmW, ?xmC, ?xmT, ?xww, ?xwc, ?xwt, ?xwv, ?xcw, ?xcc, ?xct, ?xcv, ?xtw, ?xtc, ?xtt, ?xtv⟩; (case xgE => k_is); (case xmW => kernel_rfl); (case xmC => kernel_rfl); (case xmT => kernel_rfl); (case xww => kernel_rfl); (case xwc => kernel_rfl); (case xwt => kernel_rfl); (case xwv => kernel_rfl); (case xcw => kernel_rfl); (case xcc => kernel_rfl); (case xct => kernel_rfl); (case xcv => kernel_rfl); (case xtw => kernel_rfl); (case xtc => kernel_rfl); (case xtt => kernel_rfl); (case xtv => kernel_rfl))
    (case unK => refine' AX.nat_mk ?wg ?wpg ?whd ?wpo ?wsa ?wno ?wmk ?wini ?wfn ?wkp ?wl ?wc ?wk; (case wg => k_is); (case wpg => k_is); (case whd => k_is); (case wpo => k_is); (case wsa => k_is); (case wno => k_is); (case wmk => k_is); (case wini => k_is); (case wfn => k_is); (case wkp => k_is); (case wl => k_is); (case wc => k_is); (case wk => k_is))
    (case uuU => refine' AX.uat_mk ?y1 ?y2; (case y1 => k_is); (case y2 => k_is))
    (case uCo => refine' AX.dat_mk ?ca ?cl ?cc ?ck ?ct; (case ca => k_is); (case cl => k_is); (case cc => k_is); (case ck => k_is); (case ct => k_is))
    (case f0 => refine' AX.fat_mk ?q0a ?q0l ?q0c ?q0k; (case q0a => k_is); (case q0l => k_is); (case q0c => k_is); (case q0k => k_is))
    (case f1 => refine' AX.fat_mk ?q1a ?q1l ?q1c ?q1k; (case q1a => k_is); (case q1l => k_is); (case q1c => k_is); (case q1k => k_is))
    (case f2 => refine' AX.fat_mk ?q2a ?q2l ?q2c ?q2k; (case q2a => k_is); (case q2l => k_is); (case q2c => k_is); (case q2k => k_is))
    (case f3 => refine' AX.fat_mk ?q3a ?q3l ?q3c ?q3k; (case q3a => k_is); (case q3l => k_is); (case q3c => k_is); (case q3k => k_is))
    (case f4 => refine' AX.fat_mk ?q4a ?q4l ?q4c ?q4k; (case q4a => k_is); (case q4l => k_is); (case q4c => k_is); (case q4k => k_is))
    (case f5 => refine' AX.fat_mk ?q5a ?q5l ?q5c ?q5k; (case q5a => k_is); (case q5l => k_is); (case q5c => k_is); (case q5k => k_is))
    (case f6 => refine' AX.fat_mk ?q6a ?q6l ?q6c ?q6k; (case q6a => k_is); (case q6l => k_is); (case q6c => k_is); (case q6k => k_is))
    (case f7 => refine' AX.fat_mk ?q7a ?q7l ?q7c ?q7k; (case q7a => k_is); (case q7l => k_is); (case q7c => k_is); (case q7k => k_is))
    (case f8 => refine' AX.fat_mk ?q8a ?q8l ?q8c ?q8k; (case q8a => k_is); (case q8l => k_is); (case q8c => k_is); (case q8k => k_is))
    (case f9 => refine' AX.fat_mk ?q9a ?q9l ?q9c ?q9k; (case q9a => k_is); (case q9l => k_is); (case q9c => k_is); (case q9k => k_is))
    (case f10 => refine' AX.fat_mk ?q10a ?q10l ?q10c ?q10k; (case q10a => k_is); (case q10l => k_is); (case q10c => k_is); (case q10k => k_is))
    (case f11 => refine' AX.fat_mk ?q11a ?q11l ?q11c ?q11k; (case q11a => k_is); (case q11l => k_is); (case q11c => k_is); (case q11k => k_is))
    (case f12 => refine' AX.fat_mk ?q12a ?q12l ?q12c ?q12k; (case q12a => k_is); (case q12l => k_is); (case q12c => k_is); (case q12k => k_is))
    (case f13 => refine' AX.fat_mk ?q13a ?q13l ?q13c ?q13k; (case q13a => k_is); (case q13l => k_is); (case q13c => k_is); (case q13k => k_is))
    (case f14 => refine' AX.fat_mk ?q14a ?q14l ?q14c ?q14k; (case q14a => k_is); (case q14l => k_is); (case q14c => k_is); (case q14k => k_is))
    (case f15 => refine' AX.fat_mk ?q15a ?q15l ?q15c ?q15k; (case q15a => k_is); (case q15l => k_is); (case q15c => k_is); (case q15k => k_is))
    (case f16 => refine' AX.fat_mk ?q16a ?q16l ?q16c ?q16k; (case q16a => k_is); (case q16l => k_is); (case q16c => k_is); (case q16k => k_is))
    (case f17 => refine' AX.fat_mk ?q17a ?q17l ?q17c ?q17k; (case q17a => k_is); (case q17l => k_is); (case q17c => k_is); (case q17k => k_is))
    (case f18 => refine' AX.fat_mk ?q18a ?q18l ?q18c ?q18k; (case q18a => k_is); (case q18l => k_is); (case q18c => k_is); (case q18k => k_is))
    (case f19 => refine' AX.fat_mk ?q19a ?q19l ?q19c ?q19k; (case q19a => k_is); (case q19l => k_is); (case q19c => k_is); (case q19k => k_is))
    (case f20 => refine' AX.fat_mk ?q20a ?q20l ?q20c ?q20k; (case q20a => k_is); (case q20l => k_is); (case q20c => k_is); (case q20k => k_is))
    (case ukn => refine' AX.sat_mk ?qkna; (case qkna => k_is))
    (case uap => refine' AX.sat_mk ?qapa; (case qapa => k_is))
    (case umo => refine' AX.iat_mk ?qmoa; (case qmoa => k_is))
    (case ums => refine' AX.iat_mk ?qmsa; (case qmsa => k_is))
    (case ucomb => k_is)
    (case z0 => k_is)
    (case z1 => k_is)
    (case z2 => k_is)
    (case z3 => k_is)
    (case z4 => k_is)
    (case z5 => k_is)
    (case z6 => k_is)
    (case z7 => k_is)
    (case z8 => k_is)
    (case z9 => k_is)
    (case z10 => k_is)
