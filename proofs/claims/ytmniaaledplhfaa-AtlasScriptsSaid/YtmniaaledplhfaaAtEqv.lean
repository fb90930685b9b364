/- The records of the reference's atlas, in the order in which they came, and those of the code's, which rise: the same. -/
import Derived.Test.YtmniaaledplhfaaAtRDel
namespace Go.Proofs.Ytmniaaledplhfaa.At
open Go.Proofs.Ytmniaaledplhfaa.Ky Go.Proofs.Ytmniaaledplhfaa.Bk Go.Proofs.Ytmniaaledplhfaa.Pt

def apartR (K : List Rec) : Prop := K.Pairwise fun a b => a.1 ≠ b.1
theorem up_apart {L : List Rec} (h : upL L) : apartR L := List.Pairwise.imp (fun h => cmp_irr h) h
theorem split_at {K : List Rec} {j : Nat} (hj : j < K.length) : K = K.take j ++ K[j] :: K.drop (j + 1) := by
  rw [← List.drop_eq_getElem_cons hj, List.take_append_drop]
theorem rem_mem {K : List Rec} (hp : apartR K) {j : Nat} (hj : j < K.length) {r : Rec} : r ∈ K.take j ++ K.drop (j + 1) ↔ r ∈ K ∧ r.1 ≠ K[j].1 := by
  have hs := split_at hj
  have hp' := hp
  unfold apartR at hp'
  rw [hs] at hp'
  obtain ⟨_, p2, p3⟩ := List.pairwise_append.1 hp'
  obtain ⟨p4, _⟩ := List.pairwise_cons.1 p2
  constructor
  · intro h
    rcases List.mem_append.1 h with h1 | h1
    · exact ⟨List.mem_of_mem_take h1, p3 r h1 _ (List.mem_cons_self ..)⟩
    · exact ⟨List.mem_of_mem_drop h1, fun e => p4 r h1 e.symm⟩
  · rintro ⟨h, hne⟩
    rw [hs] at h
    rcases List.mem_append.1 h with h1 | h1
    · exact List.mem_append_left _ h1
    · rcases List.mem_cons.1 h1 with rfl | h1
      · exact absurd rfl hne
      · exact List.mem_append_right _ h1
theorem rem_apart {K : List Rec} (hp : apartR K) {j : Nat} (hj : j < K.length) : apartR (K.take j ++ K.drop (j + 1)) := by
  unfold apartR at hp ⊢
  rw [split_at hj] at hp
  obtain ⟨p1, p2, p3⟩ := List.pairwise_append.1 hp
  obtain ⟨_, p5⟩ := List.pairwise_cons.1 p2
  exact List.pairwise_append.2 ⟨p1, p5, fun a ha b hb => p3 a ha b (List.mem_cons_of_mem _ hb)⟩
theorem set_parts {K : List Rec} {j : Nat} (hj : j < K.length) (x : Rec) : K.set j x = K.take j ++ x :: K.drop (j + 1) := by
  rw [List.set_eq_take_append_cons_drop, if_pos hj]
theorem set_mem {K : List Rec} (hp : apartR K) {j : Nat} (hj : j < K.length) {x r : Rec} : r ∈ K.set j x ↔ r = x ∨ (r ∈ K ∧ r.1 ≠ K[j].1) := by
  rw [set_parts hj, ← rem_mem hp hj, List.mem_append, List.mem_cons, List.mem_append]
  constructor
  · rintro (h | h | h)
    · exact .inr (.inl h)
    · exact .inl h
    · exact .inr (.inr h)
  · rintro (h | h | h)
    · exact .inr (.inl h)
    · exact .inl h
    · exact .inr (.inr h)
theorem set_apart {K : List Rec} (hp : apartR K) {j : Nat} (hj : j < K.length) {x : Rec} (hx : x.1 = K[j].1) : apartR (K.set j x) := by
  have h := hp
  unfold apartR at h ⊢
  rw [split_at hj] at h
  rw [set_parts hj]
  obtain ⟨p1, p2, p3⟩ := List.pairwise_append.1 h
  obtain ⟨p4, p5⟩ := List.pairwise_cons.1 p2
  exact List.pairwise_append.2 ⟨p1, List.pairwise_cons.2 ⟨fun y hy => by rw [hx]; exact p4 y hy, p5⟩, fun a ha b hb => by
    rcases List.mem_cons.1 hb with rfl | hb
    · rw [hx]; exact p3 a ha _ (List.mem_cons_self ..)
    · exact p3 a ha b (List.mem_cons_of_mem _ hb)⟩
theorem mem_cut {L : List Rec} (hu : upL L) (k : List Nat) {r : Rec} : r ∈ cutR L k ↔ r ∈ L ∧ r.1 ≠ k := by
  unfold cutR
  cases hh : hasN L k with
  | true =>
    obtain ⟨h1, h2⟩ := hasN_iff.1 hh
    rw [if_pos rfl, rem_mem (up_apart hu) h1, h2]
  | false =>
    rw [if_neg (by simp)]
    exact ⟨fun h => ⟨h, fun e => by
      have := (hasN_mem hu k).2 ⟨r, h, e⟩
      rw [hh] at this; cases this⟩, fun h => h.1⟩
/-- the two atlases hold the same -/
structure EqR (K L : List Rec) : Prop where
  up : upL L
  apart : apartR K
  mem : ∀ r, r ∈ K ↔ r ∈ L
theorem EqR.nil : EqR [] [] := ⟨List.Pairwise.nil, List.Pairwise.nil, fun _ => Iff.rfl⟩
theorem EqR.sort {K L : List Rec} (h : EqR K L) : sortR K = L := by
  obtain ⟨h1, h2⟩ := sort_from K [] List.Pairwise.nil (fun x hx => absurd hx (by simp)) h.apart
  exact up_ext h1 h.up fun r => by
    rw [← h.mem r]
    exact (h2 r).trans ⟨fun h => h.elim (fun h => absurd h (by simp)) id, .inr⟩
theorem EqR.len {K L : List Rec} (h : EqR K L) : K.length = L.length := by rw [← h.sort, sort_len]
theorem EqR.put {K L K' : List Rec} {k : List Nat} {t : ByteArray} (h : EqR K L) (hp : PutR K k t K') : EqR K' (putR L (k, t)) := by
  rcases hp with ⟨j, hj, hk, rfl⟩ | ⟨hno, rfl⟩
  · exact ⟨up_put h.up _, set_apart h.apart hj hk.symm, fun r => by rw [set_mem h.apart hj, mem_put h.up, hk, h.mem r]⟩
  · have hn : ∀ r ∈ K, r.1 ≠ k := fun r hr => by obtain ⟨j, hj, rfl⟩ := List.getElem_of_mem hr; exact hno j hj
    refine ⟨up_put h.up _, List.pairwise_append.2 ⟨h.apart, List.pairwise_singleton _ _, fun a ha b hb => ?_⟩, fun r => ?_⟩
    · have : b = (k, t) := by simpa using hb
      subst this
      exact hn a ha
    · rw [mem_put h.up, List.mem_append, List.mem_singleton, ← h.mem r]
      exact ⟨fun h => h.elim (fun h => .inr ⟨h, hn r h⟩) .inl, fun h => h.elim .inr (fun h => .inl h.1)⟩
theorem EqR.no {K L : List Rec} {k : List Nat} (h : EqR K L) (hno : ∀ j, (h : j < K.length) → K[j].1 ≠ k) : hasN L k = false := by
  cases hh : hasN L k with
  | false => rfl
  | true =>
    obtain ⟨r, hr, e⟩ := (hasN_mem h.up k).1 hh
    obtain ⟨j, hj, rfl⟩ := List.getElem_of_mem ((h.mem r).2 hr)
    exact absurd e (hno j hj)
theorem EqR.yes {K L : List Rec} {k : List Nat} (h : EqR K L) {j : Nat} (hj : j < K.length) (hk : K[j].1 = k) : hasN L k = true :=
  (hasN_mem h.up k).2 ⟨K[j], (h.mem _).1 (List.getElem_mem hj), hk⟩
theorem EqR.at {K L : List Rec} {k : List Nat} {s : ByteArray} (h : EqR K L) {j : Nat} (hj : j < K.length) (hk : K[j] = (k, s)) : dataAt L k = s := by
  obtain ⟨h1, h2⟩ := hasN_iff.1 (h.yes (k := k) hj (by rw [hk]))
  rw [dataAt_eq h1]
  have hm : K[j] ∈ L := (h.mem _).1 (List.getElem_mem hj)
  rw [hk] at hm
  rw [up_key h.up (List.getElem_mem h1) hm h2]
/-- what 'Delete' of the code answers, and makes of the records -/
theorem EqR.del {K L K' : List Rec} {k : List Nat} {d c : Int} (h : EqR K L) (hd : DelR K k d c K') :
    EqR K' (if checkB k.length d = true then cutR L k else L) ∧ c = (if checkB k.length d = true then (if hasN L k = true then 0 else 5) else 1) := by
  rcases hd with ⟨h1, h2, rfl⟩ | ⟨h1, h2, h3, rfl⟩ | ⟨h1, j, hj, hk, h3, rfl⟩
  · rw [if_neg (by simp [h1]), if_neg (by simp [h1])]; exact ⟨h, h2⟩
  · have hn := h.no h2
    rw [if_pos h1, if_pos h1, if_neg (by simp [hn])]
    exact ⟨by unfold cutR; rw [hn]; exact h, h3⟩
  · have hn := h.yes hj hk
    rw [if_pos h1, if_pos h1, if_pos hn]
    exact ⟨⟨up_cut h.up _, rem_apart h.apart hj, fun r => by rw [rem_mem h.apart hj, mem_cut h.up, hk, h.mem r]⟩, h3⟩
end Go.Proofs.Ytmniaaledplhfaa.At
