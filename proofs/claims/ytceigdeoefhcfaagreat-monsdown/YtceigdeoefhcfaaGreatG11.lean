import Derived.Test.YtceigdeoefhcfaaGreatG10
import Derived.Maps.AppendAt
import Derived.Laws.OwnMore
import Derived.Laws.AppendOwnNone
import Derived.WalkSmall
import Derived.Lib.QuietBelow
import Derived.Sort.BigQuietIn
/- Two processes, one of which watches the other: what stands, and what is under way, in plain words. -/
namespace Go.Proofs.YtceigdeoefhcfaaGreat
open MV (Hf hf0 getL insL delL Rise Wfk TB Nw Rst KV)

/-- A signal: its kind, its reference, its term's kind and text. -/
structure Sg where (k r tk : Int) (ts : ByteArray)

/-- What targets are at the end, if all that is under way to the second one is delivered while it lives. -/
def rn : List Sg → (Int → Bool) → Int → Bool
  | [], t => t
  | s :: l, t => rn l (fun k => if k = s.r then (s.k == 6) else t k)
theorem rn_snoc (s : Sg) : ∀ (l : List Sg) (t : Int → Bool), rn (l ++ [s]) t = fun k => if k = s.r then (s.k == 6) else rn l t k
  | [], t => rfl
  | x :: l, t => by simp only [List.cons_append, rn]; exact rn_snoc s l _
theorem rn_mem : ∀ (l : List Sg) (t : Int → Bool) (r : Int), rn l t r = true → t r = true ∨ ∃ s ∈ l, s.k = 6 ∧ s.r = r
  | [], _, _, h => .inl h
  | x :: l, t, r, h => by
    rcases rn_mem l _ r h with h1 | ⟨s, hs, h2⟩
    · by_cases e : r = x.r
      · right
        refine ⟨x, by simp, ?_, e.symm⟩
        simpa [e] using h1
      · left; simpa [e] using h1
    · exact .inr ⟨s, by simp [hs], h2⟩

def c6 : List Sg → Nat
  | [] => 0
  | s :: l => (if s.k = 6 then 1 else 0) + c6 l
theorem c6_snoc (s : Sg) : ∀ l : List Sg, c6 (l ++ [s]) = c6 l + (if s.k = 6 then 1 else 0)
  | [] => by simp [c6]
  | x :: l => by simp only [List.cons_append, c6, c6_snoc s l]; omega

abbrev noproc : ByteArray := ⟨#[110, 111, 112, 114, 111, 99]⟩
abbrev oops : ByteArray := ⟨#[111, 111, 112, 115]⟩
abbrev nil8 : ByteArray := ⟨#[]⟩

/-- Is a reference one of these? -/
abbrev isK (r : Int) (L : List KV) : Bool := (getL r L).isSome

/-- What holds at all times. -/
structure Bs (g : Int → Prop) (i : Nat) (O T : List KV) (p q : List Sg) (refs : Nat) (dn : List Nat) (N : Nat) : Prop where
  ro : Rise O
  rt : Rise T
  o : ∀ x ∈ O, x.2 = ⟨x.1, 2, nil8⟩ ∧ 1 ≤ x.1 ∧ x.1 ≤ (refs : Int)
  t : ∀ x ∈ T, x.2 = ⟨x.1, 1, nil8⟩ ∧ 1 ≤ x.1 ∧ x.1 ≤ (refs : Int)
  fp : ∀ s ∈ p, (s.k = 6 ∨ s.k = 7) ∧ s.tk = 0 ∧ s.ts = nil8 ∧ 1 ≤ s.r ∧ s.r ≤ (refs : Int)
  fq : ∀ s ∈ q, s.k = 8 ∧ s.tk = 3 ∧ (s.ts = noproc ∨ s.ts = oops) ∧ 1 ≤ s.r ∧ s.r ≤ (refs : Int)
  l : dn.length = refs
  c : ∀ (n c : Nat), dn[n]? = some c → c ≤ 1 ∧ (isK ((n : Int) + 1) O = true → c = 0) ∧ (isK ((n : Int) + 1) O = false → c = 1 ∨ g ((n : Int) + 1))
  b : N + 2 * (T.length + c6 p) ≤ 4 * i
  r : refs ≤ i
  a : p.length + q.length ≤ N

/-- While the second one lives, and behind its end. -/
def Al (O T : List KV) (p q : List Sg) : Prop := q = [] ∧ ∀ r, rn p (fun k => isK k T) r = isK r O
def Ed (O T : List KV) (p q : List Sg) : Prop := ∀ r, isK r O = true → (∃ s ∈ q, s.r = r) ∨ isK r T = true ∨ ∃ s ∈ p, s.k = 6 ∧ s.r = r
structure Iv (g : Int → Prop) (i : Nat) (O T : List KV) (p q : List Sg) (dead : Bool) (refs : Nat) (dn : List Nat) (N : Nat) : Prop where
  bs : Bs g i O T p q refs dn N
  al : dead = false → Al O T p q
  ed : dead = true → T = [] ∧ Ed O T p q

theorem isK_mem {r : Int} {L : List KV} : isK r L = true ↔ ∃ x ∈ L, x.1 = r := MV.getL_isSome
theorem isK_ins (q r : Int) (v : Hf) (L : List KV) : isK q (insL r v L) = if r = q then true else isK q L := by
  unfold isK; rw [getL_ins]; split <;> rfl
theorem isK_del (q r : Int) (L : List KV) : isK q (delL r L) = if r = q then false else isK q L := by
  unfold isK; rw [getL_del]; split <;> rfl
theorem isK_out {r : Int} {L : List KV} {m : Int} (h : ∀ x ∈ L, x.1 ≤ m) (hr : m < r) : isK r L = false := by
  cases e : isK r L with
  | false => rfl
  | true => obtain ⟨x, hx, hk⟩ := isK_mem.1 e; have := h x hx; omega
theorem put_new {m : Int} {v : Hf} {L : List KV} (h1 : 1 ≤ v.a) (h2 : m ≤ v.b) (h3 : isK v.a L = false) : putL m v L = insL v.a v L := by
  unfold isK at h3
  unfold putL addL refB
  rw [h3]
  simp; intro h; omega

variable {g g' : Int → Prop} {i refs N : Nat} {O T : List KV} {p q : List Sg} {dead : Bool} {dn : List Nat}

theorem Bs.mem_ins {r : Int} {v : Hf} {L : List KV} {x : KV} (h : x ∈ insL r v L) : x = (r, v) ∨ x ∈ L := by
  simp only [insL, List.mem_append, List.mem_cons, List.mem_filter] at h
  rcases h with h | h | h
  · exact .inr h.1
  · exact .inl h
  · exact .inr h.1
theorem mem_del {r : Int} {L : List KV} {x : KV} (h : x ∈ delL r L) : x ∈ L := (List.mem_filter.1 h).1

theorem Bs.gone (h : Bs g i O T p q refs dn N) (hg : ∀ n, g n → g' n) : Bs g' i O T p q refs dn N :=
  ⟨h.ro, h.rt, h.o, h.t, h.fp, h.fq, h.l, fun n c hc => ⟨(h.c n c hc).1, (h.c n c hc).2.1, fun e => ((h.c n c hc).2.2 e).imp id (hg _)⟩, h.b, h.r, h.a⟩
theorem Iv.gone (h : Iv g i O T p q dead refs dn N) (hg : ∀ n, g n → g' n) : Iv g' i O T p q dead refs dn N := ⟨h.bs.gone hg, h.al, h.ed⟩
theorem Iv.next (h : Iv g i O T p q dead refs dn N) : Iv g (i + 1) O T p q dead refs dn N :=
  ⟨⟨h.bs.ro, h.bs.rt, h.bs.o, h.bs.t, h.bs.fp, h.bs.fq, h.bs.l, h.bs.c, by have := h.bs.b; omega, by have := h.bs.r; omega, h.bs.a⟩, h.al, h.ed⟩

/-- The first one watches. -/
theorem Iv.m1 (h : Iv g i O T p q dead refs dn N) : putL 0 ⟨((refs : Nat) : Int) + 1, 2, nil8⟩ O = insL ((refs : Int) + 1) ⟨(refs : Int) + 1, 2, nil8⟩ O ∧ Iv g (i + 1) (insL ((refs : Int) + 1) ⟨(refs : Int) + 1, 2, nil8⟩ O) T (p ++ [⟨6, (refs : Int) + 1, 0, nil8⟩]) q dead (refs + 1) (dn ++ [0]) (N + 2) := by
  have hb := h.bs
  have hno : isK ((refs : Int) + 1) O = false := isK_out (m := (refs : Int)) (fun x hx => (hb.o x hx).2.2) (by omega)
  refine ⟨put_new (by simp only; omega) (by simp only; omega) hno, ⟨⟨MV.rise_ins hb.ro, hb.rt, fun x hx => ?_, fun x hx => ?_, fun s hs => ?_, fun s hs => ?_, ?_, fun n c hc => ?_, ?_, ?_, ?_⟩, fun hd => ?_, fun hd => ?_⟩⟩
  · rcases Bs.mem_ins hx with rfl | hx
    · exact ⟨rfl, by simp only; omega, by simp⟩
    · have := hb.o x hx; exact ⟨this.1, this.2.1, by have := this.2.2; simp; omega⟩
  · have := hb.t x hx; exact ⟨this.1, this.2.1, by have := this.2.2; simp; omega⟩
  · rcases List.mem_append.1 hs with hs | hs
    · have := hb.fp s hs; exact ⟨this.1, this.2.1, this.2.2.1, this.2.2.2.1, by have := this.2.2.2.2; simp; omega⟩
    · obtain rfl : s = ⟨6, (refs : Int) + 1, 0, nil8⟩ := by simpa using hs
      exact ⟨.inl rfl, rfl, rfl, by simp only; omega, by simp⟩
  · have := hb.fq s hs; exact ⟨this.1, this.2.1, this.2.2.1, this.2.2.2.1, by have := this.2.2.2.2; simp; omega⟩
  · simp [hb.l]
  · rw [isK_ins]
    rcases Nat.lt_or_ge n dn.length with hn | hn
    · rw [List.getElem?_append_left hn] at hc
      have hne : ¬ ((refs : Int) + 1 = (n : Int) + 1) := by have := hb.l; omega
      rw [if_neg hne]
      exact hb.c n c hc
    · have hnl : n = dn.length := by
        have := (List.getElem?_eq_some_iff.1 hc).1
        simp at this; omega
      subst hnl
      rw [List.getElem?_append_right (Nat.le_refl _)] at hc
      obtain rfl : 0 = c := by simpa using hc
      rw [if_pos (by rw [hb.l])]
      exact ⟨by omega, fun _ => rfl, fun e => by cases e⟩
  · rw [c6_snoc]; have := hb.b; simp; omega
  · have := hb.r; omega
  · have := hb.a; simp; omega
  · obtain ⟨h1, h2⟩ := h.al hd
    refine ⟨h1, fun r => ?_⟩
    simp only [rn_snoc, isK_ins, h2 r]
    by_cases e : r = (refs : Int) + 1
    · simp [e]
    · simp [e, show ¬ (refs : Int) + 1 = r from fun x => e x.symm]
  · obtain ⟨h1, h2⟩ := h.ed hd
    refine ⟨h1, fun r hr => ?_⟩
    rw [isK_ins] at hr
    by_cases e : (refs : Int) + 1 = r
    · exact .inr (.inr ⟨⟨6, (refs : Int) + 1, 0, nil8⟩, by simp, rfl, e⟩)
    · rw [if_neg e] at hr
      rcases h2 r hr with hh | hh | ⟨s, hs, hh⟩
      · exact .inl hh
      · exact .inr (.inl hh)
      · exact .inr (.inr ⟨s, by simp [hs], hh⟩)

theorem Bs.delO (hb : Bs g i O T p q refs dn N) (r : Int) {dn' : List Nat} (hl : dn'.length = refs) (hc : ∀ (n c : Nat), dn'[n]? = some c → c ≤ 1 ∧ (isK ((n : Int) + 1) (delL r O) = true → c = 0) ∧ (isK ((n : Int) + 1) (delL r O) = false → c = 1 ∨ g ((n : Int) + 1))) : Bs g i (delL r O) T p q refs dn' N :=
  ⟨MV.rise_del hb.ro, hb.rt, fun x hx => hb.o x (mem_del hx), hb.t, hb.fp, hb.fq, hl, hc, hb.b, hb.r, hb.a⟩

/-- The first one gives a reference up. -/
theorem Iv.m2 (h : Iv g i O T p q dead refs dn N) {r : Int} (hr : isK r O = true) (hg : g r) : Iv g (i + 1) (delL r O) T (p ++ [⟨7, r, 0, nil8⟩]) q dead refs dn (N + 2) := by
  have hb := h.bs
  obtain ⟨x, hx, rfl⟩ := isK_mem.1 hr
  have hxo := hb.o x hx
  refine ⟨⟨MV.rise_del hb.ro, hb.rt, fun x hx => hb.o x (mem_del hx), hb.t, fun s hs => ?_, hb.fq, hb.l, fun n c hc => ?_, ?_, by have := hb.r; omega, ?_⟩, fun hd => ?_, fun hd => ?_⟩
  · rcases List.mem_append.1 hs with hs | hs
    · exact hb.fp s hs
    · obtain rfl : s = ⟨7, x.1, 0, nil8⟩ := by simpa using hs
      exact ⟨.inr rfl, rfl, rfl, hxo.2⟩
  · rw [isK_del]
    have := hb.c n c hc
    by_cases e : x.1 = (n : Int) + 1
    · rw [if_pos e]
      exact ⟨this.1, (fun e => by cases e), fun _ => .inr (e ▸ hg)⟩
    · rw [if_neg e]; exact this
  · rw [c6_snoc]; have := hb.b; simp; omega
  · have := hb.a; simp; omega
  · obtain ⟨h1, h2⟩ := h.al hd
    refine ⟨h1, fun r => ?_⟩
    simp only [rn_snoc, isK_del, h2 r]
    by_cases e : r = x.1
    · simp [e]
    · simp [e, show ¬ x.1 = r from fun y => e y.symm]
  · obtain ⟨h1, h2⟩ := h.ed hd
    refine ⟨h1, fun r hr => ?_⟩
    rw [isK_del] at hr
    by_cases e : x.1 = r
    · rw [if_pos e] at hr; cases hr
    · rw [if_neg e] at hr
      rcases h2 r hr with hh | hh | ⟨s, hs, hh⟩
      · exact .inl hh
      · exact .inr (.inl hh)
      · exact .inr (.inr ⟨s, by simp [hs], hh⟩)

/-- The first one takes an end in. -/
theorem Iv.m3 {s : Sg} (h : Iv g i O T p (s :: q) dead refs dn N) {dn' : List Nat} (hd' : (isK s.r O = false ∧ dn' = dn) ∨ (isK s.r O = true ∧ ∃ n : Nat, s.r = (n : Int) + 1 ∧ n < refs ∧ dn' = dn.set n (dn.getD n 0 + 1))) : Iv g i (delL s.r O) T p q dead refs dn' N := by
  have hb := h.bs
  have hdead : dead = true := by
    cases dead with
    | true => rfl
    | false => have := (h.al rfl).1; cases this
  refine ⟨⟨MV.rise_del hb.ro, hb.rt, fun x hx => hb.o x (mem_del hx), hb.t, hb.fp, fun s hs => hb.fq s (by simp [hs]), ?_, fun n c hc => ?_, hb.b, hb.r, by have := hb.a; simp at this; omega⟩, fun hd => ?_, fun hd => ?_⟩
  · rcases hd' with ⟨_, rfl⟩ | ⟨_, n, _, _, rfl⟩
    · exact hb.l
    · simp [hb.l]
  · rw [isK_del]
    rcases hd' with ⟨h1, rfl⟩ | ⟨h1, m, h2, h3, rfl⟩
    · by_cases e : s.r = (n : Int) + 1
      · have := hb.c n c hc
        rw [if_pos e]
        rw [e] at h1
        exact ⟨this.1, (fun e => by cases e), fun _ => this.2.2 h1⟩
      · rw [if_neg e]; exact hb.c n c hc
    · by_cases e : s.r = (n : Int) + 1
      · obtain rfl : m = n := by omega
        rw [if_pos e]
        rw [List.getElem?_set_self (by rw [hb.l]; exact h3)] at hc
        have hm := List.getElem?_eq_getElem (l := dn) (i := m) (by rw [hb.l]; exact h3)
        have := hb.c m _ hm
        rw [e] at h1
        have h0 := this.2.1 h1
        have hgd : dn.getD m 0 = 0 := by rw [List.getD_eq_getElem?_getD, hm]; simpa using h0
        obtain rfl : dn.getD m 0 + 1 = c := by simpa using hc
        rw [hgd]
        exact ⟨by omega, (fun e => by cases e), fun _ => .inl rfl⟩
      · rw [if_neg e]
        have hne : m ≠ n := fun x => e (by rw [h2, x])
        rw [List.getElem?_set_ne hne] at hc
        exact hb.c n c hc
  · rw [hdead] at hd; cases hd
  · obtain ⟨h1, h2⟩ := h.ed hd
    refine ⟨h1, fun r hr => ?_⟩
    rw [isK_del] at hr
    by_cases e : s.r = r
    · rw [if_pos e] at hr; cases hr
    · rw [if_neg e] at hr
      rcases h2 r hr with ⟨s', hs, hh⟩ | hh | hh
      · rcases List.mem_cons.1 hs with rfl | hs
        · exact absurd hh e
        · exact .inl ⟨s', hs, hh⟩
      · exact .inr (.inl hh)
      · exact .inr (.inr hh)

/-- The second one takes in: dead, a monitor is answered. -/
theorem Iv.m4d {s : Sg} (h : Iv g i O T (s :: p) q true refs dn N) (hk : s.k = 6) : Iv g i O T p (q ++ [⟨8, s.r, 3, noproc⟩]) true refs dn (N + 2) := by
  have hb := h.bs
  have hs := hb.fp s (by simp)
  refine ⟨⟨hb.ro, hb.rt, hb.o, hb.t, fun s hs => hb.fp s (by simp [hs]), fun s' hs' => ?_, hb.l, hb.c, ?_, hb.r, ?_⟩, (fun hd => by cases hd), fun _ => ?_⟩
  · rcases List.mem_append.1 hs' with h1 | h1
    · exact hb.fq s' h1
    · obtain rfl : s' = ⟨8, s.r, 3, noproc⟩ := by simpa using h1
      exact ⟨rfl, rfl, .inl rfl, hs.2.2.2⟩
  · have := hb.b; simp only [c6, hk, if_true] at this; omega
  · have := hb.a; simp at this ⊢; omega
  · obtain ⟨h1, h2⟩ := h.ed rfl
    refine ⟨h1, fun r hr => ?_⟩
    rcases h2 r hr with ⟨s', hs', hh⟩ | hh | ⟨s', hs', h3, h4⟩
    · exact .inl ⟨s', by simp [hs'], hh⟩
    · exact .inr (.inl hh)
    · rcases List.mem_cons.1 hs' with rfl | hs'
      · exact .inl ⟨⟨8, s'.r, 3, noproc⟩, by simp, h4⟩
      · exact .inr (.inr ⟨s', hs', h3, h4⟩)
/-- Dead, what is no monitor is passed over. -/
theorem Iv.m4x {s : Sg} (h : Iv g i O T (s :: p) q true refs dn N) (hk : s.k ≠ 6) : Iv g i O T p q true refs dn N := by
  have hb := h.bs
  refine ⟨⟨hb.ro, hb.rt, hb.o, hb.t, fun s hs => hb.fp s (by simp [hs]), hb.fq, hb.l, hb.c, ?_, hb.r, ?_⟩, (fun hd => by cases hd), fun _ => ?_⟩
  · have := hb.b; simp only [c6, hk, if_false] at this; omega
  · have := hb.a; simp at this ⊢; omega
  · obtain ⟨h1, h2⟩ := h.ed rfl
    refine ⟨h1, fun r hr => ?_⟩
    rcases h2 r hr with hh | hh | ⟨s', hs', h3, h4⟩
    · exact .inl hh
    · exact .inr (.inl hh)
    · rcases List.mem_cons.1 hs' with rfl | hs'
      · exact absurd h3 hk
      · exact .inr (.inr ⟨s', hs', h3, h4⟩)
/-- Alive, a monitor. -/
theorem Iv.m4a {s : Sg} (h : Iv g i O T (s :: p) q false refs dn N) (hk : s.k = 6) : Iv g i O (putL 1 ⟨s.r, 1, nil8⟩ T) p q false refs dn N := by
  have hb := h.bs
  have hs := hb.fp s (by simp)
  have hrb : refB 1 ⟨s.r, 1, nil8⟩ = false := by unfold refB; simp; exact hs.2.2.2.1
  have hpl : putL 1 ⟨s.r, 1, nil8⟩ T = addL ⟨s.r, 1, nil8⟩ T := by unfold putL; rw [hrb]; simp
  have hkk : ∀ r, isK r (putL 1 ⟨s.r, 1, nil8⟩ T) = if r = s.r then true else isK r T := by
    intro r
    rw [hpl]
    unfold addL
    cases e : (getL s.r T).isSome with
    | true =>
      simp only [if_true]
      by_cases e2 : r = s.r
      · rw [if_pos e2, e2]; exact e
      · rw [if_neg e2]
    | false =>
      simp only [Bool.false_eq_true, if_false]
      rw [isK_ins]
      by_cases e2 : r = s.r
      · rw [if_pos e2, if_pos e2.symm]
      · rw [if_neg e2, if_neg (fun x => e2 x.symm)]
  have hlen := put_len 1 ⟨s.r, 1, nil8⟩ hb.rt
  have hmem : ∀ x ∈ putL 1 ⟨s.r, 1, nil8⟩ T, x = (s.r, ⟨s.r, 1, nil8⟩) ∨ x ∈ T := by
    intro x hx
    rw [hpl] at hx
    unfold addL at hx
    split at hx
    · exact .inr hx
    · exact Bs.mem_ins hx
  have hri : Rise (putL 1 ⟨s.r, 1, nil8⟩ T) := by
    rw [hpl]; unfold addL; split
    · exact hb.rt
    · exact MV.rise_ins hb.rt
  refine ⟨⟨hb.ro, hri, hb.o, fun x hx => ?_, fun s hs => hb.fp s (by simp [hs]), hb.fq, hb.l, hb.c, ?_, hb.r, ?_⟩, fun _ => ?_, fun hd => by cases hd⟩
  · rcases hmem x hx with rfl | hx
    · exact ⟨rfl, hs.2.2.2⟩
    · exact hb.t x hx
  · have := hb.b; simp only [c6, hk, if_true] at this; omega
  · have := hb.a; simp at this ⊢; omega
  · obtain ⟨h1, h2⟩ := h.al rfl
    refine ⟨h1, fun r => ?_⟩
    rw [← h2 r]
    simp only [rn, hk]
    congr 1
    funext k
    rw [hkk k]
    rfl
/-- Alive, a demonitor. -/
theorem Iv.m4e {s : Sg} (h : Iv g i O T (s :: p) q false refs dn N) (hk : s.k ≠ 6) : Iv g i O (delL s.r T) p q false refs dn N := by
  have hb := h.bs
  have hle := del_le s.r T
  refine ⟨⟨hb.ro, MV.rise_del hb.rt, hb.o, fun x hx => hb.t x (mem_del hx), fun s hs => hb.fp s (by simp [hs]), hb.fq, hb.l, hb.c, ?_, hb.r, ?_⟩, fun _ => ?_, fun hd => by cases hd⟩
  · have := hb.b; simp only [c6, hk, if_false] at this; omega
  · have := hb.a; simp at this ⊢; omega
  · obtain ⟨h1, h2⟩ := h.al rfl
    refine ⟨h1, fun r => ?_⟩
    rw [← h2 r]
    simp only [rn]
    congr 1
    funext k
    rw [isK_del]
    by_cases e : k = s.r
    · simp [e, hk]
    · simp [e, show ¬ s.r = k from fun x => e x.symm]
/-- The second one ends: its targets are told, one by one. -/
theorem Bs.pop {x : KV} (hb : Bs g i O (x :: T) p q refs dn N) : Bs g i O T p (q ++ [⟨8, x.1, 3, oops⟩]) refs dn (N + 2) := by
  have hx := hb.t x (by simp)
  refine ⟨hb.ro, (List.pairwise_cons.1 hb.rt).2, hb.o, fun y hy => hb.t y (by simp [hy]), hb.fp, fun s' hs' => ?_, hb.l, hb.c, ?_, hb.r, ?_⟩
  · rcases List.mem_append.1 hs' with h1 | h1
    · exact hb.fq s' h1
    · obtain rfl : s' = ⟨8, x.1, 3, oops⟩ := by simpa using h1
      exact ⟨rfl, rfl, .inr rfl, hx.2⟩
  · have := hb.b; simp at this; omega
  · have := hb.a; simp at this ⊢; omega
theorem Ed.pop {x : KV} (h : Ed O (x :: T) p q) : Ed O T p (q ++ [⟨8, x.1, 3, oops⟩]) := by
  intro r hr
  rcases h r hr with ⟨s', hs', hh⟩ | hh | hh
  · exact .inl ⟨s', by simp [hs'], hh⟩
  · obtain ⟨y, hy, rfl⟩ := isK_mem.1 hh
    rcases List.mem_cons.1 hy with rfl | hy
    · exact .inl ⟨⟨8, y.1, 3, oops⟩, by simp, rfl⟩
    · exact .inr (.inl (isK_mem.2 ⟨y, hy, rfl⟩))
  · exact .inr (.inr hh)
theorem Al.ed (h : Al O T p q) : Ed O T p q := by
  intro r hr
  rw [← h.2 r] at hr
  rcases rn_mem p _ r hr with h1 | h1
  · exact .inr (.inl h1)
  · exact .inr (.inr h1)
theorem Iv.ended (hb : Bs g i O [] p q refs dn N) (he : Ed O [] p q) : Iv g i O [] p q true refs dn N := ⟨hb, (fun h => by cases h), fun _ => ⟨rfl, he⟩⟩

/-- All is delivered. -/
theorem Iv.fin_dead (h : Iv g i O T [] [] true refs dn N) : O = [] ∧ T = [] := by
  obtain ⟨h1, h2⟩ := h.ed rfl
  refine ⟨?_, h1⟩
  cases O with
  | nil => rfl
  | cons x r =>
    rcases h2 x.1 (isK_mem.2 ⟨x, by simp, rfl⟩) with ⟨_, hs, _⟩ | hh | ⟨_, hs, _⟩
    · cases hs
    · rw [h1] at hh; cases hh
    · cases hs
theorem rise_same : ∀ {L L' : List KV}, Rise L → Rise L' → (∀ r, isK r L = isK r L') → L.map (·.1) = L'.map (·.1)
  | [], [], _, _, _ => rfl
  | [], y :: r, _, _, h => by
    have h8 := h y.1
    have h9 : isK y.1 (y :: r) = true := isK_mem.2 ⟨y, by simp, rfl⟩
    rw [h9] at h8
    simp [isK, getL] at h8
  | y :: r, [], _, _, h => by
    have h8 := h y.1
    have h9 : isK y.1 (y :: r) = true := isK_mem.2 ⟨y, by simp, rfl⟩
    rw [h9] at h8
    simp [isK, getL] at h8
  | x :: l, y :: r, h1, h2, h => by
    have a1 := List.pairwise_cons.1 h1
    have a2 := List.pairwise_cons.1 h2
    have hx : x.1 = y.1 := by
      have e1 := h x.1
      rw [isK_mem.2 ⟨x, by simp, rfl⟩] at e1
      obtain ⟨z, hz, hzx⟩ := isK_mem.1 e1.symm
      have e2 := h y.1
      rw [show isK y.1 (y :: r) = true from isK_mem.2 ⟨y, by simp, rfl⟩] at e2
      obtain ⟨u, hu, huy⟩ := isK_mem.1 e2
      rcases List.mem_cons.1 hz with rfl | hz
      · exact hzx.symm
      · rcases List.mem_cons.1 hu with rfl | hu
        · exact huy
        · have := a2.1 z hz; have := a1.1 u hu; omega
    simp only [List.map_cons, hx]
    congr 1
    refine rise_same a1.2 a2.2 (fun r' => ?_)
    have := h r'
    rw [Bool.eq_iff_iff, isK_mem, isK_mem] at this ⊢
    constructor
    · rintro ⟨z, hz, rfl⟩
      obtain ⟨u, hu, hh⟩ := this.1 ⟨z, by simp [hz], rfl⟩
      rcases List.mem_cons.1 hu with rfl | hu
      · have := a1.1 z hz; omega
      · exact ⟨u, hu, hh⟩
    · rintro ⟨z, hz, rfl⟩
      obtain ⟨u, hu, hh⟩ := this.2 ⟨z, by simp [hz], rfl⟩
      rcases List.mem_cons.1 hu with rfl | hu
      · have := a2.1 z hz; omega
      · exact ⟨u, hu, hh⟩
theorem Iv.fin_live (h : Iv g i O T [] [] false refs dn N) : O.map (·.1) = T.map (·.1) := by
  obtain ⟨_, h2⟩ := h.al rfl
  exact rise_same h.bs.ro h.bs.rt (fun r => (h2 r).symm)

end Go.Proofs.YtceigdeoefhcfaaGreat


/- The document's halves of monitors: rows; find. -/
namespace Go.Proofs.YtceigdeoefhcfaaGreat
open Go.RowKit Go.Lib
namespace MV
attribute [local go_sem] store_float f64bits
attribute [local go_sem ↓] Go.wp_at_zero Go.wp_at_succ

abbrev MnT : Nat := 40

theorem own_sl {w : World} {C e size n : Nat} {v : Value} {xs : List Value} (h : w.ownsRow C e size v n xs) : ∃ a c, v = .slice a n c := by
  rcases h.2 with ⟨rfl, rfl⟩ | ⟨g, cap, cur, rfl, _⟩
  · exact ⟨_, _, rfl⟩
  · exact ⟨_, _, rfl⟩
theorem But.of_grown {S : Nat → Prop} {w w' : World} {row : Option Nat} (h : w.grownBy w' row) (hs : ∀ g, row = some g → S g) : But S w w' :=
  ⟨h.os, h.tape, h.output, h.size, fun k hk hn => h.block k hk (fun e => hn (hs k e.symm))⟩
theorem row_but {S : Nat → Prop} {w w' : World} {C e size n : Nat} {v : Value} {xs : List Value} (h : w.ownsRow C e size v n xs) (hb : But S w w') (hs : ∀ g, v.ownBlock = some g → ¬ S g) : w'.ownsRow C e size v n xs := by
  refine ⟨h.1, ?_⟩
  rcases h.2 with hn | ⟨g, cap, cur, rfl, hc, hg, r⟩
  · exact .inl hn
  · exact .inr ⟨g, cap, cur, rfl, hc, (hb.block g (Array.getElem?_eq_some_iff.1 hg).1 (hs g rfl)).trans hg, r⟩
theorem row_lift {w : World} {B B' e size n : Nat} {V : Value} {xs : List Value} (h : w.ownsRow B' e size V n xs) (hB : ∀ g, V.ownBlock = some g → B ≤ g) : w.ownsRow B e size V n xs := by
  refine ⟨h.1, ?_⟩
  rcases h.2 with h0 | ⟨g, cap, cur, rfl, _, r⟩
  · exact .inl h0
  · exact .inr ⟨g, cap, cur, rfl, hB g rfl, r⟩
theorem row_free {w : World} {g c n e size : Nat} {xs : List Value} (h : w.ownsRow 0 e size (.slice (some ⟨g, 0, none⟩) n c) n xs) (j : Nat) : w.frozen? ⟨g, j, none⟩ = false := by
  rcases h.2 with ⟨h0, _⟩ | ⟨g', cap, cur, h0, _, hg', _⟩
  · cases h0
  · obtain ⟨rfl, _⟩ : g = g' ∧ c = cap := by simpa using h0
    simp [World.frozen?, hg']
theorem row_cap {w : World} {g c n e size : Nat} {xs : List Value} (h : w.ownsRow 0 e size (.slice (some ⟨g, 0, none⟩) n c) n xs) : n ≤ c := by
  rcases h.2 with ⟨h0, _⟩ | ⟨g', cap, cur, h0, _, _, hc, _⟩
  · cases h0
  · obtain ⟨_, rfl⟩ : g = g' ∧ c = cap := by simpa using h0
    exact hc

/-- Half-links as cells. -/
def mvs : List KV → List Value
  | [] => []
  | x :: r => .int .i64 x.2.a :: .int .i64 x.2.b :: .string x.2.c :: mvs r
theorem mvs_length (l : List KV) : (mvs l).length = l.length * 3 := by
  induction l with
  | nil => rfl
  | cons x r ih => simp only [mvs, List.length_cons, ih]; omega
theorem mvs_append (a b : List KV) : mvs (a ++ b) = mvs a ++ mvs b := by
  induction a with
  | nil => rfl
  | cons x r ih => simp [mvs, ih]
theorem mvs_one (l : List KV) : ∀ u ∈ mvs l, u.oneCell' = true := by
  induction l with
  | nil => intro u hu; simp [mvs] at hu
  | cons x r ih =>
    intro u hu
    simp only [mvs, List.mem_cons] at hu
    rcases hu with rfl | rfl | rfl | hu
    · rfl
    · rfl
    · rfl
    · exact ih u hu
theorem mvs_get : ∀ {l : List KV} {j : Nat} {x : KV}, l[j]? = some x → (mvs l)[j * 3]? = some (.int .i64 x.2.a) ∧ (mvs l)[j * 3 + 1]? = some (.int .i64 x.2.b) ∧ (mvs l)[j * 3 + 2]? = some (.string x.2.c)
  | [], _, _, h => by simp at h
  | y :: r, 0, x, h => by simp at h; subst h; simp [mvs]
  | y :: r, j + 1, x, h => by
    have := mvs_get (l := r) (j := j) (x := x) (by simpa using h)
    simp only [mvs]
    rw [show (j + 1) * 3 = j * 3 + 1 + 1 + 1 by omega, show j * 3 + 1 + 1 + 1 + 1 = (j * 3 + 1) + 1 + 1 + 1 by omega, show j * 3 + 1 + 1 + 1 + 2 = (j * 3 + 2) + 1 + 1 + 1 by omega]
    simpa using this
theorem mvs_set (A r : List KV) (x y : KV) : (((mvs (A ++ x :: r)).set (A.length * 3) (.int .i64 y.2.a)).set (A.length * 3 + 1) (.int .i64 y.2.b)).set (A.length * 3 + 2) (.string y.2.c) = mvs (A ++ y :: r) := by
  rw [mvs_append, mvs_append, ← mvs_length A]
  simp only [mvs]
  rw [List.set_append_right _ _ (Nat.le_refl _), List.set_append_right _ _ (by omega), List.set_append_right _ _ (by omega)]
  simp

theorem row_get {w : World} {B n : Nat} {v : Value} {l : List KV} (h : w.ownsRow B MnT 3 v n (mvs l)) {j : Nat} {x : KV} (hj : l[j]? = some x) : ∃ g c, v = .slice (some ⟨g, 0, none⟩) n c ∧ w.cell? ⟨g, j * 3, none⟩ = some (.int .i64 x.2.a) ∧ w.cell? ⟨g, j * 3 + 1, none⟩ = some (.int .i64 x.2.b) ∧ w.cell? ⟨g, j * 3 + 2, none⟩ = some (.string x.2.c) := by
  have hl : n = l.length := by have := h.1; rw [mvs_length] at this; omega
  have hjl := (List.getElem?_eq_some_iff.1 hj).1
  rcases h.2 with ⟨rfl, h0⟩ | ⟨g, cap, cur, rfl, _⟩
  · omega
  · obtain ⟨h1, h2, h3⟩ := mvs_get hj
    exact ⟨g, cap, rfl, by rw [h.cellAt _ (by omega)]; exact h1, by rw [h.cellAt _ (by omega)]; exact h2, by rw [h.cellAt _ (by omega)]; exact h3⟩

/-- Is a pid the first of a row? -/
def hdB (key : Int) : List KV → Bool
  | [] => false
  | x :: _ => x.1 == key
theorem getL_hd {key : Int} {A B : List KV} (h : Rise (A ++ B)) (h1 : ∀ x ∈ A, x.1 < key) (h2 : ∀ x ∈ B, key ≤ x.1) : (getL key (A ++ B)).isSome = hdB key B := by
  rw [getL_split h h1 h2]
  cases B with
  | nil => rfl
  | cons x r => by_cases e : x.1 = key <;> simp [hdB, e]

theorem mvs_drop : ∀ (l : List KV) (i : Nat), mvs (l.drop i) = (mvs l).drop (i * 3)
  | l, 0 => by simp
  | [], i + 1 => by simp [mvs]
  | x :: r, i + 1 => by
    rw [show (i + 1) * 3 = i * 3 + 1 + 1 + 1 by omega]
    simp only [mvs, List.drop_succ_cons]
    exact mvs_drop r i

/-- What lies from a place of a row on, as a slice. -/
theorem cut_from {w : World} {B g c n i : Nat} {l : List KV} (h : w.ownsRow B MnT 3 (.slice (some ⟨g, 0, none⟩) n c) n (mvs l)) (hi : i ≤ n) (hc : n ≤ c) {ad : Addr} (had : (if c = i then some (⟨g, 0, none⟩ : Addr) else some ⟨g, i * 3, none⟩) = some ad) :
    ∀ j u, (mvs (l.drop i))[j]? = some u → w.cell? (ad.add j) = some u := by
  have hl : n = l.length := by have := h.1; rw [mvs_length] at this; omega
  intro j u hj
  have hjl := (List.getElem?_eq_some_iff.1 hj).1
  rw [mvs_length, List.length_drop] at hjl
  by_cases e : c = i
  · omega
  · rw [if_neg e] at had
    obtain rfl : (⟨g, i * 3, none⟩ : Addr) = ad := by simpa using had
    have e1 : (⟨g, i * 3, none⟩ : Addr).add j = ⟨g, i * 3 + j, none⟩ := by unfold Addr.add; split <;> simp_all
    rw [e1, h.cellAt (i * 3 + j) (by omega), ← hj, mvs_drop, List.getElem?_drop]

theorem infoM : ∃ i0, Tryz.prog.info? MnT = some i0 ∧ i0.zero = some (.agg #[.int .i64 0, .int .i64 0, .string ⟨#[]⟩]) ∧ i0.size = 3 ∧ i0.bytes = 32 := info_parts (show (Tryz.prog.info? MnT).map (fun i => (i.zero, i.size, i.bytes)) = some (some (.agg #[.int .i64 0, .int .i64 0, .string ⟨#[]⟩]), 3, 32) by kernel_rfl)

theorem cell3_new (w : World) (a b c : Value) (t : TypeId) : ∀ (j : Nat) (u : Value), [a, b, c][j]? = some u → (w.alloc (.cells #[a, b, c] t)).cell? ((⟨w.heap.size, 0, none⟩ : Addr).add j) = some u := by
  intro j u h
  have e1 : (⟨w.heap.size, 0, none⟩ : Addr).add j = ⟨w.heap.size, j, none⟩ := by unfold Addr.add; split <;> simp_all
  rw [e1, World.cell?_alloc_new]
  simpa using h

theorem made0 (w : World) : (w.alloc (.cells #[] MnT)).ownsRow w.heap.size MnT 3 (.slice (some ⟨w.heap.size, 0, none⟩) 0 0) 0 [] := World.ownsRow_made w #[] 0 (Nat.le_refl _) (by unfold maxLen; omega) (by simp)

theorem head_news {w w' : World} {B g c n : Nat} {A r : List KV} (h : w.ownsRow B MnT 3 (.slice (some ⟨g, 0, none⟩) n c) n (mvs (A ++ r))) (hb : Below w.heap.size w w') : ∀ (j : Nat) (u : Value), (mvs A)[j]? = some u → w'.cell? ((⟨g, 0, none⟩ : Addr).add j) = some u := by
  intro j u hj
  have hl : n * 3 = (A ++ r).length * 3 := by have := h.1; rw [mvs_length] at this; omega
  have hjl := (List.getElem?_eq_some_iff.1 hj).1
  have e1 : (⟨g, 0, none⟩ : Addr).add j = ⟨g, j, none⟩ := by unfold Addr.add; split <;> simp_all
  rw [mvs_length] at hjl
  rw [List.length_append] at hl
  have hc : w.cell? ⟨g, j, none⟩ = some u := by rw [h.cellAt j (by omega), ← hj, mvs_append, List.getElem?_append_left (by rw [mvs_length]; exact hjl)]
  rw [e1, hb.cell (World.block_lt_of_cell? _ _ hc), hc]

theorem _root_.Go.World.ownsRow.keep9 {w w' : World} {C e size n : Nat} {v : Value} {xs : List Value} (h : w.ownsRow C e size v n xs) (hb : Below w.heap.size w w') : w'.ownsRow C e size v n xs := row_but h (But.of_below (S := fun _ => False) hb) (fun _ _ h => h)

theorem drop_mid (a b : List KV) (x : KV) : (a ++ x :: b).drop (a.length + 1) = b := by
  induction a with
  | nil => rfl
  | cons y a ih => simp [ih]


end MV
end Go.Proofs.YtceigdeoefhcfaaGreat


