import Derived.Test.YtdpfmmbfidknfaaGreatDoorG13
/- Operators in a row, with brackets and without: what the grammar tells of both. -/
namespace Go.Proofs.YtdpfmmbfidknfaaGreatDoor

/-- A digit, an operator (by its number), brackets. -/
inductive Ex where
  | d (n : Nat)
  | o (s : Nat) (l r : Ex)
  | br (e : Ex)

def opX : Nat → ByteArray
  | 0 => ⟨#[111, 114, 101, 108, 115, 101]⟩
  | 1 => ⟨#[97, 110, 100, 97, 108, 115, 111]⟩
  | 2 => ⟨#[61, 61]⟩
  | 3 => ⟨#[60]⟩
  | 4 => ⟨#[61, 58, 61]⟩
  | 5 => ⟨#[43, 43]⟩
  | 6 => ⟨#[43]⟩
  | 7 => ⟨#[45]⟩
  | 8 => ⟨#[42]⟩
  | 9 => ⟨#[47]⟩
  | 10 => ⟨#[100, 105, 118]⟩
  | _ => ⟨#[114, 101, 109]⟩
def opK (s : Nat) : Int := if s = 0 ∨ s = 1 ∨ s = 10 ∨ s = 11 then 7 else 6
/-- How tightly an operator binds. -/
def lev : Nat → Nat
  | 0 => 1
  | 1 => 2
  | 2 => 3
  | 3 => 3
  | 4 => 3
  | 5 => 4
  | 6 => 5
  | 7 => 5
  | _ => 6
def opT (s : Nat) : Tk := ⟨opK s, opX s, 0, 0, 0⟩
def dT (n : Nat) : Tk := ⟨3, ⟨#[]⟩, (n : Int), 0, 0⟩
def lT : Tk := ⟨6, ⟨#[40]⟩, 0, 0, 0⟩
def rT : Tk := ⟨6, ⟨#[41]⟩, 0, 0, 0⟩

namespace Ex
def toks : Ex → List Tk
  | d n => [dT n]
  | o s l r => toks l ++ opT s :: toks r
  | br e => lT :: (toks e ++ [rT])
def sz : Ex → Nat
  | d _ => 1
  | o _ l r => sz l + sz r + 1
  | br e => sz e
/-- How great it is, brackets and all. -/
def big : Ex → Nat
  | d _ => 1
  | o _ l r => big l + big r + 1
  | br e => big e + 1
def emit : Nat → Ex → List Nd
  | _, d n => [⟨1, ⟨#[]⟩, (n : Int), 0, [], 0⟩]
  | b, o s l r => emit b l ++ (emit (b + sz l) r ++ [⟨9, opX s, 0, 0, [b + sz l - 1, b + sz l + sz r - 1], 0⟩])
  | b, br e => emit b e
def lo : Ex → Nat
  | o s _ _ => lev s
  | _ => 7
def dep : Ex → Nat
  | d _ => 0
  | o _ l r => max (dep l) (dep r)
  | br e => dep e + 1
/-- What may stand on both sides of an operator. -/
def Side (v a b : Nat) : Prop := if v = 5 ∨ v = 6 then v ≤ a ∧ v < b else if v = 3 then v < a ∧ v < b else v < a ∧ v ≤ b
def WF : Ex → Prop
  | d _ => True
  | o s l r => s < 12 ∧ WF l ∧ WF r ∧ Side (lev s) (lo l) (lo r)
  | br e => WF e

theorem sz_pos : ∀ e : Ex, 0 < sz e
  | d _ => by simp [sz]
  | o _ l r => by simp [sz]
  | br e => sz_pos e
theorem emit_len : ∀ (e : Ex) (b : Nat), (emit b e).length = sz e
  | d _, _ => rfl
  | o s l r, b => by simp only [emit, List.length_append, emit_len l, emit_len r, sz, List.length_singleton]; omega
  | br e, b => emit_len e b
theorem toks_hd : ∀ e : Ex, ∃ t l, toks e = t :: l ∧ ((∃ n, t = dT n) ∨ t = lT)
  | d n => ⟨_, _, rfl, .inl ⟨n, rfl⟩⟩
  | o s l r => by
    obtain ⟨t, k, h, h2⟩ := toks_hd l
    exact ⟨t, k ++ opT s :: toks r, by simp only [toks, h, List.cons_append], h2⟩
  | br e => ⟨_, _, rfl, .inr rfl⟩
end Ex

theorem of12 {P : Nat → Prop} (h0 : P 0) (h1 : P 1) (h2 : P 2) (h3 : P 3) (h4 : P 4) (h5 : P 5) (h6 : P 6) (h7 : P 7) (h8 : P 8) (h9 : P 9) (h10 : P 10) (h11 : P 11) (s : Nat) (hs : s < 12) : P s := by
  have : s = 0 ∨ s = 1 ∨ s = 2 ∨ s = 3 ∨ s = 4 ∨ s = 5 ∨ s = 6 ∨ s = 7 ∨ s = 8 ∨ s = 9 ∨ s = 10 ∨ s = 11 := by omega
  rcases this with rfl | rfl | rfl | rfl | rfl | rfl | rfl | rfl | rfl | rfl | rfl | rfl <;> assumption

namespace Gm
/-- Nothing that an expression of that level goes on with. -/
structure NoOp (v : Nat) (t : Tk) : Prop where
  b : isM t ⟨#[40]⟩ = false
  m : v ≤ 6 → isMul t = false
  a : v ≤ 5 → isAdd t = false
  c : v ≤ 4 → isM t ⟨#[43, 43]⟩ = false
  q : v ≤ 3 → isCmp t = false
  n : v ≤ 2 → isM t ⟨#[97, 110, 100, 97, 108, 115, 111]⟩ = false
  r : v ≤ 1 → isM t ⟨#[111, 114, 101, 108, 115, 101]⟩ = false
  e : v = 0 → isM t ⟨#[61]⟩ = false ∧ isM t ⟨#[33]⟩ = false
theorem NoOp.weak {v v' : Nat} {t : Tk} (h : NoOp v t) (hv : v ≤ v') : NoOp v' t :=
  ⟨h.b, fun g => h.m (by omega), fun g => h.a (by omega), fun g => h.c (by omega), fun g => h.q (by omega), fun g => h.n (by omega), fun g => h.r (by omega), fun g => h.e (by omega)⟩
theorem noOp_op (s : Nat) (hs : s < 12) : ∀ v, lev s < v → NoOp v (opT s) := by
  refine of12 (P := fun s => ∀ v, lev s < v → NoOp v (opT s)) ?_ ?_ ?_ ?_ ?_ ?_ ?_ ?_ ?_ ?_ ?_ ?_ s hs
  all_goals
    intro v hv
    simp only [lev] at hv
    exact ⟨rfl, fun h => (by first | rfl | omega), fun h => (by first | rfl | omega), fun h => (by first | rfl | omega), fun h => (by first | rfl | omega), fun h => (by first | rfl | omega), fun h => (by first | rfl | omega), fun h => (by omega)⟩
theorem noOp_r (v : Nat) : NoOp v rT := ⟨rfl, fun _ => rfl, fun _ => rfl, fun _ => rfl, fun _ => rfl, fun _ => rfl, fun _ => rfl, fun _ => ⟨rfl, rfl⟩⟩
theorem op_mul (s : Nat) (hs : s < 12) : lev s = 6 → isMul (opT s) = true := by
  refine of12 (P := fun s => lev s = 6 → isMul (opT s) = true) ?_ ?_ ?_ ?_ ?_ ?_ ?_ ?_ ?_ ?_ ?_ ?_ s hs
  all_goals (intro h; first | rfl | (simp only [lev] at h; omega))
theorem op_add (s : Nat) (hs : s < 12) : lev s = 5 → isAdd (opT s) = true := by
  refine of12 (P := fun s => lev s = 5 → isAdd (opT s) = true) ?_ ?_ ?_ ?_ ?_ ?_ ?_ ?_ ?_ ?_ ?_ ?_ s hs
  all_goals (intro h; first | rfl | (simp only [lev] at h; omega))
theorem op_cmp (s : Nat) (hs : s < 12) : lev s = 3 → isCmp (opT s) = true := by
  refine of12 (P := fun s => lev s = 3 → isCmp (opT s) = true) ?_ ?_ ?_ ?_ ?_ ?_ ?_ ?_ ?_ ?_ ?_ ?_ s hs
  all_goals (intro h; first | rfl | (simp only [lev] at h; omega))
theorem op_right (s : Nat) (hs : s < 12) : (lev s = 4 → s = 5) ∧ (lev s = 2 → s = 1) ∧ (lev s = 1 → s = 0) := by
  refine of12 (P := fun s => (lev s = 4 → s = 5) ∧ (lev s = 2 → s = 1) ∧ (lev s = 1 → s = 0)) ?_ ?_ ?_ ?_ ?_ ?_ ?_ ?_ ?_ ?_ ?_ ?_ s hs
  all_goals decide
theorem lev_in (s : Nat) (hs : s < 12) : 1 ≤ lev s ∧ lev s ≤ 6 := by
  refine of12 (P := fun s => 1 ≤ lev s ∧ lev s ≤ 6) ?_ ?_ ?_ ?_ ?_ ?_ ?_ ?_ ?_ ?_ ?_ ?_ s hs
  all_goals decide

/-- The parser of a level. -/
def lv (E : PM Nat) : Nat → PM Nat
  | 0 => opened E
  | 1 => orelse E
  | 2 => andalso E
  | 3 => compare E
  | 4 => appends E
  | 5 => add E
  | 6 => mul E
  | _ => unary E

/-- It reads such an expression, if what stands behind it does not go on with it. -/
def Run (m : PM Nat) (o : Nat) (e : Ex) (ok : Tk → Prop) : Prop :=
  ∀ (t : Tk) (rest : List Tk) (ns : List Nd), ok t → ns.length + e.sz ≤ 16384 → m ⟨e.toks ++ t :: rest, ns, o⟩ = .ok (ns.length + e.sz - 1, ⟨t :: rest, ns ++ e.emit ns.length, o⟩)

theorem here_b {β : Type} (f : Tk → PM β) (s : PS) : (here >>= f) s = f (hd s) s := rfl
theorem ahead_b {β : Type} (f : Tk → PM β) (s : PS) : (ahead >>= f) s = f (hd2 s) s := rfl
theorem left_b {β : Type} (f : Nat → PM β) (s : PS) : (left >>= f) s = f s.ts.length s := rfl
theorem next_b {β : Type} (f : Tk → PM β) (s : PS) : (next >>= f) s = f (hd s) (cut s) := rfl
theorem take_yes {β : Type} {w : ByteArray} {f : Bool → PM β} {s : PS} (h : isM (hd s) w = true) : (take w >>= f) s = f true (cut s) := by
  rw [bind_at]; unfold take; rw [if_pos h]
theorem take_no {β : Type} {w : ByteArray} {f : Bool → PM β} {s : PS} (h : isM (hd s) w = false) : (take w >>= f) s = f false s := by
  rw [bind_at]; unfold take; rw [if_neg (by rw [h]; simp)]
theorem need_b {β : Type} {w : ByteArray} {f : Unit → PM β} {s : PS} (h : isM (hd s) w = true) : (need w >>= f) s = f () (cut s) := by
  rw [bind_at]; unfold need; rw [if_pos h]
theorem run_b {α β : Type} {m : PM α} {f : α → PM β} {s s' : PS} {a : α} (h : m s = .ok (a, s')) : (m >>= f) s = f a s' := by rw [bind_at, h]
theorem lay_ok (n : Nd) (ts : List Tk) (ns : List Nd) (o : Nat) (h : ns.length + 1 ≤ 16384) : lay n ⟨ts, ns, o⟩ = .ok (ns.length, ⟨ts, ns ++ [n], o⟩) := by
  unfold lay
  rw [if_neg (by simp only; omega)]
theorem pure_at {α : Type} (a : α) (s : PS) : (pure a : PM α) s = .ok (a, s) := rfl

theorem first_p {e : Ex} {r : List Tk} {ns : List Nd} {o : Nat} : (hd ⟨e.toks ++ r, ns, o⟩).p = 0 := by
  obtain ⟨t, l, h, h2⟩ := e.toks_hd
  rw [h]
  rcases h2 with ⟨n, rfl⟩ | rfl <;> rfl
theorem first_no {e : Ex} {r : List Tk} {ns : List Nd} {o : Nat} : isM (hd ⟨e.toks ++ r, ns, o⟩) ⟨#[99, 97, 116, 99, 104]⟩ = false ∧ isM (hd ⟨e.toks ++ r, ns, o⟩) ⟨#[45]⟩ = false ∧ isM (hd ⟨e.toks ++ r, ns, o⟩) ⟨#[110, 111, 116]⟩ = false := by
  obtain ⟨t, l, h, h2⟩ := e.toks_hd
  rw [h]
  rcases h2 with ⟨n, rfl⟩ | rfl <;> exact ⟨rfl, rfl, rfl⟩

/-- A loop from the left, with what it has read. -/
def Lp (m : PM Nat) (sg : Tk → Bool) (o : Nat) (e : Ex) (ok : Tk → Prop) : Prop :=
  ∀ (t : Tk) (rest : List Tk) (ns : List Nd), ok t → ns.length + e.sz ≤ 16384 → ∃ k', rest.length < k' ∧ (do let x ← m; let k ← left; leftward m sg 0 k x : PM Nat) ⟨e.toks ++ t :: rest, ns, o⟩ = leftward m sg 0 k' (ns.length + e.sz - 1) ⟨t :: rest, ns ++ e.emit ns.length, o⟩
theorem lp_run {m : PM Nat} {sg : Tk → Bool} {o : Nat} {e : Ex} {ok : Tk → Prop} (h : Run m o e ok) : Lp m sg o e ok := by
  intro t rest ns ht hb
  exact ⟨(t :: rest).length, by simp, by rw [run_b (h t rest ns ht hb), left_b]⟩
theorem lp_step {m : PM Nat} {sg : Tk → Bool} {o s : Nat} {l r : Ex} {ok : Tk → Prop} (hs : sg (opT s) = true) (ho : ok (opT s)) (hl : Lp m sg o l ok) (hr : Run m o r ok) : Lp m sg o (.o s l r) ok := by
  intro t rest ns ht hb
  have hz := l.sz_pos
  have hzr := r.sz_pos
  have hl2 : ns.length + l.sz ≤ 16384 := by simp only [Ex.sz] at hb; omega
  obtain ⟨k', hk', he⟩ := hl (opT s) (r.toks ++ t :: rest) ns ho hl2
  obtain ⟨k, rfl⟩ : ∃ k, k' = k + 1 := ⟨k' - 1, by omega⟩
  refine ⟨k, by simp only [List.length_append, List.length_cons] at hk'; omega, ?_⟩
  have e1 : (Ex.o s l r).toks ++ t :: rest = l.toks ++ opT s :: (r.toks ++ t :: rest) := by simp only [Ex.toks, List.append_assoc, List.cons_append]
  rw [e1, he]
  simp only [leftward]
  rw [here_b]
  have h1 : hd ⟨opT s :: (r.toks ++ t :: rest), ns ++ l.emit ns.length, o⟩ = opT s := rfl
  have h2 : cut ⟨opT s :: (r.toks ++ t :: rest), ns ++ l.emit ns.length, o⟩ = ⟨r.toks ++ t :: rest, ns ++ l.emit ns.length, o⟩ := rfl
  rw [h1, if_pos hs, next_b, h2, run_b (hr t rest (ns ++ l.emit ns.length) ht (by simp only [Ex.sz] at hb; rw [List.length_append, Ex.emit_len]; omega))]
  unfold op
  rw [run_b (lay_ok _ _ _ _ (by simp only [Ex.sz] at hb; simp only [List.length_append, Ex.emit_len]; omega))]
  simp only [List.length_append, Ex.emit_len, Ex.emit, Ex.sz, List.append_assoc, opT]
  rw [show ns.length + (l.sz + r.sz) = ns.length + (l.sz + r.sz + 1) - 1 by omega]
theorem lp_all {m : PM Nat} {sg : Tk → Bool} {o v : Nat} {ok : Tk → Prop} (hsg : ∀ s, s < 12 → lev s = v → sg (opT s) = true ∧ ok (opT s)) (hv : v = 5 ∨ v = 6) (G : Ex → Prop) (hG : ∀ s l r, G (.o s l r) → G l ∧ G r) (N : Nat) (H : ∀ e, e.big < N → e.WF → G e → v < e.lo → Run m o e ok) :
    ∀ e : Ex, e.big < N → e.WF → G e → v ≤ e.lo → Lp m sg o e ok
  | .d n, hN, hw, hg, hv2 => lp_run (H _ hN hw hg (by simp only [Ex.lo]; omega))
  | .br e, hN, hw, hg, hv2 => lp_run (H _ hN hw hg (by simp only [Ex.lo]; omega))
  | .o s l r, hN, hw, hg, hv2 => by
    by_cases h : v < lev s
    · exact lp_run (H _ hN hw hg h)
    · have he : lev s = v := by simp only [Ex.lo] at hv2; omega
      obtain ⟨w1, w2, w3, w4⟩ := hw
      rw [he, Ex.Side, if_pos hv] at w4
      obtain ⟨g1, g2⟩ := hG s l r hg
      obtain ⟨a1, a2⟩ := hsg s w1 he
      simp only [Ex.big] at hN
      exact lp_step a1 a2 (lp_all hsg hv G hG N H l (by omega) w2 g1 w4.1) (H r (by omega) w3 g2 w4.2)
/-- A loop that ends. -/
theorem run_lp {m : PM Nat} {sg : Tk → Bool} {o : Nat} {e : Ex} {ok ok' : Tk → Prop} (h : Lp m sg o e ok) (hk : ∀ t, ok' t → ok t ∧ sg t = false) : Run (do let t ← here; let x ← m; let k ← left; leftward m sg t.p k x) o e ok' := by
  intro t rest ns ht hb
  obtain ⟨k', hk', he⟩ := h t rest ns (hk t ht).1 hb
  obtain ⟨k, rfl⟩ : ∃ k, k' = k + 1 := ⟨k' - 1, by omega⟩
  rw [here_b, first_p, he]
  simp only [leftward]
  rw [here_b]
  have h1 : hd ⟨t :: rest, ns ++ e.emit ns.length, o⟩ = t := rfl
  rw [h1, if_neg (by rw [(hk t ht).2]; simp), pure_at]

/-- Rows from the right. -/
theorem right_one {m : PM Nat} {w : ByteArray} {o : Nat} {e : Ex} {ok ok' : Tk → Prop} (h : Run m o e ok) (hk : ∀ t, ok' t → ok t ∧ isM t w = false) (k : Nat) (hkk : 0 < k) : Run (rightward m w k) o e ok' := by
  intro t rest ns ht hb
  obtain ⟨k, rfl⟩ : ∃ k0, k = k0 + 1 := ⟨k - 1, by omega⟩
  simp only [rightward]
  rw [here_b, run_b (h t rest ns (hk t ht).1 hb), take_no (s := ⟨t :: rest, _, _⟩) (hk t ht).2]
  rfl
theorem right_two {m : PM Nat} {w : ByteArray} {o s : Nat} {l r : Ex} {ok ok' : Tk → Prop} (hs : isM (opT s) w = true) (hx : opX s = w) (ho : ok (opT s)) (hl : Run m o l ok) (k : Nat) (hr : Run (rightward m w k) o r ok') : Run (rightward m w (k + 1)) o (.o s l r) ok' := by
  intro t rest ns ht hb
  have hz := l.sz_pos
  have hzr := r.sz_pos
  have hl2 : ns.length + l.sz ≤ 16384 := by simp only [Ex.sz] at hb; omega
  have e1 : (Ex.o s l r).toks ++ t :: rest = l.toks ++ opT s :: (r.toks ++ t :: rest) := by simp only [Ex.toks, List.append_assoc, List.cons_append]
  simp only [rightward]
  rw [here_b, e1, first_p, run_b (hl (opT s) (r.toks ++ t :: rest) ns ho hl2), take_yes (s := ⟨opT s :: (r.toks ++ t :: rest), _, _⟩) hs]
  have h2 : cut ⟨opT s :: (r.toks ++ t :: rest), ns ++ l.emit ns.length, o⟩ = ⟨r.toks ++ t :: rest, ns ++ l.emit ns.length, o⟩ := rfl
  rw [if_pos rfl, h2, run_b (hr t rest (ns ++ l.emit ns.length) ht (by simp only [Ex.sz] at hb; rw [List.length_append, Ex.emit_len]; omega))]
  unfold op
  rw [lay_ok _ _ _ _ (by simp only [Ex.sz] at hb; simp only [List.length_append, Ex.emit_len]; omega)]
  simp only [List.length_append, Ex.emit_len, Ex.emit, Ex.sz, List.append_assoc, hx]
  have n1 : ns.length + (l.sz + r.sz) = ns.length + (l.sz + r.sz + 1) - 1 := by omega
  rw [Nat.add_assoc, n1]
theorem right_all {m : PM Nat} {w : ByteArray} {o v : Nat} {ok ok' : Tk → Prop} (hsg : ∀ s, s < 12 → lev s = v → isM (opT s) w = true ∧ opX s = w ∧ ok (opT s)) (hv : v = 1 ∨ v = 2 ∨ v = 4) (hk : ∀ t, ok' t → ok t ∧ isM t w = false) (G : Ex → Prop) (hG : ∀ s l r, G (.o s l r) → G l ∧ G r) (N : Nat) (H : ∀ e, e.big < N → e.WF → G e → v < e.lo → Run m o e ok) :
    ∀ (e : Ex) (k : Nat), e.big < N → e.WF → G e → v ≤ e.lo → e.toks.length ≤ k → Run (rightward m w k) o e ok'
  | .d n, k, hN, hw, hg, hv2, hkk => right_one (H _ hN hw hg (by simp only [Ex.lo]; omega)) hk k (by simp only [Ex.toks, List.length_singleton] at hkk; omega)
  | .br e, k, hN, hw, hg, hv2, hkk => right_one (H _ hN hw hg (by simp only [Ex.lo]; omega)) hk k (by simp only [Ex.toks, List.length_cons] at hkk; omega)
  | .o s l r, k, hN, hw, hg, hv2, hkk => by
    simp only [Ex.toks, List.length_append, List.length_cons] at hkk
    by_cases h : v < lev s
    · exact right_one (H _ hN hw hg h) hk k (by omega)
    · have he : lev s = v := by simp only [Ex.lo] at hv2; omega
      obtain ⟨w1, w2, w3, w4⟩ := hw
      rw [he, Ex.Side, if_neg (by omega), if_neg (by omega)] at w4
      obtain ⟨g1, g2⟩ := hG s l r hg
      obtain ⟨a1, a2, a3⟩ := hsg s w1 he
      simp only [Ex.big] at hN
      obtain ⟨k, rfl⟩ : ∃ k0, k = k0 + 1 := ⟨k - 1, by omega⟩
      exact right_two a1 a2 a3 (H l (by omega) w2 g1 w4.1) k (right_all hsg hv hk G hG N H r k (by omega) w3 g2 w4.2 (by omega))
theorem run_right {m : PM Nat} {w : ByteArray} {o : Nat} {e : Ex} {ok' : Tk → Prop} (h : ∀ k, e.toks.length ≤ k → Run (rightward m w k) o e ok') : Run (right m w) o e ok' := by
  intro t rest ns ht hb
  unfold right
  rw [left_b]
  exact h _ (by simp only [List.length_append]; omega) t rest ns ht hb
end Gm
end Go.Proofs.YtdpfmmbfidknfaaGreatDoor


/- Operators in a row: every level reads what it binds. -/
namespace Go.Proofs.YtdpfmmbfidknfaaGreatDoor
namespace Gm

theorem signs_no {s : PS} (h1 : isM (hd s) ⟨#[45]⟩ = false) (h2 : isM (hd s) ⟨#[110, 111, 116]⟩ = false) (k : Nat) (l : List Tk) : signs k l s = .ok (l, s) := by
  cases k with
  | zero => rfl
  | succ k =>
    simp only [signs]
    rw [here_b, if_neg (by rw [h1, h2]; simp)]
    rfl
theorem applied_no {E : PM Nat} {s : PS} (h : isM (hd s) ⟨#[40]⟩ = false) (p k x : Nat) : applied E p k x s = .ok (x, s) := by
  cases k with
  | zero => rfl
  | succ k =>
    simp only [applied]
    rw [here_b, if_neg (by rw [h]; simp)]
    rfl
theorem unary_of {E : PM Nat} {e : Ex} {t : Tk} {rest : List Tk} {ns ns' : List Nd} {o x : Nat} (h : called E ⟨e.toks ++ t :: rest, ns, o⟩ = .ok (x, ⟨t :: rest, ns', o⟩)) (ht : isM t ⟨#[40]⟩ = false) : unary E ⟨e.toks ++ t :: rest, ns, o⟩ = .ok (x, ⟨t :: rest, ns', o⟩) := by
  obtain ⟨h0, h1, h2⟩ := first_no (e := e) (r := t :: rest) (ns := ns) (o := o)
  unfold unary
  rw [left_b, run_b (signs_no h1 h2 _ _)]
  have hc : call E ⟨e.toks ++ t :: rest, ns, o⟩ = .ok (x, ⟨t :: rest, ns', o⟩) := by
    unfold call
    rw [here_b, run_b h, left_b]
    exact applied_no (s := ⟨t :: rest, ns', o⟩) ht _ _ _
  rw [run_b hc]
  rfl
theorem run7_d (E : PM Nat) (o n : Nat) : Run (unary E) o (.d n) (NoOp 7) := by
  intro t rest ns ht hb
  refine unary_of (e := .d n) ?_ ht.b
  have e1 : (Ex.d n).toks ++ t :: rest = dT n :: t :: rest := rfl
  rw [e1]
  unfold called
  have h1 : hd ⟨dT n :: t :: rest, ns, o⟩ = dT n := rfl
  rw [here_b, ahead_b, h1, if_neg (by simp [dT])]
  unfold primary
  rw [here_b, h1, if_pos (by simp [dT])]
  unfold leaf
  rw [next_b, h1]
  have h2 : cut ⟨dT n :: t :: rest, ns, o⟩ = ⟨t :: rest, ns, o⟩ := rfl
  rw [h2, lay_ok _ _ _ _ (by simpa [Ex.sz] using hb)]
  rfl
theorem run7_br {f o : Nat} {e : Ex} (ho : o ≠ 200) (h : Run (opened (expr f)) (o + 1) e (NoOp 0)) : Run (unary (expr (f + 1))) o (.br e) (NoOp 7) := by
  intro t rest ns ht hb
  refine unary_of (e := .br e) ?_ ht.b
  have e1 : (Ex.br e).toks ++ t :: rest = lT :: (e.toks ++ rT :: (t :: rest)) := by simp only [Ex.toks, List.cons_append, List.append_assoc, List.nil_append]
  rw [e1]
  unfold called
  have h1 : hd ⟨lT :: (e.toks ++ rT :: (t :: rest)), ns, o⟩ = lT := rfl
  rw [here_b, ahead_b, h1, if_neg (by simp [lT])]
  unfold primary
  rw [here_b, h1, if_neg (by simp [lT]), if_pos (by simp [lT])]
  unfold bracketed
  rw [here_b, h1, if_pos (by rfl), next_b]
  have h2 : cut ⟨lT :: (e.toks ++ rT :: (t :: rest)), ns, o⟩ = ⟨e.toks ++ rT :: (t :: rest), ns, o⟩ := rfl
  have h3 : expr (f + 1) ⟨e.toks ++ rT :: (t :: rest), ns, o⟩ = .ok (ns.length + e.sz - 1, ⟨rT :: (t :: rest), ns ++ e.emit ns.length, o⟩) := by
    simp only [expr]
    rw [if_neg ho, h rT (t :: rest) ns (noOp_r 0) hb]
    rfl
  rw [h2, run_b h3, need_b (s := ⟨rT :: (t :: rest), _, _⟩) (by rfl)]
  rfl

theorem up {E : PM Nat} {o : Nat} {e : Ex} (v : Nat) (hv : v < 7) (h : Run (lv E (v + 1)) o e (NoOp (v + 1))) : Run (lv E v) o e (NoOp v) := by
  have hp : 0 < e.toks.length := by obtain ⟨t, l, h, _⟩ := e.toks_hd; rw [h]; simp
  have : v = 0 ∨ v = 1 ∨ v = 2 ∨ v = 3 ∨ v = 4 ∨ v = 5 ∨ v = 6 := by omega
  rcases this with rfl | rfl | rfl | rfl | rfl | rfl | rfl
  · intro t rest ns ht hb
    have h' : Run (orelse E) o e (NoOp 1) := h
    show opened E _ = _
    unfold opened
    rw [here_b, take_no first_no.1, if_neg (by simp), run_b (h' t rest ns (ht.weak (by omega)) hb), take_no (s := ⟨t :: rest, _, _⟩) (ht.e rfl).1, if_neg (by simp), take_no (s := ⟨t :: rest, _, _⟩) (ht.e rfl).2, if_neg (by simp)]
    rfl
  · exact run_right fun k hk => right_one (m := andalso E) h (fun t ht => ⟨ht.weak (by omega), ht.r (by omega)⟩) k (by omega)
  · exact run_right fun k hk => right_one (m := compare E) h (fun t ht => ⟨ht.weak (by omega), ht.n (by omega)⟩) k (by omega)
  · intro t rest ns ht hb
    have h' : Run (appends E) o e (NoOp 4) := h
    show compare E _ = _
    unfold compare
    have h1 : hd ⟨t :: rest, ns ++ e.emit ns.length, o⟩ = t := rfl
    rw [here_b, run_b (h' t rest ns (ht.weak (by omega)) hb), here_b, h1, if_neg (by rw [ht.q (by omega)]; simp)]
    rfl
  · exact run_right fun k hk => right_one (m := add E) h (fun t ht => ⟨ht.weak (by omega), ht.c (by omega)⟩) k (by omega)
  · exact run_lp (m := mul E) (lp_run h) (fun t ht => ⟨ht.weak (by omega), ht.a (by omega)⟩)
  · exact run_lp (m := unary E) (lp_run h) (fun t ht => ⟨ht.weak (by omega), ht.m (by omega)⟩)
theorem down {E : PM Nat} {o : Nat} {e : Ex} {w : Nat} (hw : w ≤ 7) (h : Run (lv E w) o e (NoOp w)) : ∀ k v, v + k = w → Run (lv E v) o e (NoOp v)
  | 0, v, hk => by obtain rfl : v = w := by omega
                   exact h
  | k + 1, v, hk => up v (by omega) (down hw h k (v + 1) (by omega))

theorem cmp_two {E : PM Nat} {o s : Nat} {l r : Ex} (hs : s < 12) (h3 : lev s = 3) (hl : Run (appends E) o l (NoOp 4)) (hr : Run (appends E) o r (NoOp 4)) : Run (compare E) o (.o s l r) (NoOp 3) := by
  intro t rest ns ht hb
  have hz := l.sz_pos
  have hzr := r.sz_pos
  have hl2 : ns.length + l.sz ≤ 16384 := by simp only [Ex.sz] at hb; omega
  have e1 : (Ex.o s l r).toks ++ t :: rest = l.toks ++ opT s :: (r.toks ++ t :: rest) := by simp only [Ex.toks, List.append_assoc, List.cons_append]
  have h1 : hd ⟨opT s :: (r.toks ++ t :: rest), ns ++ l.emit ns.length, o⟩ = opT s := rfl
  have h2 : cut ⟨opT s :: (r.toks ++ t :: rest), ns ++ l.emit ns.length, o⟩ = ⟨r.toks ++ t :: rest, ns ++ l.emit ns.length, o⟩ := rfl
  unfold compare
  rw [here_b, e1, first_p, run_b (hl (opT s) (r.toks ++ t :: rest) ns (noOp_op s hs 4 (by omega)) hl2), here_b, h1, if_pos (op_cmp s hs h3), next_b, h2,
    run_b (hr t rest (ns ++ l.emit ns.length) (ht.weak (by omega)) (by simp only [Ex.sz] at hb; rw [List.length_append, Ex.emit_len]; omega))]
  unfold op
  rw [lay_ok _ _ _ _ (by simp only [Ex.sz] at hb; simp only [List.length_append, Ex.emit_len]; omega)]
  simp only [List.length_append, Ex.emit_len, Ex.emit, Ex.sz, List.append_assoc, opT]
  rw [show ns.length + (l.sz + r.sz) = ns.length + (l.sz + r.sz + 1) - 1 by omega]

theorem right_top {m : PM Nat} {w : ByteArray} {o v s : Nat} {l r : Ex} (hs : s < 12) (he : lev s = v) (hv : v = 1 ∨ v = 2 ∨ v = 4) (hsg : ∀ s, s < 12 → lev s = v → isM (opT s) w = true ∧ opX s = w) (hk : ∀ t, NoOp v t → isM t w = false) (G : Ex → Prop) (hG : ∀ s l r, G (.o s l r) → G l ∧ G r) (N : Nat) (H : ∀ e : Ex, e.big < N → e.WF → G e → v + 1 ≤ e.lo → Run m o e (NoOp (v + 1)))
    (hN : l.big + r.big < N) (wl : l.WF) (wr : r.WF) (wS : Ex.Side v l.lo r.lo) (gl : G l) (gr : G r) : Run (right m w) o (.o s l r) (NoOp v) := by
  rw [Ex.Side, if_neg (by omega), if_neg (by omega)] at wS
  refine run_right fun k hkk => ?_
  simp only [Ex.toks, List.length_append, List.length_cons] at hkk
  obtain ⟨k, rfl⟩ : ∃ k0, k = k0 + 1 := ⟨k - 1, by omega⟩
  have hops : ∀ s, s < 12 → lev s = v → isM (opT s) w = true ∧ opX s = w ∧ NoOp (v + 1) (opT s) := fun s h1 h2 => ⟨(hsg s h1 h2).1, (hsg s h1 h2).2, noOp_op s h1 _ (by omega)⟩
  obtain ⟨a1, a2, a3⟩ := hops s hs he
  exact right_two a1 a2 a3 (H l (by omega) wl gl (by omega)) k (right_all hops hv (fun t ht => ⟨ht.weak (by omega), hk t ht⟩) G hG N (fun e h1 h2 h3 h4 => H e h1 h2 h3 (by omega)) r k (by omega) wr gr wS.2 (by omega))

/-- Every level reads what binds as tightly. -/
theorem read_all : ∀ (N : Nat) (e : Ex), e.big ≤ N → ∀ f o, e.WF → e.dep ≤ f → o + e.dep ≤ 200 → ∀ v, v ≤ 7 → v ≤ e.lo → Run (lv (expr f) v) o e (NoOp v) := by
  intro N
  induction N with
  | zero => intro e h; exfalso; cases e <;> simp [Ex.big] at h
  | succ N ih =>
    intro e hN f o hw hd ho v hv hlo
    cases e with
    | d n => exact down (Nat.le_refl _) (run7_d (expr f) o n) (7 - v) v (by omega)
    | br e =>
      simp only [Ex.big, Ex.dep] at hN hd ho
      obtain ⟨f, rfl⟩ : ∃ f0, f = f0 + 1 := ⟨f - 1, by omega⟩
      exact down (Nat.le_refl _) (run7_br (by omega) (ih e (by omega) f (o + 1) hw (by omega) (by omega) 0 (by omega) (by omega))) (7 - v) v (by omega)
    | o s l r =>
      obtain ⟨w1, w2, w3, w4⟩ := id hw
      obtain ⟨l1, l6⟩ := lev_in s w1
      simp only [Ex.lo] at hlo
      refine down (w := lev s) (by omega) ?_ (lev s - v) v (by omega)
      have G0 : ∀ (s : Nat) (l r : Ex), ((Ex.o s l r).dep ≤ f ∧ o + (Ex.o s l r).dep ≤ 200) → (l.dep ≤ f ∧ o + l.dep ≤ 200) ∧ (r.dep ≤ f ∧ o + r.dep ≤ 200) := by
        intro s l r ⟨a, b⟩
        simp only [Ex.dep] at a b
        omega
      have H : ∀ w, w ≤ 7 → ∀ e : Ex, e.big < N + 1 → e.WF → (e.dep ≤ f ∧ o + e.dep ≤ 200) → w ≤ e.lo → Run (lv (expr f) w) o e (NoOp w) := fun w hw e h1 h2 h3 h4 => ih e (by omega) f o h2 h3.1 h3.2 w hw h4
      obtain ⟨gl, gr⟩ := G0 s l r ⟨hd, ho⟩
      simp only [Ex.big] at hN
      have : lev s = 1 ∨ lev s = 2 ∨ lev s = 3 ∨ lev s = 4 ∨ lev s = 5 ∨ lev s = 6 := by omega
      rcases this with e | e | e | e | e | e
      · rw [e] at w4 ⊢
        exact right_top w1 e (by omega) (fun s hs hv => by obtain rfl := (op_right s hs).2.2 hv; exact ⟨rfl, rfl⟩) (fun t h => h.r (by omega)) _ G0 (N + 1) (H 2 (by omega)) (by omega) w2 w3 w4 gl gr
      · rw [e] at w4 ⊢
        exact right_top w1 e (by omega) (fun s hs hv => by obtain rfl := (op_right s hs).2.1 hv; exact ⟨rfl, rfl⟩) (fun t h => h.n (by omega)) _ G0 (N + 1) (H 3 (by omega)) (by omega) w2 w3 w4 gl gr
      · rw [e] at w4 ⊢
        rw [Ex.Side, if_neg (by omega), if_pos rfl] at w4
        exact cmp_two w1 e (H 4 (by omega) l (by omega) w2 gl (by omega)) (H 4 (by omega) r (by omega) w3 gr (by omega))
      · rw [e] at w4 ⊢
        exact right_top w1 e (by omega) (fun s hs hv => by obtain rfl := (op_right s hs).1 hv; exact ⟨rfl, rfl⟩) (fun t h => h.c (by omega)) _ G0 (N + 1) (H 5 (by omega)) (by omega) w2 w3 w4 gl gr
      · rw [e] at w4 ⊢
        rw [Ex.Side, if_pos (by omega)] at w4
        exact run_lp (m := mul (expr f)) (lp_step (op_add s w1 e) (noOp_op s w1 6 (by omega)) (lp_all (v := 5) (fun s hs hv => ⟨op_add s hs hv, noOp_op s hs 6 (by omega)⟩) (by omega) _ G0 (N + 1) (H 6 (by omega)) l (by omega) w2 gl w4.1) (H 6 (by omega) r (by omega) w3 gr w4.2)) (fun t ht => ⟨ht.weak (by omega), ht.a (by omega)⟩)
      · rw [e] at w4 ⊢
        rw [Ex.Side, if_pos (by omega)] at w4
        exact run_lp (m := unary (expr f)) (lp_step (op_mul s w1 e) (noOp_op s w1 7 (by omega)) (lp_all (v := 6) (fun s hs hv => ⟨op_mul s hs hv, noOp_op s hs 7 (by omega)⟩) (by omega) _ G0 (N + 1) (H 7 (by omega)) l (by omega) w2 gl w4.1) (H 7 (by omega) r (by omega) w3 gr w4.2)) (fun t ht => ⟨ht.weak (by omega), ht.m (by omega)⟩)
end Gm
end Go.Proofs.YtdpfmmbfidknfaaGreatDoor


