/- OctetWrites: the words of its loops. -/
import Derived.Test.YtkeepojcdofibaaLaw01a
namespace Go.Proofs.Ytkeepojcdofibaa
set_option linter.unusedVariables false
set_option linter.unusedSimpArgs false
open Go.RowKit

/-- An item's bytes, as they are put. -/
def It.put (t : It) : List UInt8 :=
  if t.kind = 0 then (if szB t.size then le t.size.toNat t.x else []) else if t.kind = 1 then cnt t.x else if t.kind = 2 then t.bs else if t.kind = 3 then ctd t.bs else []

def puts (l : List It) : List UInt8 := l.flatMap It.put

theorem puts_snoc (l : List It) (k : Nat) (h : k < l.length) : puts (l.take (k + 1)) = puts (l.take k) ++ l[k].put := by
  rw [puts, List.take_succ_eq_append_getElem h, List.flatMap_append]
  simp [puts]

theorem put_len (t : It) (h : t.bs.length ≤ 300) : t.put.length ≤ 309 := by
  unfold It.put
  split
  · split
    · rename_i h
      have := szB_le h
      rw [le_length]
      omega
    · simp
  · split
    · rw [cnt_length]
      have := csz_le t.x
      omega
    · split
      · omega
      · split
        · rw [ctd, List.length_append, cnt_length]
          have := csz_le t.bs.length
          omega
        · simp

theorem puts_len (l : List It) (h : ∀ t ∈ l, t.bs.length ≤ 300) : (puts l).length ≤ 309 * l.length := by
  induction l with
  | nil => simp [puts]
  | cons t r ih =>
    have h1 := put_len t (h t (by simp))
    have h2 := ih fun t ht => h t (by simp [ht])
    simp only [puts, List.flatMap_cons, List.length_append, List.length_cons] at *
    omega

/-- Between two calls of a round: a writer at block b whose bytes are bs; an item t boxed at block x; nothing that lay in w0 has changed. -/
structure RW (w0 w : World) (b : Nat) (bs : List UInt8) (x : Nat) (t : It) : Prop where
  wr : ∃ v, IsW w b v bs ∧ ∀ k, v.ownBlock = some k → w0.heap.size ≤ k
  new : w0.heap.size ≤ b
  fr : Fr F0 w0 w
  box : w.heap[x]? = some (.cells #[.int .i64 t.kind, .int .i64 t.size, .int .u64 t.x, .slice t.ba t.bs.length t.bc] 31 (0, 0))

theorem RW.c {w0 w : World} {b : Nat} {bs : List UInt8} {x : Nat} {t : It} (h : RW w0 w b bs x t) :
    w.cell? ⟨x, 0, none⟩ = some (.int .i64 t.kind) ∧ w.cell? ⟨x, 1, none⟩ = some (.int .i64 t.size) ∧ w.cell? ⟨x, 2, none⟩ = some (.int .u64 t.x) ∧ w.cell? ⟨x, 3, none⟩ = some (.slice t.ba t.bs.length t.bc) := by
  have := h.box
  simp [World.cell?, this]

theorem RW.ne {w0 w : World} {b : Nat} {bs : List UInt8} {x : Nat} {t : It} (h : RW w0 w b bs x t) {v : Value} (hw : IsW w b v bs) : ¬ WS b v x := by
  intro e
  have hb := h.box
  rcases e with e | e
  · subst e
    rw [hw.at_] at hb
    simp at hb
  · rcases hw.own.2 with ⟨rfl, _⟩ | ⟨g, cap, cur, rfl, _, hg, _⟩
    · cases e
    · have : g = x := by cases e; rfl
      subst this
      rw [hg] at hb
      simp at hb

theorem RW.step {w0 w w' : World} {b : Nat} {bs bs' : List UInt8} {x : Nat} {t : It} {v : Value} (h : RW w0 w b bs x t) (hw : IsW w b v bs) (ho : ∀ k, v.ownBlock = some k → w0.heap.size ≤ k) (hp : WPost w b v bs' w') : RW w0 w' b bs' x t := by
  have hn := h.ne hw
  obtain ⟨v', h1, hf, ho'⟩ := hp
  refine ⟨⟨v', h1, fun k hk => ?_⟩, h.new, h.fr.trans hf fun i hi hs => ?_, hf.keeps hn h.box⟩
  · rcases ho' k hk with h2 | h2
    · exact ho k h2
    · exact Nat.le_trans h.fr.size h2
  · rcases hs with rfl | hs
    · have := h.new
      omega
    · have := ho i hs
      omega

theorem RW.more {w0 w w' : World} {b : Nat} {bs : List UInt8} {x : Nat} {t : It} (h : RW w0 w b bs x t) (hf : Fr F0 w w') : RW w0 w' b bs x t := by
  obtain ⟨v, hw, ho⟩ := h.wr
  exact ⟨⟨v, hw.fr hf fun _ _ f => f, ho⟩, h.new, h.fr.trans' hf, hf.keeps (fun f => f) h.box⟩

/-- A call of the writer's, between two calls of a round. -/
theorem RW.calls {w0 w : World} {b : Nat} {bs bs' : List UInt8} {x : Nat} {t : It} {f : FuncId} {args : Array Value} (h : RW w0 w b bs x t)
    (hc : ∀ v, IsW w b v bs → (∀ k, v.ownBlock = some k → w0.heap.size ≤ k) → Calls Try.prog f args w fun e w' => e = .returned (.tuple #[]) ∧ WPost w b v bs' w') :
    Calls Try.prog f args w fun e w' => e = .returned (.tuple #[]) ∧ RW w0 w' b bs' x t := by
  obtain ⟨v, hw, ho⟩ := h.wr
  refine (hc v hw ho).mono ?_
  rintro e w' ⟨rfl, hp⟩
  exact ⟨rfl, h.step hw ho hp⟩

/-- A call that makes bytes, between two calls of a round. -/
theorem RW.bytes {w0 w : World} {b : Nat} {bs r : List UInt8} {x : Nat} {t : It} {f : FuncId} {args : Array Value} (h : RW w0 w b bs x t)
    (hc : Calls Try.prog f args w (NewBytes r w)) :
    Calls Try.prog f args w fun e w' => ∃ a c, e = .returned (.slice a r.length c) ∧ Bs w' a c r ∧ RW w0 w' b bs x t := by
  refine hc.mono ?_
  rintro e w' ⟨a, c, rfl, hb, hf, _⟩
  exact ⟨a, c, rfl, hb, h.more hf⟩

/-! ### reading -/

theorem ofLE_le (n x : Nat) : ofLE (le n x) = x % 256 ^ n := by
  induction n generalizing x with
  | zero => simp [le, ofLE, Nat.mod_one]
  | succ n ih =>
    simp only [le, ofLE, ih, Nat.pow_succ, UInt8.toNat_ofNat', Nat.mod_mod]
    rw [Nat.mul_comm (256 ^ n) 256, Nat.mod_mul]

theorem gt_le (n : Int) (x : Nat) (r : List UInt8) (hn : szB n = true) : gt n (some (le n.toNat x ++ r)) = (ofLE (le n.toNat x), some r) := by
  obtain ⟨n, rfl⟩ := Int.eq_ofNat_of_zero_le (show 0 ≤ n by have := szB_le hn; omega)
  rw [Int.toNat_natCast, gt_some n _ hn, if_pos (by simp [le_length])]
  simp [List.take_left', List.drop_left', le_length]

theorem tk_app (xs r : List UInt8) : tk (xs.length : Int) (some (xs ++ r)) = (xs, some r) := by
  rw [tk_some _ _ (by simp)]
  simp

theorem rrc_cnt (x : Nat) (r : List UInt8) (hx : x < 18446744073709551616) : rrc (cnt x ++ r) = (x, csz x, true) := by
  by_cases c1 : x < 253
  · have e : cnt x = [UInt8.ofNat x] := by simp [cnt, c1, le, Nat.mod_eq_of_lt (show x < 256 by omega)]
    have e2 : csz x = 1 := by simp [csz, c1]
    rw [e, e2]
    simp [rrc, Nat.mod_eq_of_lt (show x < 256 by omega), c1, e2]
  · have key : ∀ (f : UInt8) (k s : Nat), cnt x = f :: le k x → csz x = s → (f.toNat = 253 ∧ s = 3 ∧ k = 2 ∨ f.toNat = 254 ∧ s = 5 ∧ k = 4 ∨ f.toNat = 255 ∧ s = 9 ∧ k = 8) → x < 256 ^ k → rrc (cnt x ++ r) = (x, csz x, true) := by
      intro f k s e es hs hxk
      have e1 : rrc (f :: (le k x ++ r)) = if (le k x ++ r).length + 1 < s then (0, 0, false) else (ofLE ((le k x ++ r).take k), s, csz (ofLE ((le k x ++ r).take k)) == s) := by
        rcases hs with ⟨h, rfl, rfl⟩ | ⟨h, rfl, rfl⟩ | ⟨h, rfl, rfl⟩ <;> simp [rrc, h]
      have hl := le_length k x
      have ht : (le k x ++ r).take k = le k x := List.take_left' hl
      rw [e, List.cons_append, e1, if_neg (by simp [hl]; omega), ht, ofLE_le, Nat.mod_eq_of_lt hxk, es]
      simp
    by_cases c2 : x < 65536
    · exact key 253 2 3 (by simp [cnt, c1, c2, le]) (by simp [csz, c1, c2]) (.inl ⟨rfl, rfl, rfl⟩) (by omega)
    by_cases c3 : x < 4294967296
    · exact key 254 4 5 (by simp [cnt, c1, c2, c3, le]) (by simp [csz, c1, c2, c3]) (.inr (.inl ⟨rfl, rfl, rfl⟩)) (by omega)
    · exact key 255 8 9 (by simp [cnt, c1, c2, c3, le]) (by simp [csz, c1, c2, c3]) (.inr (.inr ⟨rfl, rfl, rfl⟩)) (by omega)

theorem rc_cnt (x most : Nat) (r : List UInt8) (hx : x < 18446744073709551616) (hm : x ≤ most) : rc most (some (cnt x ++ r)) = (x, some r) := by
  rw [rc_mcnt]
  simp only [mcnt, rrc_cnt x r hx]
  rw [if_pos ⟨trivial, hm⟩, ← cnt_length x, List.drop_left]

theorem rctd_ctd (xs r : List UInt8) (hx : xs.length < 9223372036854775808) : rctd (xs.length : Int) (some (ctd xs ++ r)) = (xs, some r) := by
  unfold rctd
  rw [if_neg (by omega), Int.toNat_natCast, ctd, List.append_assoc, rc_cnt _ _ _ (by omega) (Nat.le_refl _)]
  exact tk_app xs r

/-- Between two calls of a round: a reader at block b; an item t boxed at block x; nothing that lay in w0 has changed. -/
structure RR (w0 w : World) (b : Nat) (st : Option (List UInt8)) (x : Nat) (t : It) : Prop where
  rd : ∃ a, IsR w b a st ∧ ∀ k, ablk a = some k → w0.heap.size ≤ k
  new : w0.heap.size ≤ b
  fr : Fr F0 w0 w
  box : w.heap[x]? = some (.cells #[.int .i64 t.kind, .int .i64 t.size, .int .u64 t.x, .slice t.ba t.bs.length t.bc] 31 (0, 0))

theorem RR.c {w0 w : World} {b : Nat} {st : Option (List UInt8)} {x : Nat} {t : It} (h : RR w0 w b st x t) :
    w.cell? ⟨x, 0, none⟩ = some (.int .i64 t.kind) ∧ w.cell? ⟨x, 1, none⟩ = some (.int .i64 t.size) ∧ w.cell? ⟨x, 2, none⟩ = some (.int .u64 t.x) ∧ w.cell? ⟨x, 3, none⟩ = some (.slice t.ba t.bs.length t.bc) := by
  have := h.box
  simp [World.cell?, this]

theorem RR.step {w0 w w' : World} {b : Nat} {st st' : Option (List UInt8)} {x : Nat} {t : It} {a : Option Addr} (h : RR w0 w b st x t) (hr : IsR w b a st) (ha : ∀ k, ablk a = some k → w0.heap.size ≤ k) (hp : RPost w b a st' w') : RR w0 w' b st' x t := by
  have hb := h.box
  have hn : x ≠ b := by
    rintro rfl
    obtain ⟨c, h1, _⟩ := hr.at_
    rw [h1] at hb
    simp at hb
  obtain ⟨a', h1, hf, ha'⟩ := hp
  exact ⟨⟨a', h1, fun k hk => ha k (ha' k hk)⟩, h.new, h.fr.trans hf fun i hi hs => by have := h.new; omega, hf.keeps hn hb⟩

theorem RR.more {w0 w w' : World} {b : Nat} {st : Option (List UInt8)} {x : Nat} {t : It} (h : RR w0 w b st x t) (hf : Fr F0 w w') : RR w0 w' b st x t := by
  obtain ⟨a, hr, ha⟩ := h.rd
  exact ⟨⟨a, hr.fr hf (fun f => f) fun _ _ f => f, ha⟩, h.new, h.fr.trans' hf, hf.keeps (fun f => f) h.box⟩

/-- A call of the reader's that answers a value. -/
theorem RR.calls {w0 w : World} {b : Nat} {st st' : Option (List UInt8)} {x : Nat} {t : It} {f : FuncId} {args : Array Value} {v : Value} (h : RR w0 w b st x t)
    (hc : ∀ a, IsR w b a st → Calls Try.prog f args w fun e w' => e = .returned v ∧ RPost w b a st' w') :
    Calls Try.prog f args w fun e w' => e = .returned v ∧ RR w0 w' b st' x t := by
  obtain ⟨a, hr, ha⟩ := h.rd
  refine (hc a hr).mono ?_
  rintro e w' ⟨rfl, hp⟩
  exact ⟨rfl, h.step hr ha hp⟩

/-- A call of the reader's that answers bytes. -/
theorem RR.gives {w0 w : World} {b : Nat} {st st' : Option (List UInt8)} {r : List UInt8} {x : Nat} {t : It} {f : FuncId} {args : Array Value} (h : RR w0 w b st x t)
    (hc : ∀ a, IsR w b a st → Calls Try.prog f args w (RBytes w b a r st')) :
    Calls Try.prog f args w fun e w' => ∃ a c, e = .returned (.slice a r.length c) ∧ Bs w' a c r ∧ RR w0 w' b st' x t := by
  obtain ⟨a, hr, ha⟩ := h.rd
  refine (hc a hr).mono ?_
  rintro e w' ⟨a2, c2, rfl, hb, hp, _⟩
  exact ⟨a2, c2, rfl, hb, h.step hr ha hp⟩

/-- A call that makes bytes. -/
theorem RR.bytes {w0 w : World} {b : Nat} {st : Option (List UInt8)} {r : List UInt8} {x : Nat} {t : It} {f : FuncId} {args : Array Value} (h : RR w0 w b st x t)
    (hc : Calls Try.prog f args w (NewBytes r w)) :
    Calls Try.prog f args w fun e w' => ∃ a c, e = .returned (.slice a r.length c) ∧ Bs w' a c r ∧ RR w0 w' b st x t := by
  refine hc.mono ?_
  rintro e w' ⟨a, c, rfl, hb, hf, _⟩
  exact ⟨a, c, rfl, hb, h.more hf⟩

theorem puts_drop (l : List It) (k : Nat) (h : k < l.length) : puts (l.drop k) = l[k].put ++ puts (l.drop (k + 1)) := by
  rw [List.drop_eq_getElem_cons h, puts, List.flatMap_cons]
  rfl
end Go.Proofs.Ytkeepojcdofibaa
