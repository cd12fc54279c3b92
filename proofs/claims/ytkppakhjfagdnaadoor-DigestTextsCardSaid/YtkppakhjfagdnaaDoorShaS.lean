/- The sum of bytes (FIPS 180-4), as Lean says it; two ways to cut what is summed into blocks. Nothing here speaks of the program. -/
import Derived.Test.YtkppakhjfagdnaaDoorShaA
namespace Go.Proofs.YtkppakhjfagdnaaDoor
set_option linter.unusedVariables false
set_option linter.unusedSimpArgs false

def cubesN : List Nat := [1116352408, 1899447441, 3049323471, 3921009573, 961987163, 1508970993, 2453635748, 2870763221, 3624381080, 310598401, 607225278, 1426881987, 1925078388, 2162078206, 2614888103, 3248222580, 3835390401, 4022224774, 264347078, 604807628, 770255983, 1249150122, 1555081692, 1996064986, 2554220882, 2821834349, 2952996808, 3210313671, 3336571891, 3584528711, 113926993, 338241895, 666307205, 773529912, 1294757372, 1396182291, 1695183700, 1986661051, 2177026350, 2456956037, 2730485921, 2820302411, 3259730800, 3345764771, 3516065817, 3600352804, 4094571909, 275423344, 430227734, 506948616, 659060556, 883997877, 958139571, 1322822218, 1537002063, 1747873779, 1955562222, 2024104815, 2227730452, 2361852424, 2428436474, 2756734187, 3204031479, 3329325298]
def squaresN : List Nat := [1779033703, 3144134277, 1013904242, 2773480762, 1359893119, 2600822924, 528734635, 1541459225]
def cubesL : List Wd := cubesN.map (BitVec.ofNat 32)
def H0 : List Wd := squaresN.map (BitVec.ofNat 32)
theorem cubesL_length : cubesL.length = 64 := rfl
theorem H0_length : H0.length = 8 := rfl

/-- A word of bytes, the highest first. -/
def wordAt (b : List UInt8) (i : Nat) : Wd := w8 (b.getD (4 * i) 0) <<< 24 ||| w8 (b.getD (4 * i + 1) 0) <<< 16 ||| w8 (b.getD (4 * i + 2) 0) <<< 8 ||| w8 (b.getD (4 * i + 3) 0)
def sig0 (x : Wd) : Wd := rotr x 7 ^^^ rotr x 18 ^^^ x >>> 3
def sig1 (x : Wd) : Wd := rotr x 17 ^^^ rotr x 19 ^^^ x >>> 10
def nextW (s : List Wd) (t : Nat) : Wd := s.getD (t - 16) 0 + sig0 (s.getD (t - 15) 0) + s.getD (t - 7) 0 + sig1 (s.getD (t - 2) 0)

/-- The first so many words of a block. -/
def sch (b : List UInt8) : Nat → List Wd
  | 0 => []
  | t + 1 => sch b t ++ [if t < 16 then wordAt b t else nextW (sch b t) t]

theorem sch_length (b : List UInt8) : ∀ t, (sch b t).length = t
  | 0 => rfl
  | t + 1 => by simp [sch, sch_length b t]

theorem sch_add (b : List UInt8) (t : Nat) : ∀ u, ∃ r, sch b (t + u) = sch b t ++ r
  | 0 => ⟨[], by simp⟩
  | u + 1 => by
    obtain ⟨r, h⟩ := sch_add b t u
    refine ⟨r ++ [if t + u < 16 then wordAt b (t + u) else nextW (sch b (t + u)) (t + u)], ?_⟩
    rw [← Nat.add_assoc, sch, h, List.append_assoc]

theorem sch_get (b : List UInt8) (t n i : Nat) (h : i < t) (h' : t ≤ n) : (sch b n).getD i 0 = (sch b t).getD i 0 := by
  obtain ⟨u, rfl⟩ : ∃ u, n = t + u := ⟨n - t, by omega⟩
  obtain ⟨r, e⟩ := sch_add b t u
  rw [e, List.getD_eq_getElem?_getD, List.getD_eq_getElem?_getD, List.getElem?_append_left (by rw [sch_length]; exact h)]

/-- A round. -/
def stp (k w : Wd) : List Wd → List Wd
  | [a, b, c, d, e, f, g, h] =>
    [h + (rotr e 6 ^^^ rotr e 11 ^^^ rotr e 25) + (e &&& f ^^^ ~~~ e &&& g) + k + w + ((rotr a 2 ^^^ rotr a 13 ^^^ rotr a 22) + (a &&& b ^^^ a &&& c ^^^ b &&& c)), a, b, c,
      d + (h + (rotr e 6 ^^^ rotr e 11 ^^^ rotr e 25) + (e &&& f ^^^ ~~~ e &&& g) + k + w), e, f, g]
  | l => l

theorem stp_length (k w : Wd) (l : List Wd) : (stp k w l).length = l.length := by
  unfold stp
  split <;> rfl

def rnds (b : List UInt8) (s : List Wd) : Nat → List Wd
  | 0 => s
  | t + 1 => stp (cubesL.getD t 0) ((sch b 64).getD t 0) (rnds b s t)

theorem rnds_length (b : List UInt8) (s : List Wd) : ∀ t, (rnds b s t).length = s.length
  | 0 => rfl
  | t + 1 => by rw [rnds, stp_length, rnds_length b s t]

def compress (b : List UInt8) (s : List Wd) : List Wd := List.zipWith (· + ·) s (rnds b s 64)
theorem compress_length (b : List UInt8) (s : List Wd) : (compress b s).length = s.length := by simp [compress, rnds_length]

def blk (m : List UInt8) (n : Nat) : List UInt8 := (m.drop (64 * n)).take 64

def runB (m : List UInt8) (s : List Wd) : Nat → List Wd
  | 0 => s
  | n + 1 => compress (blk m n) (runB m s n)
theorem runB_length (m : List UInt8) (s : List Wd) : ∀ n, (runB m s n).length = s.length
  | 0 => rfl
  | n + 1 => by rw [runB, compress_length, runB_length m s n]

theorem eight {l : List Wd} (h : l.length = 8) : ∃ a b c d e f g i, l = [a, b, c, d, e, f, g, i] := by
  match l, h with
  | [a, b, c, d, e, f, g, i], _ => exact ⟨a, b, c, d, e, f, g, i, rfl⟩

theorem runB_left (A B : List UInt8) (s : List Wd) : ∀ p, 64 * p ≤ A.length → runB (A ++ B) s p = runB A s p
  | 0, _ => rfl
  | p + 1, h => by
    rw [runB, runB, runB_left A B s p (by omega)]
    congr 1
    simp only [blk]
    rw [List.drop_append_of_le_length (by omega), List.take_append_of_le_length (by simp; omega)]

theorem runB_append (A B : List UInt8) (s : List Wd) (p : Nat) (hA : A.length = 64 * p) : ∀ q, runB (A ++ B) s (p + q) = runB B (runB A s p) q
  | 0 => by rw [Nat.add_zero, runB_left A B s p (by omega)]; rfl
  | q + 1 => by
    rw [← Nat.add_assoc, runB, runB_append A B s p hA q, runB]
    congr 1
    simp only [blk]
    rw [List.drop_append, List.drop_eq_nil_of_le (by omega), hA, List.nil_append]
    congr 2
    omega

/-- The eight bytes of a number, the highest first. -/
def be8 (x : Nat) : List UInt8 := (List.range 8).map fun i => UInt8.ofNat (x / 2 ^ (56 - 8 * i))
theorem be8_length (x : Nat) : (be8 x).length = 8 := by simp [be8]

/-- How many noughts. -/
def padZ (n : Nat) : Nat := (119 - n % 64) % 64
def pad (bs : List UInt8) : List UInt8 := bs ++ [128] ++ List.replicate (padZ bs.length) 0 ++ be8 (8 * bs.length)
theorem pad_length (bs : List UInt8) : (pad bs).length = bs.length + 9 + padZ bs.length := by simp [pad, be8_length]; omega

def fsize (r : Nat) : Nat := if 56 ≤ r then 128 else 64
/-- The last blocks. -/
def fil (r : List UInt8) (n : Nat) : List UInt8 := r ++ [128] ++ List.replicate (fsize r.length - 9 - r.length) 0 ++ be8 (8 * n)
theorem fil_length (r : List UInt8) (n : Nat) (h : r.length < 64) : (fil r n).length = fsize r.length := by
  simp [fil, be8_length, fsize]
  split <;> omega

theorem pad_cut (bs : List UInt8) : pad bs = bs.take (64 * (bs.length / 64)) ++ fil (bs.drop (64 * (bs.length / 64))) bs.length := by
  have h : padZ bs.length = fsize (bs.drop (64 * (bs.length / 64))).length - 9 - (bs.drop (64 * (bs.length / 64))).length := by
    simp only [padZ, fsize, List.length_drop]
    split <;> omega
  rw [pad, fil, h]
  simp only [List.append_assoc]
  rw [← List.append_assoc (bs.take _), List.take_append_drop]

/-- The bytes of words, the highest first. -/
def bytesOf (s : List Wd) : List UInt8 := s.flatMap fun x : Wd => [lo8 (x >>> 24), lo8 (x >>> 16), lo8 (x >>> 8), lo8 x]

theorem bytesOf_length (s : List Wd) : (bytesOf s).length = 4 * s.length := by
  induction s with
  | nil => rfl
  | cons x s ih => simp only [bytesOf, List.flatMap_cons, List.length_append, List.length_cons, List.length_nil] at *; omega

/-- The sum. -/
def sha (bs : List UInt8) : List UInt8 := bytesOf (runB (pad bs) H0 ((pad bs).length / 64))
theorem sha_length (bs : List UInt8) : (sha bs).length = 32 := by rw [sha, bytesOf_length, runB_length, H0_length]

theorem sha_cut (bs : List UInt8) : sha bs = bytesOf (runB (fil (bs.drop (64 * (bs.length / 64))) bs.length) (runB (bs.take (64 * (bs.length / 64))) H0 (bs.length / 64)) (fsize (bs.length % 64) / 64)) := by
  rw [sha, ← runB_append _ _ _ _ (by simp; omega), ← pad_cut, pad_length]
  congr 2
  simp only [padZ, fsize]
  split <;> omega

def sha2 (bs : List UInt8) : List UInt8 := sha (sha bs)
end Go.Proofs.YtkppakhjfagdnaaDoor
