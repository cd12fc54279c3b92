/- The document's answer 02 (digest): words for the walk of Sum. -/
import Derived.Test.YtpmdmojgpfpoeaaDoorRef2c
import Derived.Test.YtpmdmojgpfpoeaaDoorDigA
import Derived.Test.YtpmdmojgpfpoeaaDoorPiece
import Derived.Deep.CutBlock
import Derived.Deep.DeepCutAuto
import Derived.Deep.RegionHeld3
import Derived.OrdersHeld
namespace Go.Proofs.YtpmdmojgpfpoeaaDoor
set_option linter.unusedVariables false
set_option linter.unusedSimpArgs false
open Go.RowKit

attribute [local go_sem high] wdv_and wdv_or wdv_xor wdv_not wdv_add wdv_shl wdv_shr wdv_to8 wdv_of8

theorem Bs.of_new (w : World) (x : UInt8) : Bs (w.alloc (.cells #[.int .u8 (x.toNat : Int)] 5)) (some ⟨w.heap.size, 0, none⟩) 1 [x] :=
  ⟨rfl, Nat.le_refl _, by unfold maxLen; omega, (fun e => by cases e), fun j u hj => ⟨w.heap.size, 0, rfl, by
    rw [Nat.zero_add, cell_of_row _ _ j _ _ _ (heap_alloc_new w _)]
    match j, hj with
    | 0, hj => simpa [B8] using hj⟩⟩

theorem wpList_build_none {P : Program} {w : World} {ops : Array Oper} {rest : List Oper} {o : Oper} {a : Act} {Q : Exit → Act → World → Prop} (hg : o.guard = none) (t : TypeId) (ho : o.op = .build t #[]) (cells : Array Value)
    (hb : P.built t [] = some cells) (h : wpList P ops Q rest (a.put o.dst (.agg cells)) w) : wpList P ops Q (o :: rest) a w := by
  refine wpList_build hg t #[] ho (by simp [hb]) ?_
  simpa [hb] using h

theorem Tryd.built64 : Tryd.prog.built 48 [] = some (arrW [] 64) := by kernel_rfl
theorem Tryd.built8 : Tryd.prog.built 38 [] = some (arrW [] 8) := by kernel_rfl
theorem Tryd.built32 : Tryd.prog.built 24 [] = some (arrB [] 32) := by kernel_rfl
theorem Tryd.sz8w : (Tryd.prog.info? 38).map (·.size) = some 8 := by kernel_rfl
theorem Tryd.sz32w : (Tryd.prog.info? 24).map (·.size) = some 32 := by kernel_rfl

theorem oneV (l : List Value) (z : Value) (n : Nat) (h : ∀ v ∈ l, v.oneCell' = true) (hz : z.oneCell' = true) : (arrV l z n).all (·.oneCell') = true := oneW _ fun v hv => by
  rcases List.mem_append.1 hv with hv | hv
  · exact h v hv
  · rw [List.eq_of_mem_replicate hv]
    exact hz
theorem oneAW (l : List Wd) (n : Nat) : (arrW l n).all (·.oneCell') = true := oneV _ _ _ (fun v h => by
  simp only [List.mem_map] at h
  obtain ⟨x, _, rfl⟩ := h
  rfl) rfl
theorem oneAB (l : List UInt8) (n : Nat) : (arrB l n).all (·.oneCell') = true := oneV _ _ _ Bs.one rfl

theorem Calls.of_world {P : Program} {f : FuncId} {args : Array Value} {w : World} {R : Ending → World → Prop} (W : World) (h : W = w) (k : Calls P f args W R) : Calls P f args w R := h ▸ k

theorem be8_take (x j : Nat) (h : j < 8) : (be8 x).take (j + 1) = (be8 x).take j ++ [UInt8.ofNat (x / 2 ^ (56 - 8 * j))] := by
  rw [List.take_succ_eq_append_getElem (by rw [be8_length]; exact h)]
  simp [be8]

theorem byte_at (x s : Nat) : ((x : Int) * 8 / 2 ^ s % 256) = (((UInt8.ofNat (8 * x / 2 ^ s)).toNat : Nat) : Int) := by
  show _ = ((8 * x / 2 ^ s % 256 : Nat) : Int)
  rw [Int.natCast_emod, Int.natCast_ediv, Int.natCast_pow, Int.natCast_mul, Int.mul_comm]
  rfl

theorem wp_of_world {P : Program} {c : Code} {Q : Exit → Act → World → Prop} {a : Act} {w : World} (W : World) (h : W = w) (k : Code.wp P c Q a W) : Code.wp P c Q a w := h ▸ k

theorem blk_get (m : List UInt8) (k i : Nat) (h : i < 64) : (blk m k).getD i 0 = m.getD (64 * k + i) 0 := by
  simp [blk, List.getD, List.getElem?_take, h]

theorem cell_heap {w w' : World} (h : w'.heap = w.heap) (p : Addr) : w'.cell? p = w.cell? p := by simp [World.cell?, h]

theorem take_succD (l : List Wd) (k : Nat) (h : k < l.length) : l.take (k + 1) = l.take k ++ [l.getD k 0] := by
  rw [List.take_succ_eq_append_getElem h]
  simp [List.getD, List.getElem?_eq_getElem h]

theorem Bs.getD {w : World} {c : Nat} {bs : List UInt8} {b off : Nat} (h : Bs w (some ⟨b, off, none⟩) c bs) (j : Nat) (hj : j < bs.length) : w.cell? ⟨b, off + j, none⟩ = some (.int .u8 ((bs.getD j 0).toNat : Int)) := by
  obtain ⟨b', off', e, hc⟩ := h.at j hj
  cases e
  rw [hc]
  simp [List.getD, List.getElem?_eq_getElem hj]

theorem rowW_set (L : List Wd) (p : Nat) (v : Wd) : ((L.map W32).toArray.setIfInBounds p (.int .u32 (wi v))) = ((L.set p v).map W32).toArray := by
  apply Array.ext'
  simp only [Array.toList_setIfInBounds]
  rw [List.map_set]

theorem arrW_setIn (L : List Wd) (n p : Nat) (v : Wd) (h : L.length = n) : (arrW L n).setIfInBounds p (.int .u32 (wi v)) = arrW (L.set p v) n := by
  rw [arrW_full _ _ h, arrW_full _ _ (by simpa using h), rowW_set]

theorem mix_set (c s : List Wd) (i : Nat) (hi : i < c.length) (hs : s.length = c.length) : (c.take i ++ s.drop i).set i (c.getD i 0) = c.take (i + 1) ++ s.drop (i + 1) := by
  have hl : (c.take i).length = i := by simp; omega
  rw [List.set_append_right _ _ (by omega), hl, Nat.sub_self, List.drop_eq_getElem_cons (by omega), List.set_cons_zero, take_succD c i hi, List.append_assoc]
  rfl

theorem zip_getD (s v : List Wd) (i : Nat) (h : i < s.length) (h' : i < v.length) : (List.zipWith (· + ·) s v).getD i 0 = s.getD i 0 + v.getD i 0 := by
  simp [List.getD, List.getElem?_zipWith, List.getElem?_eq_getElem h, List.getElem?_eq_getElem h']

theorem bytesOf_get : ∀ (s : List Wd) (j r : Nat), j < s.length → r < 4 → (bytesOf s)[4 * j + r]? = some (lo8 (s.getD j 0 >>> (24 - 8 * r)))
  | [], j, r, h, _ => by simp at h
  | x :: s, 0, r, _, hr => by
    have e : bytesOf (x :: s) = [lo8 (x >>> 24), lo8 (x >>> 16), lo8 (x >>> 8), lo8 x] ++ bytesOf s := rfl
    rw [e, List.getElem?_append_left (by simp; omega)]
    match r, hr with
    | 0, _ => rfl
    | 1, _ => rfl
    | 2, _ => rfl
    | 3, _ => simp
  | x :: s, j + 1, r, h, hr => by
    have e : bytesOf (x :: s) = [lo8 (x >>> 24), lo8 (x >>> 16), lo8 (x >>> 8), lo8 x] ++ bytesOf s := rfl
    rw [e, List.getElem?_append_right (by simp; omega)]
    have := bytesOf_get s j r (by simpa using h) hr
    rw [← show 4 * (j + 1) + r - [lo8 (x >>> 24), lo8 (x >>> 16), lo8 (x >>> 8), lo8 x].length = 4 * j + r by simp; omega] at this
    rw [this]
    simp [List.getD]

theorem take_succB (l : List UInt8) (k : Nat) (x : UInt8) (h : l[k]? = some x) : l.take (k + 1) = l.take k ++ [x] := by
  obtain ⟨hk, e⟩ := List.getElem?_eq_some_iff.1 h
  rw [List.take_succ_eq_append_getElem hk, e]


end Go.Proofs.YtpmdmojgpfpoeaaDoor
