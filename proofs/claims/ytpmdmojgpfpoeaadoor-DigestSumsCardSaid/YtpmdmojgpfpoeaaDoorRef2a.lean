/- The document's answer 02 (digest): the walks of digit, power. -/
import Derived.Test.YtpmdmojgpfpoeaaDoorRef2s
import Derived.Test.YtpmdmojgpfpoeaaDoorApp
import Derived.Test.YtpmdmojgpfpoeaaDoorArr
import Derived.OwnWalk
namespace Go.Proofs.YtpmdmojgpfpoeaaDoor
set_option linter.unusedVariables false
set_option linter.unusedSimpArgs false
open Go.RowKit

theorem Tryd.infoU64 : (Tryd.prog.info? 46).map (fun i => (i.zero, i.size, i.bytes)) = some (some (.int .u64 0), 1, 8) := by kernel_rfl

/-- A number of 64 bits as a value. -/
def U64 (x : Nat) : Value := .int .u64 (x : Int)
/-- A slice of numbers that is read. -/
def Us (w : World) (a : Option Addr) (c : Nat) (l : List Nat) : Prop := Sl w 1 a c l.length (l.map U64)
/-- A row of numbers of the call's own. -/
def OwnU (w : World) (v : Value) (l : List Nat) : Prop := w.ownsRow 0 46 1 v l.length (l.map U64)

theorem OwnU.nil (w : World) : OwnU w (.slice none 0 0) [] := World.ownsRow_nil _ _ _ _
theorem OwnU.us {w : World} {a : Option Addr} {n c : Nat} {l : List Nat} (h : OwnU w (.slice a n c) l) : n = l.length ∧ Us w a c l := by
  obtain ⟨rfl, hs⟩ := Sl.of_own h
  exact ⟨rfl, hs⟩
theorem OwnU.slice {w : World} {v : Value} {l : List Nat} (h : OwnU w v l) : ∃ a c, v = .slice a l.length c := own_slice h
theorem OwnU.lt {w : World} {v : Value} {l : List Nat} (h : OwnU w v l) : ∀ k, v.ownBlock = some k → k < w.heap.size := fun k hk => (World.ownsRow.lt h k hk).2
theorem OwnU.fr {S : Nat → Prop} {w w' : World} {v : Value} {l : List Nat} (h : OwnU w v l) (hf : Fr S w w') (hs : ∀ k, v.ownBlock = some k → ¬ S k) : OwnU w' v l := by
  refine ⟨h.1, ?_⟩
  rcases h.2 with hn | ⟨g, cap, cur, rfl, hb, hg, r⟩
  · exact .inl hn
  · exact .inr ⟨g, cap, cur, rfl, hb, hf.keeps (hs g rfl) hg, r⟩

theorem Us.one {l : List Nat} : ∀ u ∈ l.map U64, u.oneCell' = true := by
  intro u hu
  simp only [List.mem_map] at hu
  obtain ⟨x, _, rfl⟩ := hu
  rfl

theorem Us.get {w : World} {a : Option Addr} {c : Nat} {l : List Nat} (h : Us w a c l) (j : Nat) (hj : j < l.length) : ∃ b off, a = some ⟨b, off, none⟩ ∧ w.cell? ⟨b, off + j, none⟩ = some (.int .u64 (l.getD j 0 : Nat)) :=
  h.cell j (U64 (l.getD j 0)) (by simp [List.getElem?_map, List.getElem?_eq_getElem hj, List.getD])

/-- 'append(s, x...)' on numbers, in a walk. -/
theorem wpList_appU {w : World} {ops : Array Oper} {rest : List Oper} {o : Oper} {a : Act} {Q : Exit → Act → World → Prop} (hgd : o.guard = none) (s x : Operand)
    (ho : o.op = .call { callee := .builtin .append, args := #[s, x], argTypes := #[49, 49] })
    (v : Value) (b0 : List Nat) (hs : a.eval s = v) (hown : OwnU w v b0) (ad : Option Addr) (m c : Nat) (l : List Nat) (hx : a.eval x = .slice ad m c) (hsl : Us w ad c l) (hm : m = l.length)
    (hb : b0.length + l.length ≤ 1000000)
    (h : ∀ a' c' w', OwnU w' (.slice a' (b0.length + l.length) c') (b0 ++ l) → w.grownBy w' v.ownBlock → (∀ k, ablk a' = some k → v.ownBlock = some k ∨ w.heap.size ≤ k) →
      wpList Tryd.prog ops Q rest (a.put o.dst (.slice a' (b0.length + l.length) c')) w') : wpList Tryd.prog ops Q (o :: rest) a w := by
  subst hm
  obtain ⟨i0, hi, hz0, hz1, hz2⟩ := info_parts Tryd.infoU64
  refine wpList_app hgd s x 49 ho 46 i0 (.int .u64 0) 1 8 Tryd.underlying49 hi hz0 hz1 hz2 rfl (by decide) v _ _ hs hown ad c _ _ hx hsl Us.one (by unfold maxLen; omega) (by omega) ?_
  intro a' c' w' h1 h2 h3
  exact h a' c' w' (by simpa [OwnU] using h1) h2 h3

theorem Us.of_new (w : World) (x : Nat) : Us (w.alloc (.cells #[.int .u64 (x : Int)] 46)) (some ⟨w.heap.size, 0, none⟩) 1 [x] :=
  ⟨rfl, Nat.le_refl _, by unfold maxLen; omega, (fun e => by cases e), fun j u hj => ⟨w.heap.size, 0, rfl, by
    rw [Nat.zero_add, cell_of_row _ _ j _ _ _ (heap_alloc_new w _)]
    match j, hj with
    | 0, hj => simpa [U64] using hj⟩⟩

theorem digit_any (a : Option Addr) (n c : Nat) (l : List Nat) (i : Nat) (hn : n = l.length) (w : World) (h : Us w a c l) :
    Calls Tryd.prog 29 #[.slice a n c, .int .i64 (i : Int)] w fun e w' => e = .returned (.int .u64 (l.getD i 0 : Nat)) ∧ w' = w := by
  subst hn
  by_cases hi : i < l.length
  · obtain ⟨b, off, rfl, hc⟩ := h.get i hi
    have l1 : (i : Int) < l.length := by omega
    clear h
    generalize l.getD i 0 = v at *
    go_enter Tryd.func29, Tryd.ntmps29
    go_wp2
    go_ret
    exact ⟨rfl, rfl⟩
  · have l1 : ¬ (i : Int) < l.length := by omega
    have e : l.getD i 0 = 0 := by simp [List.getD, List.getElem?_eq_none (show l.length ≤ i by omega)]
    rw [e]
    clear h e
    go_enter Tryd.func29, Tryd.ntmps29
    go_wp2
    go_ret
    exact ⟨rfl, rfl⟩

/-- What is left to be written of a product. -/
def restL (l : List Nat) (x i c : Nat) : List Nat := mulL (l.drop i) x c

theorem restL_in (l : List Nat) (x i c : Nat) (h : i < l.length) : restL l x i c = (c + l.getD i 0 * x) % 65536 :: restL l x (i + 1) ((c + l.getD i 0 * x) / 65536) := by
  rw [restL, List.drop_eq_getElem_cons h]
  simp [mulL, restL, List.getD, List.getElem?_eq_getElem h]

theorem restL_out (l : List Nat) (x i c : Nat) (h : l.length ≤ i) (h0 : 0 < c) (hc : c < 18446744073709551616) : restL l x i c = c % 65536 :: restL l x (i + 1) (c / 65536) := by
  rw [restL, restL, List.drop_eq_nil_of_le h, List.drop_eq_nil_of_le (by omega)]
  exact dig_step c h0 hc

theorem restL_end (l : List Nat) (x i : Nat) (h : l.length ≤ i) : restL l x i 0 = [] := by
  rw [restL, List.drop_eq_nil_of_le h]
  rfl

set_option maxRecDepth 100000 in
set_option maxHeartbeats 8000000 in
theorem power_any (x n : Nat) (hx : x < 1099511627776) (hn : n ≤ 3) (w : World) :
    Calls Tryd.prog 28 #[.int .u64 (x : Int), .int .i64 (n : Int)] w fun e w' => ∃ a c, e = .returned (.slice a (powL x n).length c) ∧ Us w' a c (powL x n) ∧ Fr F0 w w' := by
  go_enter Tryd.func28, Tryd.ntmps28
  go_wp2_with fail
  go_loopw [1, 5] (fun nv ov wr => ∃ k : Nat, k ≤ n ∧ nv = .int .i64 ((n - k : Nat) : Int) ∧ (∃ a c, ov = .slice a (powL x k).length c ∧ Us wr a c (powL x k)) ∧ Fr F0 w wr) (fun nv _ _ => (intOf nv).toNat)
  case atStart => exact ⟨0, Nat.zero_le _, rfl, ⟨_, _, rfl, Us.of_new w 1⟩, (Fr.refl F0 w).alloc _⟩
  case round =>
    obtain ⟨k, hk, rfl, ⟨a, c, rfl, hu⟩, hf⟩ := hrel
    obtain ⟨w1, hw1⟩ : ∃ w1, w1 = wr := ⟨_, rfl⟩
    subst hw1
    by_cases hkn : k < n
    · obtain ⟨d, hd⟩ : ∃ d, n - k = d := ⟨_, rfl⟩
      have l1 : (0 : Int) < (d : Int) := by omega
      have HD := Lib.hid hd
      have hsm := powL_small x k
      have hln := powL_length x k
      have hln2 := powL_length x (k + 1)
      have HP := Lib.hid (show powL x (k + 1) = restL (powL x k) x 0 0 by simp [restL, powL])
      generalize powL x k = L at *
      rw [hd]
      clear hd
      have HU := Lib.hid hu
      have HF := Lib.hid hf
      clear hu hf
      go_wp2_with fail
      rw [show decide (0 < d) = true from decide_eq_true (by omega)]
      go_loopw [6, 7, 8] (fun nv cv iv w2 => ∃ (i c' : Nat) (nx : List Nat), iv = .int .i64 i ∧ cv = .int .u64 c' ∧ (c' ≤ x ∧ nx.length = i) ∧ (∃ a2 c2, nv = .slice a2 nx.length c2 ∧ OwnU w2 (.slice a2 nx.length c2) nx ∧ ∀ g, ablk a2 = some g → w1.heap.size ≤ g) ∧ nx ++ restL L x i c' = powL x (k + 1) ∧ Fr F0 w1 w2)
        (fun _ cv iv _ => (L.length - (intOf iv).toNat) * 18446744073709551616 + (intOf cv).toNat)
      case atStart => exact ⟨0, 0, [], rfl, rfl, ⟨Nat.zero_le _, rfl⟩, ⟨_, _, rfl, World.ownsRow_made w1 #[] 0 (Nat.zero_le _) (Nat.zero_le _) rfl, fun g e => by cases e; exact Nat.le_refl _⟩, HP.out.symm, (Fr.refl F0 w1).alloc _⟩
      case round =>
        obtain ⟨i, c', nx, rfl, rfl, ⟨hcx, hni⟩, ⟨a2, c2, rfl, hown, hblk⟩, hres, hf2⟩ := hrel
        have hnl : nx.length ≤ 1 + 8 * (k + 1) := by have := congrArg List.length hres; simp at this; omega
        have hil : i ≤ 1000 := by omega
        have HNI := Lib.hid hni
        clear hni
        have HR := Lib.hid hres
        have HB := Lib.hid hblk
        clear hres hblk
        have hu2 : Us wr a c L := Sl.fr HU.out hf2 fun _ _ f => f
        by_cases hin : i < L.length
        · obtain ⟨b, off, ea, hc⟩ := hu2.get i hin
          have hd := hsm _ (List.getElem_mem hin)
          have e1 : L.getD i 0 = L[i] := by simp [List.getD, List.getElem?_eq_getElem hin]
          have hst := restL_in L x i c' hin
          rw [e1] at hst hc
          generalize L[i] = dd at *
          have hmul : dd * x ≤ 65535 * x := Nat.mul_le_mul_right _ (by omega)
          generalize hpr : dd * x = pr at *
          have m1 : IntKind.u64.wrap ((dd : Int) * x) = (pr : Int) := by
            rw [← Int.natCast_mul, hpr]
            exact IntWalk.u64_in _ (by omega)
          have m2 : IntKind.u64.wrap ((c' : Int) + pr) = ((c' + pr : Nat) : Int) := by rw [IntWalk.u64_in _ (by omega)]; omega
          obtain ⟨sm, hsmm⟩ : ∃ sm, c' + pr = sm := ⟨_, rfl⟩
          rw [hsmm] at m2 hst
          have hq : sm / 65536 ≤ x := by omega
          obtain ⟨r, hr⟩ : ∃ r, sm % 65536 = r := ⟨_, rfl⟩
          obtain ⟨z, hz⟩ : ∃ z, sm / 65536 = z := ⟨_, rfl⟩
          have mr : (sm : Int) % 65536 = (r : Int) := by omega
          have mz : (sm : Int) / 65536 = (z : Int) := by omega
          rw [hr, hz] at hst
          have l2 : (i : Int) < L.length := by omega
          have HST := Lib.hid hst
          have HZ := Lib.hid hz
          have hzx : z ≤ x := by omega
          clear hst hsmm hpr hmul e1 hr hz
          subst ea
          go_wp2_with (at_builtin; refine wpList_appU rfl _ _ rfl _ nx rfl (hown.fr ((Fr.refl F0 wr).alloc _) (fun _ _ f => f)) _ _ _ [r] rfl (Us.of_new wr r) rfl (by simp; omega) ?_; intro a3 c3 w3 ho hg hb)
          go_roundw
          case rel =>
            refine ⟨i + 1, z, nx ++ [r], by go_num, rfl, ⟨by omega, by have := HNI.out; simp; omega⟩, ⟨a3, c3, by simp, by simpa using ho, fun g hg' => ?_⟩, ?_, (hf2.alloc _).grown hg fun g e hl => ?_⟩
            · rcases hb g hg' with h | h
              · exact HB.out g (by rw [← ablk_own]; exact h)
              · have := hf2.size; simp only [World.size_alloc] at h; omega
            · rw [← HR.out, HST.out, List.append_assoc]; rfl
            · have := HB.out g (by rw [← ablk_own]; exact e)
              omega
          case measure => simp [intOf]; omega
        · by_cases hc0 : 0 < c'
          · have hst := restL_out L x i c' (by omega) hc0 (by omega)
            obtain ⟨r, hr⟩ : ∃ r, c' % 65536 = r := ⟨_, rfl⟩
            obtain ⟨z, hz⟩ : ∃ z, c' / 65536 = z := ⟨_, rfl⟩
            have mr : (c' : Int) % 65536 = (r : Int) := by omega
            have mz : (c' : Int) / 65536 = (z : Int) := by omega
            rw [hr, hz] at hst
            have l2 : ¬ (i : Int) < L.length := by omega
            have HLE := Lib.hid (show L.length ≤ i by omega)
            have l3 : (0 : Int) < (c' : Int) := by omega
            have HST := Lib.hid hst
            have HZ := Lib.hid hz
            have hzx : z ≤ x := by omega
            clear hst hr hz
            go_wp2_with (at_builtin; refine wpList_appU rfl _ _ rfl _ nx rfl (hown.fr ((Fr.refl F0 wr).alloc _) (fun _ _ f => f)) _ _ _ [r] rfl (Us.of_new wr r) rfl (by simp; omega) ?_; intro a3 c3 w3 ho hg hb)
            go_roundw
            case rel =>
              refine ⟨i + 1, z, nx ++ [r], by go_num, rfl, ⟨by have := HZ.out; omega, by have := HNI.out; simp; omega⟩, ⟨a3, c3, by simp, by simpa using ho, fun g hg' => ?_⟩, ?_, (hf2.alloc _).grown hg fun g e hl => ?_⟩
              · rcases hb g hg' with h | h
                · exact HB.out g (by rw [← ablk_own]; exact h)
                · have := hf2.size; simp only [World.size_alloc] at h; omega
              · rw [← HR.out, HST.out, List.append_assoc]; rfl
              · have := HB.out g (by rw [← ablk_own]; exact e)
                omega
            case measure =>
              have := HZ.out
              have := HLE.out
              simp [intOf]; omega
          · have l2 : ¬ (i : Int) < L.length := by omega
            have l3 : ¬ (0 : Int) < (c' : Int) := by omega
            have hc00 : c' = 0 := by omega
            have hfin : nx = powL x (k + 1) := by
              have := HR.out
              rw [hc00, restL_end _ _ _ (by omega), List.append_nil] at this
              exact this
            have HFIN := Lib.hid hfin
            clear hfin hc00
            have hdn : IntKind.i64.wrap ((d : Int) - 1) = ((d - 1 : Nat) : Int) := by rw [IntWalk.i64_in _ (by have := HD.out; omega)]; omega
            generalize hd1 : d - 1 = d1 at *
            have HD1 := Lib.hid hd1
            clear hd1
            go_wp2
            go_roundw
            case rel =>
              have := HD.out
              have := HD1.out
              refine ⟨k + 1, by omega, by go_num, ⟨a2, c2, by rw [← HFIN.out], ?_⟩, HF.out.trans' hf2⟩
              rw [← HFIN.out]
              exact hown.us.2
            case measure =>
              have := HD1.out
              simp [intOf]; omega
    · obtain rfl : k = n := by omega
      rw [Nat.sub_self]
      go_wp2
      go_ret
      exact ⟨a, c, rfl, hu, hf⟩
end Go.Proofs.YtpmdmojgpfpoeaaDoor
