import Derived.Test.YtdihahegmfdccaaDoorZb12
import Derived.Test.YtdihahegmfdccaaDoorZb13
import Derived.Test.YtdihahegmfdccaaDoorZb2
import Derived.Test.YtdihahegmfdccaaDoorZb8
import Derived.Test.YtdihahegmfdccaaDoorZb10
import Derived.Test.YtdihahegmfdccaaDoorZb1
import Derived.Laws.Cover3
/- Layer 7 (header): the document's bytes of a header. -/
namespace Go.Proofs.YtdihahegmfdccaaDoor
set_option linter.unusedVariables false
set_option linter.unusedSimpArgs false
open Go.RowKit

theorem le4 (x : Nat) : (le 4 x).length = 4 := le_length 4 x

set_option maxRecDepth 100000 in
set_option maxHeartbeats 4000000 in
theorem r7Bytes_any (h : Hd) (o : h.Ok) (w : World) :
    Calls Tryd.prog 25 #[.int .u32 (h.ver : Int), .agg (h.ahead.map B8).toArray, .agg (h.root.map B8).toArray, .int .u32 (h.time : Int), .int .u32 (h.bits : Int), .int .u32 (h.nonce : Int)] w (NewOwn h.bytes w) := by
  obtain ⟨v, A, R, t, b, n⟩ := h
  obtain ⟨o1, o2, o3, o4, o5, o6⟩ := o
  simp only at o1 o2 o3 o4 o5 o6
  simp only [Hd.bytes]
  go_enter Tryd.func25, Tryd.ntmps25
  go_wp2_with fail
  obtain ⟨W2, hW2⟩ : ∃ W, W = (w.alloc (.cells (A.map B8).toArray 23)).alloc (.cells (R.map B8).toArray 23) := ⟨_, rfl⟩
  refine Calls.of_world W2 hW2 ?_
  have q1 : W2.heap[w.heap.size]? = some (.cells (A.map B8).toArray 23 (0, 0)) := by rw [hW2, heap_alloc_old _ _ (by simp)]; exact heap_alloc_new _ _
  have q2 : W2.heap[w.heap.size + 1]? = some (.cells (R.map B8).toArray 23 (0, 0)) := by have := heap_alloc_new (w.alloc (.cells (A.map B8).toArray 23)) (.cells (R.map B8).toArray 23); rw [World.size_alloc] at this; rw [hW2]; exact this
  have fW : Fr F0 w W2 := by rw [hW2]; exact ((Fr.refl F0 w).alloc _).alloc _
  replace q1 := Lib.hid q1
  replace q2 := Lib.hid q2
  try simp only [World.size_alloc]
  clear hW2
  generalize w.heap.size = g at *
  refine (refPut_own v 4 W2 (by omega) (by omega)).mono ?_
  rintro e w1 ⟨a1, c1, rfl, p1, f1, b1⟩
  replace b1 := Lib.hid b1
  rw [le4] at p1 ⊢
  go_wp2_with fail
  go_loopw [13, 14, 19] (fun ov iv jv wr => ∃ (k : Nat) (a : Option Addr) (m c : Nat), k ≤ 32 ∧ jv = .int .i64 k ∧ ov = .slice a m c ∧ OwnB wr (.slice a m c) (le 4 v ++ A.take k) ∧ Fr F0 W2 wr ∧ Hid (∀ i, ablk a = some i → W2.heap.size ≤ i)) (fun _ _ jv _ => 32 - (intOf jv).toNat)
  case atStart => exact ⟨0, a1, 4, c1, Nat.zero_le _, rfl, rfl, by simpa using p1, f1, b1⟩
  case round =>
    obtain ⟨k, a, m, c, hk, rfl, rfl, po, fo, bo⟩ := hrel
    by_cases hkn : k < 32
    · have cA := (cell_at _ _ _).symm.trans (rowB_get (fo.keeps (fun f => f) q1.out) k (by omega))
      have hll : (le 4 v ++ A.take k).length ≤ 100 := by simp only [List.length_append, le4, List.length_take]; omega
      replace hll := Lib.hid hll
      have hm := Lib.hid (OwnB.bs po).1
      have hT := Lib.hid (take_succ_getD A k (by omega))
      generalize A.getD k 0 = z at *
      have O1 := po.fr ((Fr.refl F0 wr).alloc (.cells #[.int .u8 (z.toNat : Int)] 5)) fun _ _ => id
      have B1 := one_B8 wr z 5
      go_wp2_with (at_builtin; refine wpList_appBN (m + 1) rfl _ _ rfl (.slice a m c) _ rfl O1 _ _ _ _ rfl B1 rfl (by rw [hm.out]; rfl) (by have := hll.out; have := hm.out; omega) ?_; intro a' c' w1 ho1 hgr hb; have HB := Lib.hid hb; clear hb)
      have hf1 := own_app fo bo.out hgr
      have hb1 := own_new (fo.alloc _) bo.out HB.out
      go_roundw
      case rel =>
        refine ⟨k + 1, a', _, c', by omega, by go_num, rfl, ?_, hf1, hb1⟩
        rw [hT.out, ← List.append_assoc]
        exact ho1
      case measure => simp [intOf]; omega
    · have hk2 : k = 32 := by omega
      rw [hk2, List.take_of_length_le (Nat.le_of_eq o2)] at po
      clear hk2
      go_wp2
      go_loopw [13, 15, 29] (fun ov iv jv wr => ∃ (k : Nat) (a : Option Addr) (m c : Nat), k ≤ 32 ∧ jv = .int .i64 k ∧ ov = .slice a m c ∧ OwnB wr (.slice a m c) ((le 4 v ++ A) ++ R.take k) ∧ Fr F0 W2 wr ∧ Hid (∀ i, ablk a = some i → W2.heap.size ≤ i)) (fun _ _ jv _ => 32 - (intOf jv).toNat)
      case atStart => exact ⟨0, a, m, c, Nat.zero_le _, rfl, rfl, by simpa using po, fo, bo⟩
      case round =>
        obtain ⟨k, a, m, c, hk, rfl, rfl, po, fo, bo⟩ := hrel
        by_cases hkn : k < 32
        · have cA := (cell_at _ _ _).symm.trans (rowB_get (fo.keeps (fun f => f) q2.out) k (by omega))
          have hll : ((le 4 v ++ A) ++ R.take k).length ≤ 100 := by simp only [List.length_append, le4, List.length_take]; omega
          replace hll := Lib.hid hll
          have hm := Lib.hid (OwnB.bs po).1
          have hT := Lib.hid (take_succ_getD R k (by omega))
          generalize R.getD k 0 = z at *
          have O1 := po.fr ((Fr.refl F0 wr).alloc (.cells #[.int .u8 (z.toNat : Int)] 5)) fun _ _ => id
          have B1 := one_B8 wr z 5
          go_wp2_with (at_builtin; refine wpList_appBN (m + 1) rfl _ _ rfl (.slice a m c) _ rfl O1 _ _ _ _ rfl B1 rfl (by rw [hm.out]; rfl) (by have := hll.out; have := hm.out; omega) ?_; intro a' c' w1 ho1 hgr hb; have HB := Lib.hid hb; clear hb)
          have hf1 := own_app fo bo.out hgr
          have hb1 := own_new (fo.alloc _) bo.out HB.out
          go_roundw
          case rel =>
            refine ⟨k + 1, a', _, c', by omega, by go_num, rfl, ?_, hf1, hb1⟩
            rw [hT.out, ← List.append_assoc]
            exact ho1
          case measure => simp [intOf]; omega
        · have hk3 : k = 32 := by omega
          rw [hk3, List.take_of_length_le (Nat.le_of_eq o3)] at po
          clear hk3
          have hlz := Lib.hid (show (le 4 v ++ A ++ R).length = 68 by simp only [List.length_append, le4]; omega)
          go_wp2_with fail
          refine (refPut_own t 4 wr (by omega) (by omega)).mono ?_
          rintro e w3 ⟨a3, c3, rfl, p3, f3, b3⟩
          have s3 := (OwnB.bs p3).2
          have po3 := po.fr f3 (fun _ _ => id)
          replace b3 := Lib.hid b3
          rw [le4]
          go_wp2_with (at_builtin; refine wpList_appBN 72 rfl _ _ rfl (.slice a m c) _ rfl po3 _ _ _ _ rfl s3 (le4 _).symm (by rw [hlz.out, le4]) (by omega) ?_; intro a' c' w1 ho1 hgr hb; have HB := Lib.hid hb; clear hb)
          have fo4 := own_app0 (fo.trans' f3) bo.out hgr
          have bo4 := Lib.hid (own_new (fo.trans' f3) bo.out HB.out)
          clear hgr HB po3 s3 b3 p3 f3 fo bo po
          have hl4 := Lib.hid (show (le 4 v ++ A ++ R ++ le 4 t).length = 72 by rw [List.length_append, hlz.out, le4])
          refine (refPut_own b 4 w1 (by omega) (by omega)).mono ?_
          rintro e w3 ⟨a4, c4, rfl, p3, f3, b3⟩
          have s3 := (OwnB.bs p3).2
          have po3 := ho1.fr f3 (fun _ _ => id)
          rw [le4]
          clear b3
          go_wp2_with (at_builtin; refine wpList_appBN 76 rfl _ _ rfl (.slice a' 72 c') _ rfl po3 _ _ _ _ rfl s3 (le4 _).symm (by rw [hl4.out, le4]) (by omega) ?_; intro a5 c5 w5 ho5 hgr hb; have HB := Lib.hid hb; clear hb)
          have fo5 := own_app0 (fo4.trans' f3) bo4.out hgr
          have bo5 := Lib.hid (own_new (fo4.trans' f3) bo4.out HB.out)
          clear hgr HB po3 s3 p3 f3 fo4 bo4 ho1
          have hl5 := Lib.hid (show (le 4 v ++ A ++ R ++ le 4 t ++ le 4 b).length = 76 by rw [List.length_append, hl4.out, le4])
          refine (refPut_own n 4 w5 (by omega) (by omega)).mono ?_
          rintro e w3 ⟨a6, c6, rfl, p3, f3, b3⟩
          have s3 := (OwnB.bs p3).2
          have po3 := ho5.fr f3 (fun _ _ => id)
          rw [le4]
          clear b3
          go_wp2_with (at_builtin; refine wpList_appBN 80 rfl _ _ rfl (.slice a5 76 c5) _ rfl po3 _ _ _ _ rfl s3 (le4 _).symm (by rw [hl5.out, le4]) (by omega) ?_; intro a7 c7 w7 ho7 hgr hb; have HB := Lib.hid hb; clear hb)
          go_ret
          have fo7 := own_app0 (fo5.trans' f3) bo5.out hgr
          have bo7 := own_new (fo5.trans' f3) bo5.out HB.out
          have e : le 4 v ++ A ++ R ++ le 4 t ++ le 4 b ++ le 4 n = le 4 v ++ (A ++ (R ++ (le 4 t ++ (le 4 b ++ le 4 n)))) := by simp only [List.append_assoc]
          rw [e] at ho7
          exact NewOwn.mk' ho7 (fW.trans' fo7) fun k hk => Nat.le_trans fW.size (bo7 k hk)

theorem Hd.cellH {h : Hd} (o : h.Ok) : h.cells.extract 1 33 = (h.ahead.map B8).toArray := by
  apply Array.toList_inj.1
  rw [Hd.range1 o]
theorem Hd.cellR {h : Hd} (o : h.Ok) : h.cells.extract 33 65 = (h.root.map B8).toArray := by
  apply Array.toList_inj.1
  rw [Hd.range33 o]
end Go.Proofs.YtdihahegmfdccaaDoor

/- Layer 7 (header): whole headers and their fields in memory; Ref. -/
namespace Go.Proofs.YtdihahegmfdccaaDoor
set_option linter.unusedVariables false
set_option linter.unusedSimpArgs false
open Go.RowKit

theorem Tryd.szHeader : (Tryd.prog.info? 26).map (·.size) = some 68 := by kernel_rfl
@[go_sem ↓ high] theorem load_header (p : Value) : Instr.loadAt 26 p = loadRowAt 26 p := rfl
@[go_sem ↓ high] theorem store_header (p v : Value) : Instr.storeAt 26 p v = storeRowAt 26 p v := rfl
@[go_sem] theorem run_load_header (w : World) (g : Nat) : (loadRowAt 26 (.pointer (some ⟨g, 0, none⟩))).run Tryd.prog w = rowOut Tryd.prog 26 (.pointer (some ⟨g, 0, none⟩)) w 68 w.heap[g]? :=
  run_loadRowAt w _ g 68 _ Tryd.underlying26 rfl Tryd.szHeader
@[go_sem] theorem run_store_header (w : World) (g : Nat) (cells : Array Value) : (storeRowAt 26 (.pointer (some ⟨g, 0, none⟩)) (.agg cells)).run Tryd.prog w = rowIn Tryd.prog 26 (.pointer (some ⟨g, 0, none⟩)) cells g w 68 w.heap[g]? :=
  run_storeRowAt w _ g 68 cells Tryd.szHeader

@[go_sem ↓ high] theorem store_hash (p v : Value) : Instr.storeAt 24 p v = storeRowAt 24 p v := rfl
@[go_sem] theorem run_store_hash (w : World) (g : Nat) (cells : Array Value) : (storeRowAt 24 (.pointer (some ⟨g, 0, none⟩)) (.agg cells)).run Tryd.prog w = rowIn Tryd.prog 24 (.pointer (some ⟨g, 0, none⟩)) cells g w 32 w.heap[g]? :=
  run_storeRowAt w _ g 32 cells Tryd.szHash

/-- A header that is built of its parts. -/
def buildHd (parts : Array (Nat × Value)) : Sem Value := Instr.build 26 parts
@[go_sem ↓ high] theorem build_header (p : Array (Nat × Value)) : Instr.build 26 p = buildHd p := rfl
theorem run_buildHd (w : World) (parts : Array (Nat × Value)) (cells : Array Value) (h : Tryd.prog.built 26 parts.toList = some cells) : (buildHd parts).run Tryd.prog w = .ok (.agg cells) w := run_build w _ parts cells h

@[go_sem] theorem run_load_hash1 (w : World) (g : Nat) : (loadRowAt 24 (.pointer (some ⟨g, 1, none⟩))).run Tryd.prog w = midOut Tryd.prog 24 (.pointer (some ⟨g, 1, none⟩)) w 32 1 68 w.heap[g]? :=
  run_loadMid w _ g 1 32 68 _ (by omega) Tryd.underlying24 rfl Tryd.szHash
@[go_sem] theorem run_load_hash33 (w : World) (g : Nat) : (loadRowAt 24 (.pointer (some ⟨g, 33, none⟩))).run Tryd.prog w = midOut Tryd.prog 24 (.pointer (some ⟨g, 33, none⟩)) w 32 33 68 w.heap[g]? :=
  run_loadMid w _ g 33 32 68 _ (by omega) Tryd.underlying24 rfl Tryd.szHash

/-- A header's cells, by what a walk asks of them. -/
structure CellsOf (h : Hd) (C : Array Value) : Prop where
  size : C.size = 68
  c0 : C[0]? = some (.int .u32 (h.ver : Int))
  c65 : C[65]? = some (.int .u32 (h.time : Int))
  c66 : C[66]? = some (.int .u32 (h.bits : Int))
  c67 : C[67]? = some (.int .u32 (h.nonce : Int))
  x1 : C.extract 1 33 = (h.ahead.map B8).toArray
  x33 : C.extract 33 65 = (h.root.map B8).toArray
  one : rowOne C
theorem Hd.one {h : Hd} : rowOne h.cells := by
  unfold rowOne
  rw [Array.all_eq_true_iff_forall_mem]
  intro v hv
  simp only [Hd.cells, List.mem_toArray, List.mem_cons, List.mem_append, List.mem_map, List.not_mem_nil, or_false] at hv
  rcases hv with rfl | ⟨_, _, rfl⟩ | ⟨_, _, rfl⟩ | rfl | rfl | rfl <;> rfl
theorem Hd.of {h : Hd} (o : h.Ok) : CellsOf h h.cells := ⟨Hd.cells_size o, Hd.cell0 o, Hd.cell65 o, Hd.cell66 o, Hd.cell67 o, Hd.cellH o, Hd.cellR o, Hd.one⟩

set_option maxRecDepth 100000 in
set_option maxHeartbeats 4000000 in
theorem Ref07_any (h : Hd) (o : h.Ok) (w : World) : Calls Tryd.prog 9 #[.agg h.cells] w (NewOwn h.bytes w) := by
  have HB := Lib.hid (r7Bytes_any h o)
  obtain ⟨s, c0, c65, c66, c67, x1, x33, _⟩ := Hd.of o
  generalize h.cells = C at *
  generalize h.bytes = bs at *
  obtain ⟨v, A, R, t, b, n⟩ := h
  simp only at *
  obtain ⟨o1, o2, o3, o4, o5, o6⟩ := o
  simp only at *
  have r0 := heap_alloc_new w (.cells C 26)
  have F := (Fr.refl F0 w).alloc (.cells C 26)
  go_enter Tryd.func9, Tryd.ntmps9
  go_wp2_with fail
  have d0 := cell_is c0 (by omega)
  have d65 := cell_is c65 (by omega)
  have d66 := cell_is c66 (by omega)
  have d67 := cell_is c67 (by omega)
  rw [d0, d65, d66, d67]
  refine (HB.out _).mono ?_
  rintro e w1 ⟨a1, c1, rfl, p1, f1, b1⟩
  replace b1 := Lib.hid fun k hk => Nat.le_trans (show w.heap.size ≤ _ by rw [World.size_alloc]; omega) (b1 k hk)
  replace F := F.trans' f1
  go_wp2_with fail
  go_ret
  exact NewOwn.mk' p1 F b1.out
end Go.Proofs.YtdihahegmfdccaaDoor

/- Layer 7 (header): headers held against each other. -/
namespace Go.Proofs.YtdihahegmfdccaaDoor
set_option linter.unusedVariables false
set_option linter.unusedSimpArgs false
open Go.RowKit

set_option maxRecDepth 100000 in
theorem run_equalIn_hash (w : World) (l m : List UInt8) (hl : l.length = 32) (hm : m.length = 32) : (Op.equalIn 9999 24 (.agg (l.map B8).toArray) (.agg (m.map B8).toArray)).run Tryd.prog w = .ok (decide (l = m)) w := by
  obtain ⟨i0, hi, _⟩ := info_parts Tryd.infoU8
  rw [run_equalIn_array w 9998 _ _ Tryd.underlying24 hi, show Tryd.prog.cellsOf 5 = 1 by kernel_rfl, run_eqItems_bytes w 5 9997 (by kernel_rfl) Tryd.underlying5 l m 32 hl hm _ (fun j hj => List.mem_range.1 hj)]
  congr 1
  rw [Bool.eq_iff_iff]
  simp only [List.all_eq_true, List.mem_range, decide_eq_true_eq]
  constructor
  · intro h
    apply List.ext_getElem (by omega)
    intro j h1 h2
    have := h j (by omega)
    simpa [List.getD, List.getElem?_eq_getElem h1, List.getElem?_eq_getElem h2] using this
  · rintro rfl j _
    rfl
theorem run_part_hash (w : World) (C : Array Value) (o : Nat) : (part 24 C o).run Tryd.prog w = .ok (.agg (C.extract o (o + 32))) w := by
  have hs := Tryd.szHash
  cases hq : Tryd.prog.info? 24 with
  | none => simp [hq] at hs
  | some i =>
    have h32 : i.size = 32 := by simpa [hq] using hs
    have hagg : (isAgg 24).run Tryd.prog w = .ok true w := by
      unfold isAgg
      rw [Sem.run_bind, run_underlying Tryd.underlying24 w]
      rfl
    simp [part, Sem.run_bind, hagg, sizeOf, typeInfo, hq, h32]
theorem Hd.ext' {a b : Hd} (h1 : a.ver = b.ver) (h2 : a.ahead = b.ahead) (h3 : a.root = b.root) (h4 : a.time = b.time) (h5 : a.bits = b.bits) (h6 : a.nonce = b.nonce) : a = b := by
  cases a; cases b; simp_all
theorem dec_int (x y : Nat) : ((x : Int) == (y : Int)) = decide (x = y) := by
  by_cases h : x = y
  · subst h; simp
  · rw [decide_eq_false h]
    exact beq_false_of_ne (by omega)
set_option maxRecDepth 100000 in
set_option maxHeartbeats 1000000 in
theorem run_equalIn_header (w : World) (a b : Hd) (oa : a.Ok) (ob : b.Ok) : (Op.equalIn 10000 26 (.agg a.cells) (.agg b.cells)).run Tryd.prog w = .ok (decide (a = b)) w := by
  obtain ⟨_, a0, a65, a66, a67, a1, a33, _⟩ := Hd.of oa
  obtain ⟨_, b0, b65, b66, b67, b1, b33, _⟩ := Hd.of ob
  have hf : Tryd.prog.fieldsOf 26 = (match Tryd.prog.underlying 26 with | some (.struct fs) => fs | _ => #[]) := rfl
  rw [Tryd.underlying26] at hf
  have hu : Tryd.prog.underlying 26 = some (.struct (Tryd.prog.fieldsOf 26)) := by rw [hf, Tryd.underlying26]
  rw [run_equalIn_struct w 9999 26 _ _ hu (by kernel_rfl), hf]
  have pk : Tryd.prog.plainKey 22 = true := by kernel_rfl
  have A : ∀ {C : Array Value} {o : Nat} {v : Value} (w : World), C[o]? = some v → (part 22 C o).run Tryd.prog w = .ok v w := fun w h => run_part_plain w pk h
  have E : ∀ (w : World) (x y : Nat), (Op.equalIn 9999 22 (.int .u32 (x : Int)) (.int .u32 (y : Int))).run Tryd.prog w = .ok (decide (x = y)) w := fun w x y => by
    rw [run_equalIn_int w 9998 22 .u32 .u32 _ _ Tryd.underlying22, dec_int]
  have H := fun l m hl hm => run_equalIn_hash w l m hl hm
  simp only [Op.eqFields, Sem.run_bind, A w a0, A w b0, A w a65, A w b65, A w a66, A w b66, A w a67, A w b67, run_part_hash, a1, b1, a33, b33, E, Result.andThen_ok, H _ _ oa.ahead ob.ahead, H _ _ oa.root ob.root, Sem.run_ite, Sem.run_pure]
  simp only [ne_eq, String.reduceEq, not_false_eq_true, if_true]
  by_cases h1 : a.ver = b.ver <;> by_cases h2 : a.ahead = b.ahead <;> by_cases h3 : a.root = b.root <;> by_cases h4 : a.time = b.time <;> by_cases h5 : a.bits = b.bits <;> by_cases h6 : a.nonce = b.nonce
  all_goals first
    | (have := Hd.ext' h1 h2 h3 h4 h5 h6; subst this; simp)
    | (have hn : ¬ a = b := (by rintro rfl; simp at *); simp [h1, h2, h3, h4, h5, h6, hn])
end Go.Proofs.YtdihahegmfdccaaDoor

/- Layer 7 (header): the document's number of a hash. -/
namespace Go.Proofs.YtdihahegmfdccaaDoor
set_option linter.unusedVariables false
set_option linter.unusedSimpArgs false
open Go.RowKit

theorem byte_step7 (x j : Nat) : x / 2 ^ (8 * (j + 1)) * 256 + dgt 8 x j = x / 2 ^ (8 * j) := by
  unfold dgt
  rw [show 8 * (j + 1) = 8 * j + 8 by omega, Nat.pow_add, ← Nat.div_div_eq_div_mul]
  have := Nat.div_add_mod (x / 2 ^ (8 * j)) (2 ^ 8)
  omega

theorem lg_2567 : lg 256 = 1 := by decide
theorem dg_2567 : dg 256 = [256] := by unfold dg; rw [lg_2567]; simp [ds, dgt]

set_option maxRecDepth 100000 in
set_option maxHeartbeats 8000000 in
theorem r7Number_any (h : Nat) (hh : h < W256) (w : World) : Calls Tryd.prog 37 #[.agg (rowN .u8 8 32 h)] w fun e w' => NN h w e w' := by
  have HMu := Lib.hid (fun x (hx : lg x ≤ 10000) a c a2 c2 w h1 (h2 : Us w a2 c2 [256]) => by
    have := r3Mul_any x 256 a c a2 c2 hx (lg_w10 (word_w (by omega))) w h1 (by unfold Ns; rw [dg_2567]; exact h2)
    rwa [lg_2567] at this)
  have HAd := Lib.hid (fun x y (hx : lg x ≤ 10000) (hy : lg y ≤ 10000) a c a2 c2 w h1 h2 => r3Add_any x y a c a2 c2 hx hy w h1 h2)
  have h32 : h / 2 ^ (8 * 32) = 0 := Nat.div_eq_of_lt hh
  have hlh : ∀ j, lg (h / 2 ^ (8 * j)) ≤ 5000 := fun j => lg_w (Nat.lt_of_le_of_lt (Nat.div_le_self _ _) hh)
  have HHW := Lib.hid hh
  clear hh
  have H32 := Lib.hid h32
  have HLH := Lib.hid hlh
  clear h32 hlh
  go_enter Tryd.func37, Tryd.ntmps37
  go_upto_region 2 with fail
  obtain ⟨W10, hW10⟩ : ∃ W, W = (w.alloc (.cells (rowN .u8 8 32 h) 23)).alloc (.cells #[] 38) := ⟨_, rfl⟩
  refine wp_of_world W10 hW10 ?_
  have n0 : Us W10 (some ⟨w.heap.size + 1, 0, none⟩) 0 [] := by
    have := Us.of_list (w.alloc (.cells (rowN .u8 8 32 h) 23)) [] 38 (by simp)
    rw [World.size_alloc] at this
    rw [hW10]; exact this
  have r2 : W10.heap[w.heap.size]? = some (.cells (rowN .u8 8 32 h) 23 (0, 0)) := by rw [hW10]; exact keep_alloc (heap_alloc_new _ _)
  have F : Fr F0 w W10 := by rw [hW10]; exact ((Fr.refl _ _).alloc _).alloc _
  clear hW10
  generalize w.heap.size + 1 = g3 at *
  generalize w.heap.size = g2 at *
  go_wp2_with fail
  go_loopw [3, 4] (fun ov iv wr => ∃ i : Nat, i ≤ 32 ∧ iv = .int .i64 ((i : Int) - 1) ∧ (∃ a' c', ov = .slice a' (lg (h / 2 ^ (8 * i))) c' ∧ Ns wr a' c' (h / 2 ^ (8 * i))) ∧ wr.heap[g2]? = some (.cells (rowN .u8 8 32 h) 23 (0, 0)) ∧ Fr F0 w wr) (fun _ iv _ => (intOf iv + 1).toNat)
  case atStart => exact ⟨32, by omega, rfl, ⟨_, _, by rw [H32.out]; rfl, by rw [H32.out]; exact n0⟩, r2, F⟩
  case round =>
    clear n0 r2 F
    obtain ⟨i, hi, rfl, ⟨a1, c1, rfl, n1⟩, r2, hf⟩ := hrel
    cases i with
    | zero =>
      rw [Nat.mul_zero, Nat.pow_zero, Nat.div_one] at n1 ⊢
      clear HMu HAd HLH H32
      go_wp2_with fail
      go_ret
      exact ⟨a1, c1, rfl, n1, hf⟩
    | succ j =>
      have hst := byte_step7 h j
      have hd8 := dgt_lt 8 h j
      have hbn := rowN_nil4 0
      have hsd := set_first (dgt 8 h j) (by omega)
      have m1 : IntKind.u64.wrap ((dgt 8 h j : Nat) : Int) = ((dgt 8 h j : Nat) : Int) := IntWalk.u64_in _ (by omega)
      have HMj := Lib.hid (HMu.out (h / 2 ^ (8 * (j + 1))) (by have := HLH.out (j + 1); omega))
      have HOd := Lib.hid (r3Of_any (dgt 8 h j) (word_w (by omega)))
      have HAj := Lib.hid (HAd.out (h / 2 ^ (8 * (j + 1)) * 256) (dgt 8 h j) (lg_w10 (by
        have h1 : h / 2 ^ (8 * (j + 1)) * 256 ≤ h / 2 ^ (8 * j) := by omega
        exact Nat.lt_of_le_of_lt h1 ((lg_16 _).1 (lg_word (Nat.lt_of_le_of_lt (Nat.div_le_self _ _) HHW.out))))) (lg_w10 (word_w (by omega))))
      rw [hst] at HAj
      have l3 : (0 : Int) ≤ (j : Int) := by omega
      have l4 : (j : Int) < 32 := by omega
      have l5 : j < 32 := by omega
      generalize hv : h / 2 ^ (8 * j) = v at *
      have HV := Lib.hid hv
      generalize h / 2 ^ (8 * (j + 1)) = y at *
      rw [show ((j + 1 : Nat) : Int) - 1 = (j : Int) by omega]
      clear hst hd8 hv hi HMu HAd HLH
      go_upto_region 5 with fail
      refine wp_region_noPanic ?_
      refine wp_region_held_drew (S := (fun w' => w'.heap[g2]? = some (.cells (rowN .u8 8 32 h) 23 (0, 0)) ∧ Fr F0 wr w')) (by kernel_rfl) ?_ (fun hHeld => ?_)
      · ((try dsimp only) <;> (first | exact ⟨r2, (Fr.refl F0 wr).drew⟩ | exact ⟨keep_fr f5 hHeld.1, hHeld.2.trans' f5⟩ | exact ⟨keep_alloc hHeld.1, hHeld.2.alloc _⟩))
      refine wpAnyH_take (i := 0) (oi := ⟨_, _, _, _, _, _⟩) (v := ?_) rfl (by kernel_rfl) (by kernel_rfl) (by kernel_rfl) (fun _ _ _ h => h) (Or.inl ⟨by rfl, ?_⟩) (by assumption) ?_
      rotate_left
      · intro w hSw; (try dsimp only at hSw); go_simp; (try (with_reducible rfl)); done
      simp only [Act.put, List.setIfInBounds_toArray]; dsimp only [List.set_cons_zero, List.set_cons_succ]
      refine wpAnyH_take (i := 3) (oi := ⟨_, _, _, _, _, _⟩) (v := ?_) rfl (by kernel_rfl) (by kernel_rfl) (by kernel_rfl) (fun _ _ _ h => h) (Or.inl ⟨by rfl, ?_⟩) (by assumption) ?_
      rotate_left
      · intro w hSw; (try dsimp only at hSw); go_simp; (try (with_reducible rfl)); done
      simp only [Act.put, List.setIfInBounds_toArray]; dsimp only [List.set_cons_zero, List.set_cons_succ]
      refine wpAnyH_take (i := 4) (oi := ⟨_, _, _, _, _, _⟩) (v := ?_) rfl (by kernel_rfl) (by kernel_rfl) (by kernel_rfl) (fun _ _ _ h => h) (Or.inl ⟨by rfl, ?_⟩) (by assumption) ?_
      rotate_left
      · intro w hSw; (try dsimp only at hSw); go_simp; (try (with_reducible rfl)); done
      simp only [Act.put, List.setIfInBounds_toArray]; dsimp only [List.set_cons_zero, List.set_cons_succ]
      refine wpAnyH_take (i := 5) (oi := ⟨_, _, _, _, _, _⟩) (v := ?_) rfl (by kernel_rfl) (by kernel_rfl) (by kernel_rfl) (fun _ _ _ h => h) (Or.inl ⟨by rfl, ?_⟩) (by assumption) ?_
      rotate_left
      · intro w hSw; (try dsimp only at hSw); go_simp; (try (with_reducible rfl)); done
      simp only [Act.put, List.setIfInBounds_toArray]; dsimp only [List.set_cons_zero, List.set_cons_succ]
      refine wpAnyH_take (i := 6) (oi := ⟨_, _, _, _, _, _⟩) (v := ?_) rfl (by kernel_rfl) (by kernel_rfl) (by kernel_rfl) (fun _ _ _ h => h) (Or.inl ⟨by rfl, ?_⟩) (by assumption) ?_
      rotate_left
      · intro w hSw; (try dsimp only at hSw); go_simp; (try (with_reducible rfl)); done
      simp only [Act.put, List.setIfInBounds_toArray]; dsimp only [List.set_cons_zero, List.set_cons_succ]
      refine wpAnyH_take (i := 7) (oi := ⟨_, _, _, _, _, _⟩) (v := ?_) rfl (by kernel_rfl) (by kernel_rfl) (by kernel_rfl) (fun _ _ _ h => h) (Or.inl ⟨by rfl, ?_⟩) (by assumption) ?_
      rotate_left
      · intro w hSw; (try dsimp only at hSw); go_simp; (try (with_reducible rfl)); done
      simp only [Act.put, List.setIfInBounds_toArray]; dsimp only [List.set_cons_zero, List.set_cons_succ]
      refine wpAnyH_ready (rs := [1]) (by kernel_rfl) (by simp) ?_
      refine AllReadyH.cons (o := ⟨_, _, _, _, _, _⟩) rfl (fun K hK => ?_) AllReadyH.nil
      go_simp
      refine hK.out _ _ ?_ (fun hHeld => ?_)
      · ((try dsimp only) <;> (first | exact ⟨r2, (Fr.refl F0 wr).drew⟩ | exact ⟨keep_fr f5 hHeld.1, hHeld.2.trans' f5⟩ | exact ⟨keep_alloc hHeld.1, hHeld.2.alloc _⟩))
      clear hK K
      try (simp only [Act.put, List.setIfInBounds_toArray]; dsimp only [List.set_cons_zero, List.set_cons_succ])
      refine wpAnyH_ready (rs := [2]) (by kernel_rfl) (by simp) ?_
      refine AllReadyH.cons (o := ⟨_, _, _, _, _, _⟩) rfl (fun K hK => ?_) AllReadyH.nil
      go_simp
      (refine (HMj.out _ _ _ _ _ (Us.fr n1 hHeld.2) (Us.fr (Us.of1 wr 256 38) (Fr.refl F0 _).drew)).mono ?_; rintro e w12 ⟨p7, k7, rfl, n7, f5⟩)
      refine hK.out _ _ ?_ (fun hHeld => ?_)
      · ((try dsimp only) <;> (first | exact ⟨r2, (Fr.refl F0 wr).drew⟩ | exact ⟨keep_fr f5 hHeld.1, hHeld.2.trans' f5⟩ | exact ⟨keep_alloc hHeld.1, hHeld.2.alloc _⟩))
      clear hK K
      try (simp only [Act.put, List.setIfInBounds_toArray]; dsimp only [List.set_cons_zero, List.set_cons_succ])
      refine wpAnyH_ready (rs := [8]) (by kernel_rfl) (by simp) ?_
      refine AllReadyH.cons (o := ⟨_, _, _, _, _, _⟩) rfl (fun K hK => ?_) AllReadyH.nil
      go_simp
      ((with_reducible refine (HOd.out _).mono ?_); rintro e w13 ⟨p8, k8, rfl, n8, f5⟩; replace n7 := Us.fr n7 f5)
      refine hK.out _ _ ?_ (fun hHeld => ?_)
      · ((try dsimp only) <;> (first | exact ⟨r2, (Fr.refl F0 wr).drew⟩ | exact ⟨keep_fr f5 hHeld.1, hHeld.2.trans' f5⟩ | exact ⟨keep_alloc hHeld.1, hHeld.2.alloc _⟩))
      clear hK K
      try (simp only [Act.put, List.setIfInBounds_toArray]; dsimp only [List.set_cons_zero, List.set_cons_succ])
      refine wpAnyH_ready (rs := [9]) (by kernel_rfl) (by simp) ?_
      refine AllReadyH.cons (o := ⟨_, _, _, _, _, _⟩) rfl (fun K hK => ?_) AllReadyH.nil
      go_simp
      ((with_reducible refine (HAj.out _ _ _ _ _ n7 n8).mono ?_); rintro e w14 ⟨p9, k9, rfl, n9, f5⟩)
      refine hK.out _ _ ?_ (fun hHeld => ?_)
      · ((try dsimp only) <;> (first | exact ⟨r2, (Fr.refl F0 wr).drew⟩ | exact ⟨keep_fr f5 hHeld.1, hHeld.2.trans' f5⟩ | exact ⟨keep_alloc hHeld.1, hHeld.2.alloc _⟩))
      clear hK K
      try (simp only [Act.put, List.setIfInBounds_toArray]; dsimp only [List.set_cons_zero, List.set_cons_succ])
      refine wpAnyH_take (i := 10) (oi := ⟨_, _, _, _, _, _⟩) (v := ?_) rfl (by kernel_rfl) (by kernel_rfl) (by kernel_rfl) (fun _ _ _ h => h) (Or.inl ⟨by rfl, ?_⟩) (by assumption) ?_
      rotate_left
      · intro w hSw; (try dsimp only at hSw); go_simp; (try (with_reducible rfl)); done
      simp only [Act.put, List.setIfInBounds_toArray]; dsimp only [List.set_cons_zero, List.set_cons_succ]
      refine wpAnyH_done (by kernel_rfl) ?_ _
      refine NoPanic.normal ?_
      all_goals
        go_wp2
        go_roundw
        case rel => exact ⟨j, by omega, by go_num, ⟨p9, k9, by rw [HV.out], by rw [HV.out]; exact n9⟩, hHeld.1, hf.trans' hHeld.2⟩
        case measure => simp [intOf]
end Go.Proofs.YtdihahegmfdccaaDoor

/- Layer 7 (header): the document's Meets. -/
namespace Go.Proofs.YtdihahegmfdccaaDoor
set_option linter.unusedVariables false
set_option linter.unusedSimpArgs false
open Go.RowKit

theorem ofLE_le7 (n x : Nat) : ofLE (le n x) = x % 256 ^ n := by
  induction n generalizing x with
  | zero => simp [le, ofLE, Nat.mod_one]
  | succ n ih =>
    simp only [le, ofLE, ih, Nat.pow_succ, UInt8.toNat_ofNat', Nat.mod_mod]
    rw [Nat.mul_comm (256 ^ n) 256, Nat.mod_mul]
theorem bits_at {h : Hd} (o : h.Ok) : ((h.bytes.drop 72).take 4) = le 4 h.bits := by
  obtain ⟨v, A, R, t, b, n⟩ := h
  obtain ⟨o1, o2, o3, o4, o5, o6⟩ := o
  simp only at o2 o3
  simp only [Hd.bytes]
  rw [show le 4 v ++ (A ++ (R ++ (le 4 t ++ (le 4 b ++ le 4 n)))) = (le 4 v ++ A ++ R ++ le 4 t) ++ (le 4 b ++ le 4 n) by simp only [List.append_assoc]]
  rw [List.drop_left' (by simp only [List.length_append, le4]; omega), List.take_left' (le4 b)]
/-- 32 bytes as a number's. -/
theorem row_ofLE : ∀ (l : List UInt8), (rowN .u8 8 l.length (ofLE l)).toList = l.map B8 := by
  intro l
  apply List.ext_getElem?
  intro i
  by_cases hi : i < l.length
  · rw [Array.getElem?_toList, rowN_get _ _ _ _ _ hi, List.getElem?_map, List.getElem?_eq_getElem hi]
    simp only [Option.map_some, B8, Option.some.injEq, Value.int.injEq, true_and]
    congr 1
    have key : ∀ (l : List UInt8) (i : Nat) (hi : i < l.length), dgt 8 (ofLE l) i = l[i].toNat := by
      intro l
      induction l with
      | nil => intro i hi; simp at hi
      | cons x l ih =>
        intro i hi
        have hx := x.toNat_lt
        cases i with
        | zero => simp only [dgt, ofLE, List.getElem_cons_zero]; omega
        | succ i =>
          have h2 := ih i (by simpa using hi)
          simp only [List.getElem_cons_succ]
          rw [← h2]
          simp only [dgt, ofLE]
          rw [show 8 * (i + 1) = 8 + 8 * i by omega, Nat.pow_add, ← Nat.div_div_eq_div_mul]
          congr 2
          omega
    exact key l i hi
  · rw [List.getElem?_eq_none (by simp; omega), List.getElem?_eq_none (by simp; omega)]
theorem hash_row (l : List UInt8) (h : l.length = 32) : (l.map B8).toArray = rowN .u8 8 32 (ofLE l) := by
  have := row_ofLE l
  rw [h] at this
  apply Array.toList_inj.1
  rw [this]
theorem hash_lt (l : List UInt8) (h : l.length = 32) : ofLE l < W256 := by
  have := ofLE_lt l
  rw [h] at this
  exact this

/-- A hash's number. -/
def hsh (h : Hd) : Nat := ofLE (sha2 h.bytes)
/-- Does it meet its bits' target? -/
def mtH (h : Hd) : Bool := decide (btP h.bits ∧ hsh h ≤ btT h.bits)

set_option maxRecDepth 100000 in
set_option maxHeartbeats 8000000 in
theorem r7Meets_any (h : Hd) (o : h.Ok) (a : Option Addr) (c : Nat) (w : World) (hb : Bs w a c h.bytes) :
    Calls Tryd.prog 16 #[.slice a 80 c] w fun e w' => e = .returned (.bool (mtH h)) ∧ Fr F0 w w' := by
  have hl := Hd.bytes_length o
  have B4 : Bs w _ _ ((h.bytes.drop 72).take 4) := (hb.drop 72 (by omega)).take 4
  rw [bits_at o] at B4
  have hmo := hb.most
  have hro := hb.room
  rw [hl] at hro
  unfold maxLen at hmo
  obtain ⟨b0, off, rfl, hz⟩ := hb.at 0 (by omega)
  clear hz
  have hcut : cutA (some ⟨b0, off, none⟩) c 72 1 = some ⟨b0, off + 72, none⟩ := by
    unfold cutA
    rw [if_neg (by omega)]
    simp [Addr.add_lit]
  rw [hcut] at B4
  have hG := refGet_any _ 4 _ _ w B4 (le4 _).symm (by rw [le4]; omega)
  rw [ofLE_le7, Nat.mod_eq_of_lt (show h.bits < 256 ^ 4 from o.bits)] at hG
  have HG := Lib.hid hG
  clear hG B4
  have HD := Lib.hid (fun o' ho' w => r6Decode_any h.bits o.bits o' ho' w)
  have HS := Lib.hid (fun w hw => r2Double_any (some ⟨b0, off, none⟩) 80 c h.bytes hl.symm (by omega) w hw)
  rw [hash_row _ (by simp [sha2, sha_length])] at HS
  have HN := Lib.hid (fun w => r7Number_any (ofLE (sha2 h.bytes)) (hash_lt _ (by simp [sha2, sha_length])) w)
  have hm : mtH h = decide (btP h.bits ∧ ofLE (sha2 h.bytes) ≤ btT h.bits) := rfl
  have hx := hash_lt (sha2 h.bytes) (by simp [sha2, sha_length])
  have HB := Lib.hid hb
  clear hb hcut
  rw [hm]
  clear hm
  generalize ofLE (sha2 h.bytes) = x at *
  obtain ⟨ob, hob⟩ : ∃ ob, decide (btP h.bits) = ob := ⟨_, rfl⟩
  have hD := HD.out ob hob
  replace HD := Lib.hid hD
  clear hD
  have hbm : (h.bits : Int) % 4294967296 = (h.bits : Int) := by have := o.bits; omega
  generalize hT : btT h.bits = T at *
  generalize h.bits = b at *
  generalize h.bytes = bs at *
  obtain ⟨r, hr⟩ : ∃ r, decide (btP b ∧ x ≤ T) = r := ⟨_, rfl⟩
  rw [hr]
  go_enter Tryd.func16, Tryd.ntmps16
  go_wp2_with fail
  (with_reducible refine HG.out.mono ?_); rintro e w1 ⟨rfl, hw⟩; subst hw
  go_wp2_with fail
  (with_reducible refine (HD.out _).mono ?_); rintro e w2 ⟨a2, c2, rfl, n2, f2⟩
  cases ob with
  | false =>
    have hn : ¬ (btP b) := of_decide_eq_false hob
    go_wp2_with fail
    go_ret
    exact ⟨by rw [← hr]; simp [hn], f2⟩
  | true =>
    have hy : btP b := of_decide_eq_true hob
    have hTW : T < W256 := by rw [← hT]; exact hy.2.2
    have HCm := Lib.hid (fun a1 c1 w h1 h2 => r3Cmp_any x T a1 c1 a2 c2 (lg_w10 hx) (lg_w10 hTW) w h1 h2)
    obtain ⟨ol, hol⟩ : ∃ ol, decide (x ≤ T) = ol := ⟨_, rfl⟩
    have hz : (ol = true ∧ cmpZ x T ≤ 0) ∨ (ol = false ∧ ¬ cmpZ x T ≤ 0) := by
      rw [← hol]
      unfold cmpZ
      by_cases h1 : x ≤ T
      · exact .inl ⟨decide_eq_true h1, by split <;> (try split) <;> omega⟩
      · exact .inr ⟨decide_eq_false h1, by rw [if_neg (by omega), if_pos (by omega)]; omega⟩
    have e : decide (btP b ∧ x ≤ T) = ol := by rw [← hol]; simp [hy]
    rw [hr] at e
    clear hol hob hx hTW hr
    subst e
    generalize cmpZ x T = z at *
    have HZ := Lib.hid hz
    clear hz
    generalize hq : lg T = q at *
    generalize hq2 : lg x = q2 at *
    clear hq hT
    go_wp2_with fail
    have hb2 : Bs w2 _ _ _ := Sl.fr HB.out f2 fun _ _ f => f
    (with_reducible refine (HS.out _ hb2).mono ?_); rintro e w3 ⟨rfl, f3⟩
    go_wp2_with fail
    (with_reducible refine (HN.out _).mono ?_); rintro e w4 ⟨a4, c4, rfl, n4, f4⟩
    rw [hq2]
    go_wp2_with fail
    (with_reducible refine (HCm.out _ _ _ n4 (Us.fr n2 (f3.trans' f4))).mono ?_); rintro e w5 ⟨rfl, hw⟩; replace hw := hw.symm; subst hw
    rcases HZ.out with ⟨rfl, hz⟩ | ⟨rfl, hz⟩
    · go_wp2
      go_ret
      exact ⟨by first | rfl | (simp; done) | (simp; omega), (f2.trans' f3).trans' f4⟩
    · go_wp2
      go_ret
      exact ⟨by first | rfl | (simp; done) | (simp; omega), (f2.trans' f3).trans' f4⟩
end Go.Proofs.YtdihahegmfdccaaDoor

/- Layer 7 (header): the first header; the contracts that the code is asked for. -/
namespace Go.Proofs.YtdihahegmfdccaaDoor
set_option linter.unusedVariables false
set_option linter.unusedSimpArgs false
open Go.RowKit

def rootT : List UInt8 := [52, 97, 53, 101, 49, 101, 52, 98, 97, 97, 98, 56, 57, 102, 51, 97, 51, 50, 53, 49, 56, 97, 56, 56, 99, 51, 49, 98, 99, 56, 55, 102, 54, 49, 56, 102, 55, 54, 54, 55, 51, 101, 50, 99, 99, 55, 55, 97, 98, 50, 49, 50, 55, 98, 55, 97, 102, 100, 101, 100, 97, 51, 51, 98]
def rootL : List UInt8 := [59, 163, 237, 253, 122, 123, 18, 178, 122, 199, 44, 62, 103, 118, 143, 97, 127, 200, 27, 195, 136, 138, 81, 50, 58, 159, 184, 170, 75, 30, 94, 74]
theorem root_parse : parseL rootT = some rootL := by decide +kernel
def zero7 : List UInt8 := List.replicate 32 0
/-- The chain's first header. -/
def Hd1 : Hd := { ver := 1, ahead := zero7, root := rootL, time := 1231006505, bits := 486604799, nonce := 2083236893 }
theorem Hd1.ok : Hd1.Ok := ⟨by decide, rfl, rfl, by decide, by decide, by decide⟩
def hash1 : List UInt8 := [111, 226, 140, 10, 182, 241, 179, 114, 193, 166, 162, 70, 174, 99, 247, 79, 147, 30, 131, 101, 225, 90, 8, 156, 104, 214, 25, 0, 0, 0, 0, 0]
theorem Hd1.sum : sha2 Hd1.bytes = hash1 := by
  rw [sha2, sha_is, sha_is]
  decide +kernel
theorem Hd1.text : textL hash1 = [48, 48, 48, 48, 48, 48, 48, 48, 48, 48, 49, 57, 100, 54, 54, 56, 57, 99, 48, 56, 53, 97, 101, 49, 54, 53, 56, 51, 49, 101, 57, 51, 52, 102, 102, 55, 54, 51, 97, 101, 52, 54, 97, 50, 97, 54, 99, 49, 55, 50, 98, 51, 102, 49, 98, 54, 48, 97, 56, 99, 101, 50, 54, 102] := by decide +kernel
theorem Hd1.meets : mtH Hd1 = true := by
  rw [mtH, hsh, Hd1.sum]
  decide +kernel

def HBytesC : Prop := ∀ (h : Hd), h.Ok → ∀ w, Calls Tryd.prog 8 #[.agg h.cells] w (NewBytes h.bytes w)
def zeroHd : Hd := { ver := 0, ahead := zero7, root := zero7, time := 0, bits := 0, nonce := 0 }
theorem zeroHd.ok : zeroHd.Ok := ⟨by decide, rfl, rfl, by decide, by decide, by decide⟩
def HParseC : Prop := ∀ (bs : List UInt8) (a : Option Addr) (c : Nat) (w : World), Bs w a c bs → bs.length ≤ 1000 →
  (bs.length = 80 → Calls Tryd.prog 10 #[.slice a 80 c] w fun e w' => ∃ h : Hd, h.Ok ∧ h.bytes = bs ∧ e = .returned (.tuple #[.agg h.cells, .int .i64 0]) ∧ Fr F0 w w') ∧
  (¬ bs.length = 80 → Calls Tryd.prog 10 #[.slice a bs.length c] w fun e w' => e = .returned (.tuple #[.agg zeroHd.cells, .int .i64 2]) ∧ Fr F0 w w')
def HHashC : Prop := ∀ (h : Hd), h.Ok → ∀ w, Cub w → Calls Tryd.prog 11 #[.agg h.cells] w fun e w' => e = .returned (.agg ((sha2 h.bytes).map B8).toArray) ∧ Fr F0 w w'
/-- What Check answers. -/
def ckE (h : Hd) (l : Nat) : Int := if btP h.bits ∧ btT h.bits ≤ l then (if hsh h ≤ btT h.bits then 0 else 7) else 6
def HCheckC : Prop := ∀ (h : Hd), h.Ok → ∀ (l : Nat), l < W256 → ∀ E, ckE h l = E → ∀ w, Cub w → Calls Tryd.prog 17 #[.agg h.cells, .agg (rowN .u64 64 4 l)] w fun e w' => e = .returned (.int .i64 E) ∧ Fr F0 w w'
def Hd.with (h : Hd) (n : Nat) : Hd := { h with nonce := n }
/-- The first nonce, of so many further ones. -/
def mineN (h : Hd) : Nat → Nat → Option Nat
  | 0, n => if mtH (h.with n) then some n else none
  | k + 1, n => if mtH (h.with n) then some n else if n = 4294967295 then none else mineN h k (n + 1)
def mineH (h : Hd) (m : Nat) : Hd := match mineN h m h.nonce with | some n => h.with n | none => zeroHd
def mineO (h : Hd) (m : Nat) : Bool := (mineN h m h.nonce).isSome
def HMineC : Prop := ∀ (h : Hd), h.Ok → ∀ (m : Nat), m < 4294967296 → ∀ w, Cub w → Calls Tryd.prog 18 #[.agg h.cells, .int .u32 (m : Int)] w fun e w' => e = .returned (.tuple #[.agg (mineH h m).cells, .bool (mineO h m)]) ∧ Fr F0 w w'

set_option maxRecDepth 100000 in
set_option maxHeartbeats 4000000 in
theorem first07_any (w : World) : Calls Tryd.prog 20 #[] w fun e w' => e = .returned (.agg Hd1.cells) ∧ Fr F0 w w' := by
  have HP := Lib.hid (dParse_any rootT)
  rw [root_parse] at HP
  change Hid (∀ w, Calls Tryd.prog 41 #[.string (⟨#[52, 97, 53, 101, 49, 101, 52, 98, 97, 97, 98, 56, 57, 102, 51, 97, 51, 50, 53, 49, 56, 97, 56, 56, 99, 51, 49, 98, 99, 56, 55, 102, 54, 49, 56, 102, 55, 54, 54, 55, 51, 101, 50, 99, 99, 55, 55, 97, 98, 50, 49, 50, 55, 98, 55, 97, 102, 100, 101, 100, 97, 51, 51, 98]⟩ : ByteArray)] w fun e w' => e = .returned (.tuple #[.agg (rootL.map B8).toArray, .int .i64 0]) ∧ Fr F0 w w') at HP
  have hz : (rootL.map B8).toArray.size = 32 := rfl
  have ho : rowOne (rootL.map B8).toArray := oneB_map rootL
  have hc : Hd1.cells.size = 68 := rfl
  have hco : rowOne Hd1.cells := Hd.one
  have hb : Tryd.prog.built 26 [(0, .int .u32 1), (2, .agg (rootL.map B8).toArray), (3, .int .u32 1231006505), (4, .int .u32 486604799), (5, .int .u32 2083236893)] = some Hd1.cells := by kernel_rfl
  have hbr : ∀ w, (buildHd #[(0, .int .u32 1), (2, .agg (rootL.map B8).toArray), (3, .int .u32 1231006505), (4, .int .u32 486604799), (5, .int .u32 2083236893)]).run Tryd.prog w = .ok (.agg Hd1.cells) w := fun w => run_buildHd w _ _ hb
  generalize (rootL.map B8).toArray = R at *
  generalize Hd1.cells = C at *
  go_enter Tryd.func20, Tryd.ntmps20
  go_wp2_with fail
  have zz : Tryd.zeroCells26.size = 68 := by kernel_rfl
  generalize Tryd.zeroCells26 = Z at *
  refine calls_new fun W1 N1 => ?_
  have r0 := N1.new
  have F := N1.fr
  have hg0 : ∃ g0, g0 = w.heap.size := ⟨_, rfl⟩
  obtain ⟨g0, hg0⟩ := hg0
  rw [← hg0] at r0 ⊢
  replace hg0 := Lib.hid hg0
  clear N1
  (with_reducible refine (HP.out _).mono ?_); rintro e w2 ⟨rfl, f⟩
  replace r0 := keep_fr f r0
  replace F := F.trans' f
  clear f
  go_upto_region 2 with fail
  refine wp_put fun W2 N2 => ?_
  have r1 := N2.new
  have ne := N2.ne r0
  replace r0 := N2.old r0
  replace F := F.trans' N2.fr
  generalize w2.heap.size = g1 at *
  clear N2
  go_wp2_with fail
  trace_state
  refine bodyPost_ret (results_cell_row rfl _ _ g0 _ _ _ _ rfl (by rw [heap_setRow_at, r0]; rfl) Tryd.underlying26 rfl (by rw [Tryd.szHeader, hc])) rfl ⟨rfl, ?_⟩
  exact F.setRow (fun h => by have := hg0.out; omega) _
end Go.Proofs.YtdihahegmfdccaaDoor

/- Layer 7 (header): the fixed fact. -/
namespace Go.Proofs.YtdihahegmfdccaaDoor
set_option linter.unusedVariables false
set_option linter.unusedSimpArgs false
open Go.RowKit

theorem live7c : ckE Hd1 (W256 - 1) = 0 := by
  unfold ckE hsh
  rw [Hd1.sum]
  decide +kernel

def text1 : ByteArray := strOf (textL hash1)
theorem text1_cut : text1.extract 0 16 = (⟨#[48, 48, 48, 48, 48, 48, 48, 48, 48, 48, 49, 57, 100, 54, 54, 56]⟩ : ByteArray) := by decide +kernel
theorem text1_size : text1.size = 64 := by decide +kernel

set_option maxRecDepth 100000 in
set_option maxHeartbeats 4000000 in
theorem lives07_any (HH : HHashC) (HCk : HCheckC) (w : World) (hcub : Cub w) : Calls Tryd.prog 7 #[] w fun e w' => e = .returned (.bool true) ∧ Fr F0 w w' := by
  have HC := Lib.hid hcub
  have H1 := Lib.hid first07_any
  have H2 := Lib.hid (HH Hd1 Hd1.ok)
  rw [Hd1.sum] at H2
  have H3 := Lib.hid (dText_any hash1 rfl)
  rw [show strOf (textL hash1) = text1 from rfl] at H3
  have x1 := text1_cut
  have x2 := text1_size
  generalize text1 = T at *
  have H4 := Lib.hid (HCk Hd1 Hd1.ok (W256 - 1) (by have := W256_pos; omega) 0 live7c)
  have H5 := Lib.hid (wNot_any 0 W256_pos)
  have hbn := rowN_nil4 0
  generalize Hd1.cells = C at *
  clear HH HCk hcub
  go_enter Tryd.func7, Tryd.ntmps7
  go_wp2_with fail
  (with_reducible refine (H1.out _).mono ?_); rintro e w1 ⟨rfl, f1⟩
  go_wp2_with fail
  (with_reducible refine (H2.out _ (HC.out.fr f1 fun f => f)).mono ?_); rintro e w2 ⟨rfl, f2⟩
  go_wp2_with fail
  (with_reducible refine (H3.out _).mono ?_); rintro e w3 ⟨rfl, f3⟩
  go_wp2_with fail
  have f123 := Lib.hid ((f1.trans' f2).trans' f3)
  (with_reducible refine (H1.out _).mono ?_); rintro e w4 ⟨rfl, f4⟩
  go_wp2_with fail
  (with_reducible refine (H5.out _).mono ?_); rintro e w5 ⟨rfl, f5⟩
  rw [Nat.sub_zero]
  have f5' := (f123.out.trans' f4).trans' f5
  go_wp2_with fail
  (with_reducible refine (H4.out _ (HC.out.fr f5' fun f => f)).mono ?_); rintro e w6 ⟨rfl, f6⟩
  go_wp2
  go_ret
  exact ⟨rfl, f5'.trans' f6⟩
end Go.Proofs.YtdihahegmfdccaaDoor

/- Layer 7 (header): the law HeaderApart, walked. -/
namespace Go.Proofs.YtdihahegmfdccaaDoor
set_option linter.unusedVariables false
set_option linter.unusedSimpArgs false
open Go.RowKit

theorem le_inj (x y : Nat) (hx : x < 4294967296) (hy : y < 4294967296) (h : le 4 x = le 4 y) : x = y := by
  have := congrArg ofLE h
  rw [ofLE_le7, ofLE_le7, Nat.mod_eq_of_lt (by omega), Nat.mod_eq_of_lt (by omega)] at this
  exact this
theorem Hd.inj {a b : Hd} (oa : a.Ok) (ob : b.Ok) (h : a.bytes = b.bytes) : a = b := by
  unfold Hd.bytes at h
  obtain ⟨h1, h⟩ := List.append_inj h (by rw [le4, le4])
  obtain ⟨h2, h⟩ := List.append_inj h (by rw [oa.ahead, ob.ahead])
  obtain ⟨h3, h⟩ := List.append_inj h (by rw [oa.root, ob.root])
  obtain ⟨h4, h⟩ := List.append_inj h (by rw [le4, le4])
  obtain ⟨h5, h6⟩ := List.append_inj h (by rw [le4, le4])
  exact Hd.ext' (le_inj _ _ oa.ver ob.ver h1) h2 h3 (le_inj _ _ oa.time ob.time h4) (le_inj _ _ oa.bits ob.bits h5) (le_inj _ _ oa.nonce ob.nonce h6)

set_option maxRecDepth 100000 in
set_option maxHeartbeats 8000000 in
theorem headerApart_any (HB : HBytesC) (HH : HHashC) (HCk : HCheckC) (a : Hd) (oa : a.Ok) (b : Hd) (ob : b.Ok) (w : World) (hcub : Cub w) :
    Calls Tryd.prog 3 #[.agg a.cells, .agg b.cells] w fun e w' => e = .returned (.bool true) ∧ Fr F0 w w' := by
  have HC := Lib.hid hcub
  have HL := Lib.hid (lives07_any HH HCk)
  have HA := Lib.hid (HB a oa)
  have HB' := Lib.hid (HB b ob)
  have hq : ∀ w, (Op.equalIn 10000 26 (.agg a.cells) (.agg b.cells)).run Tryd.prog w = .ok (decide (a = b)) w := fun w => run_equalIn_header w a b oa ob
  have hs : (strOf a.bytes == strOf b.bytes) = decide (a = b) := by
    rw [strOf_beq]
    exact decide_eq_decide.2 ⟨Hd.inj oa ob, fun h => by rw [h]⟩
  rw [beq_toListBytes] at hs
  have la := Hd.bytes_length oa
  have lb := Hd.bytes_length ob
  have sa := Hd.cells_size oa
  have sb := Hd.cells_size ob
  unfold NewBytes at HA HB'
  rw [la] at HA
  rw [lb] at HB'
  replace la := Lib.hid la.symm
  replace lb := Lib.hid lb.symm
  clear HB HH HCk hcub
  generalize decide (a = b) = z at *
  generalize a.cells = A at *
  generalize b.cells = B at *
  generalize a.bytes = S at *
  generalize b.bytes = T at *
  clear oa ob
  go_enter Tryd.func3, Tryd.ntmps3
  go_upto_region 1 with fail
  refine wp_new fun W1 N1 => ?_
  have r1 := N1.new
  have r0 := N1.old (heap_alloc_new w (.cells A 26))
  have F := ((Fr.refl F0 w).alloc (.cells A 26)).trans' N1.fr
  rw [World.size_alloc] at r1
  clear N1
  generalize w.heap.size + 1 = g1 at *
  generalize w.heap.size = g0 at *
  refine wp_region_noPanic ?_
  refine wp_region_held_drew (S := (fun w' => (w'.heap[g0]? = some (.cells A 26 (0, 0)) ∧ w'.heap[g1]? = some (.cells B 26 (0, 0))) ∧ Fr F0 w w')) (by kernel_rfl) ?_ (fun hHeld => ?_)
  · ((try dsimp only) <;> (first | exact ⟨⟨r0, r1⟩, F.drew⟩ | exact hHeld | exact ⟨⟨keep_fr f5 hHeld.1.1, keep_fr f5 hHeld.1.2⟩, hHeld.2.trans' f5⟩))
  refine wpAnyH_ready (rs := [0]) (by kernel_rfl) (by simp) ?_
  refine AllReadyH.cons (o := ⟨_, _, _, _, _, _⟩) rfl (fun K hK => ?_) AllReadyH.nil
  go_simp
  ((with_reducible refine (HL.out _ (HC.out.fr hHeld.2 fun f => f)).mono ?_); rintro e w5 ⟨rfl, f5⟩)
  refine hK.out _ _ ?_ (fun hHeld => ?_)
  · ((try dsimp only) <;> (first | exact ⟨⟨r0, r1⟩, F.drew⟩ | exact hHeld | exact ⟨⟨keep_fr f5 hHeld.1.1, keep_fr f5 hHeld.1.2⟩, hHeld.2.trans' f5⟩))
  clear hK K
  try (simp only [Act.put, List.setIfInBounds_toArray]; dsimp only [List.set_cons_zero, List.set_cons_succ])
  refine wpAnyH_take (i := 1) (oi := ⟨_, _, _, _, _, _⟩) (v := ?_) rfl (by kernel_rfl) (by kernel_rfl) (by kernel_rfl) (fun _ _ _ h => h) (Or.inl ⟨by rfl, ?_⟩) (by assumption) ?_
  rotate_left
  · intro w hSw; (try dsimp only at hSw); go_simp; (try (with_reducible rfl)); done
  simp only [Act.put, List.setIfInBounds_toArray]; dsimp only [List.set_cons_zero, List.set_cons_succ]
  refine wpAnyH_take (i := 2) (oi := ⟨_, _, _, _, _, _⟩) (v := ?_) rfl (by kernel_rfl) (by kernel_rfl) (by kernel_rfl) (fun _ _ _ h => h) (Or.inl ⟨by rfl, ?_⟩) (by assumption) ?_
  rotate_left
  · intro w hSw; (try dsimp only at hSw); go_simp; (try (with_reducible rfl)); done
  simp only [Act.put, List.setIfInBounds_toArray]; dsimp only [List.set_cons_zero, List.set_cons_succ]
  refine wpAnyH_take (i := 3) (oi := ⟨_, _, _, _, _, _⟩) (v := ?_) rfl (by kernel_rfl) (by kernel_rfl) (by kernel_rfl) (fun _ _ _ h => h) (Or.inl ⟨by rfl, ?_⟩) (by assumption) ?_
  rotate_left
  · intro w hSw; (try dsimp only at hSw); go_simp; (try (with_reducible rfl)); done
  simp only [Act.put, List.setIfInBounds_toArray]; dsimp only [List.set_cons_zero, List.set_cons_succ]
  refine wpAnyH_take (i := 4) (oi := ⟨_, _, _, _, _, _⟩) (v := ?_) rfl (by kernel_rfl) (by kernel_rfl) (by kernel_rfl) (fun _ _ _ h => h) (Or.inl ⟨by rfl, ?_⟩) (by assumption) ?_
  rotate_left
  · intro w hSw; (try dsimp only at hSw); go_simp; (try (with_reducible rfl)); done
  simp only [Act.put, List.setIfInBounds_toArray]; dsimp only [List.set_cons_zero, List.set_cons_succ]
  refine wpAnyH_take (i := 5) (oi := ⟨_, _, _, _, _, _⟩) (v := ?_) rfl (by kernel_rfl) (by kernel_rfl) (by kernel_rfl) (fun _ _ _ h => h) (Or.inl ⟨by rfl, ?_⟩) (by assumption) ?_
  rotate_left
  · intro w hSw; (try dsimp only at hSw); go_simp; (try (with_reducible rfl)); done
  simp only [Act.put, List.setIfInBounds_toArray]; dsimp only [List.set_cons_zero, List.set_cons_succ]
  refine wpAnyH_take (i := 8) (oi := ⟨_, _, _, _, _, _⟩) (v := ?_) rfl (by kernel_rfl) (by kernel_rfl) (by kernel_rfl) (fun _ _ _ h => h) (Or.inl ⟨by rfl, ?_⟩) (by assumption) ?_
  rotate_left
  · intro w hSw; (try dsimp only at hSw); go_simp; (try (with_reducible rfl)); done
  simp only [Act.put, List.setIfInBounds_toArray]; dsimp only [List.set_cons_zero, List.set_cons_succ]
  refine wpAnyH_ready (rs := [6]) (by kernel_rfl) (by simp) ?_
  refine AllReadyH.cons (o := ⟨_, _, _, _, _, _⟩) rfl (fun K hK => ?_) AllReadyH.nil
  go_simp
  ((with_reducible refine (HA.out _).mono ?_); rintro e w6 ⟨a6, c6, rfl, hb6, f5, n6⟩; have hs6 := bs_str7 hb6 la.out; clear n6)
  refine hK.out _ _ ?_ (fun hHeld => ?_)
  · ((try dsimp only) <;> (first | exact ⟨⟨r0, r1⟩, F.drew⟩ | exact hHeld | exact ⟨⟨keep_fr f5 hHeld.1.1, keep_fr f5 hHeld.1.2⟩, hHeld.2.trans' f5⟩))
  clear hK K
  try (simp only [Act.put, List.setIfInBounds_toArray]; dsimp only [List.set_cons_zero, List.set_cons_succ])
  refine wpAnyH_ready (rs := [7, 9]) (by kernel_rfl) (by simp) ?_
  refine AllReadyH.cons (o := ⟨_, _, _, _, _, _⟩) rfl (fun K hK => ?_) (AllReadyH.cons (o := ⟨_, _, _, _, _, _⟩) rfl (fun K hK => ?_) AllReadyH.nil)
  go_simp
  refine hK.out _ _ ?_ (fun hHeld => ?_)
  · ((try dsimp only) <;> (first | exact ⟨⟨r0, r1⟩, F.drew⟩ | exact hHeld | exact ⟨⟨keep_fr f5 hHeld.1.1, keep_fr f5 hHeld.1.2⟩, hHeld.2.trans' f5⟩))
  clear hK K
  try (simp only [Act.put, List.setIfInBounds_toArray]; dsimp only [List.set_cons_zero, List.set_cons_succ])
  refine wpAnyH_ready (rs := [9]) (by kernel_rfl) (by simp) ?_
  refine AllReadyH.cons (o := ⟨_, _, _, _, _, _⟩) rfl (fun K hK => ?_) AllReadyH.nil
  go_simp
  ((with_reducible refine (HB'.out _).mono ?_); rintro e w7 ⟨a7, c7, rfl, hb7, f5, n7⟩; have hs7 := bs_str7 hb7 lb.out; have hs67 := bs_str7 (Bs.fr7 hb6 f5) la.out; clear n7)
  refine hK.out _ _ ?_ (fun hHeld => ?_)
  · ((try dsimp only) <;> (first | exact ⟨⟨r0, r1⟩, F.drew⟩ | exact hHeld | exact ⟨⟨keep_fr f5 hHeld.1.1, keep_fr f5 hHeld.1.2⟩, hHeld.2.trans' f5⟩))
  clear hK K
  try (simp only [Act.put, List.setIfInBounds_toArray]; dsimp only [List.set_cons_zero, List.set_cons_succ])
  refine wpAnyH_ready (rs := [10]) (by kernel_rfl) (by simp) ?_
  refine AllReadyH.cons (o := ⟨_, _, _, _, _, _⟩) rfl (fun K hK => ?_) AllReadyH.nil
  go_simp
  refine hK.out _ _ ?_ (fun hHeld => ?_)
  · ((try dsimp only) <;> (first | exact ⟨⟨r0, r1⟩, F.drew⟩ | exact hHeld | exact ⟨⟨keep_fr f5 hHeld.1.1, keep_fr f5 hHeld.1.2⟩, hHeld.2.trans' f5⟩))
  clear hK K
  try (simp only [Act.put, List.setIfInBounds_toArray]; dsimp only [List.set_cons_zero, List.set_cons_succ])
  refine wpAnyH_take (i := 11) (oi := ⟨_, _, _, _, _, _⟩) (v := ?_) rfl (by kernel_rfl) (by kernel_rfl) (by kernel_rfl) (fun _ _ _ h => h) (Or.inl ⟨by rfl, ?_⟩) (by assumption) ?_
  rotate_left
  · intro w hSw; (try dsimp only at hSw); go_simp; (try (with_reducible rfl)); done
  simp only [Act.put, List.setIfInBounds_toArray]; dsimp only [List.set_cons_zero, List.set_cons_succ]
  refine wpAnyH_take (i := 12) (oi := ⟨_, _, _, _, _, _⟩) (v := ?_) rfl (by kernel_rfl) (by kernel_rfl) (by kernel_rfl) (fun _ _ _ h => h) (Or.inl ⟨by rfl, ?_⟩) (by assumption) ?_
  rotate_left
  · intro w hSw; (try dsimp only at hSw); go_simp; (try (with_reducible rfl)); done
  simp only [Act.put, List.setIfInBounds_toArray]; dsimp only [List.set_cons_zero, List.set_cons_succ]
  refine wpAnyH_take (i := 13) (oi := ⟨_, _, _, _, _, _⟩) (v := ?_) rfl (by kernel_rfl) (by kernel_rfl) (by kernel_rfl) (fun _ _ _ h => h) (Or.inl ⟨by rfl, ?_⟩) (by assumption) ?_
  rotate_left
  · intro w hSw; (try dsimp only at hSw); go_simp; (try (with_reducible rfl)); done
  simp only [Act.put, List.setIfInBounds_toArray]; dsimp only [List.set_cons_zero, List.set_cons_succ]
  refine wpAnyH_take (i := 14) (oi := ⟨_, _, _, _, _, _⟩) (v := ?_) rfl (by kernel_rfl) (by kernel_rfl) (by kernel_rfl) (fun _ _ _ h => h) (Or.inl ⟨by rfl, ?_⟩) (by assumption) ?_
  rotate_left
  · intro w hSw; (try dsimp only at hSw); go_simp; (try (with_reducible rfl)); done
  simp only [Act.put, List.setIfInBounds_toArray]; dsimp only [List.set_cons_zero, List.set_cons_succ]
  refine wpAnyH_take (i := 15) (oi := ⟨_, _, _, _, _, _⟩) (v := ?_) rfl (by kernel_rfl) (by kernel_rfl) (by kernel_rfl) (fun _ _ _ h => h) (Or.inl ⟨by rfl, ?_⟩) (by assumption) ?_
  rotate_left
  · intro w hSw; (try dsimp only at hSw); go_simp; (try (with_reducible rfl)); done
  simp only [Act.put, List.setIfInBounds_toArray]; dsimp only [List.set_cons_zero, List.set_cons_succ]
  refine wpAnyH_ready (rs := [16]) (by kernel_rfl) (by simp) ?_
  refine AllReadyH.cons (o := ⟨_, _, _, _, _, _⟩) rfl (fun K hK => ?_) AllReadyH.nil
  go_simp
  ((with_reducible refine (HA.out _).mono ?_); rintro e w8 ⟨a8, c8, rfl, hb8, f5, n8⟩; clear n8)
  refine hK.out _ _ ?_ (fun hHeld => ?_)
  · ((try dsimp only) <;> (first | exact ⟨⟨r0, r1⟩, F.drew⟩ | exact hHeld | exact ⟨⟨keep_fr f5 hHeld.1.1, keep_fr f5 hHeld.1.2⟩, hHeld.2.trans' f5⟩))
  clear hK K
  try (simp only [Act.put, List.setIfInBounds_toArray]; dsimp only [List.set_cons_zero, List.set_cons_succ])
  refine wpAnyH_take (i := 17) (oi := ⟨_, _, _, _, _, _⟩) (v := ?_) rfl (by kernel_rfl) (by kernel_rfl) (by kernel_rfl) (fun _ _ _ h => h) (Or.inl ⟨by rfl, ?_⟩) (by assumption) ?_
  rotate_left
  · intro w hSw; (try dsimp only at hSw); go_simp; (try (with_reducible rfl)); done
  simp only [Act.put, List.setIfInBounds_toArray]; dsimp only [List.set_cons_zero, List.set_cons_succ]
  refine wpAnyH_take (i := 18) (oi := ⟨_, _, _, _, _, _⟩) (v := ?_) rfl (by kernel_rfl) (by kernel_rfl) (by kernel_rfl) (fun _ _ _ h => h) (Or.inl ⟨by rfl, ?_⟩) (by assumption) ?_
  rotate_left
  · intro w hSw; (try dsimp only at hSw); go_simp; (try (with_reducible rfl)); done
  simp only [Act.put, List.setIfInBounds_toArray]; dsimp only [List.set_cons_zero, List.set_cons_succ]
  refine wpAnyH_take (i := 19) (oi := ⟨_, _, _, _, _, _⟩) (v := ?_) rfl (by kernel_rfl) (by kernel_rfl) (by kernel_rfl) (fun _ _ _ h => h) (Or.inl ⟨by rfl, ?_⟩) (by assumption) ?_
  rotate_left
  · intro w hSw; (try dsimp only at hSw); go_simp; (try (with_reducible rfl)); done
  simp only [Act.put, List.setIfInBounds_toArray]; dsimp only [List.set_cons_zero, List.set_cons_succ]
  refine wpAnyH_take (i := 20) (oi := ⟨_, _, _, _, _, _⟩) (v := ?_) rfl (by kernel_rfl) (by kernel_rfl) (by kernel_rfl) (fun _ _ _ h => h) (Or.inl ⟨by rfl, ?_⟩) (by assumption) ?_
  rotate_left
  · intro w hSw; (try dsimp only at hSw); go_simp; (try (with_reducible rfl)); done
  simp only [Act.put, List.setIfInBounds_toArray]; dsimp only [List.set_cons_zero, List.set_cons_succ]
  refine wpAnyH_done (by kernel_rfl) ?_ _
  refine NoPanic.normal ?_
  rotate_left
  go_simp
  ((with_reducible refine (HB'.out _).mono ?_); rintro e w7 ⟨a7, c7, rfl, hb7, f5, n7⟩; have hs7 := bs_str7 hb7 lb.out; have hs67 := bs_str7 (Bs.fr7 hb6 f5) la.out; clear n7)
  refine hK.out _ _ ?_ (fun hHeld => ?_)
  · ((try dsimp only) <;> (first | exact ⟨⟨r0, r1⟩, F.drew⟩ | exact hHeld | exact ⟨⟨keep_fr f5 hHeld.1.1, keep_fr f5 hHeld.1.2⟩, hHeld.2.trans' f5⟩))
  clear hK K
  try (simp only [Act.put, List.setIfInBounds_toArray]; dsimp only [List.set_cons_zero, List.set_cons_succ])
  refine wpAnyH_ready (rs := [7, 10]) (by kernel_rfl) (by simp) ?_
  refine AllReadyH.cons (o := ⟨_, _, _, _, _, _⟩) rfl (fun K hK => ?_) (AllReadyH.cons (o := ⟨_, _, _, _, _, _⟩) rfl (fun K hK => ?_) AllReadyH.nil)
  go_simp
  refine hK.out _ _ ?_ (fun hHeld => ?_)
  · ((try dsimp only) <;> (first | exact ⟨⟨r0, r1⟩, F.drew⟩ | exact hHeld | exact ⟨⟨keep_fr f5 hHeld.1.1, keep_fr f5 hHeld.1.2⟩, hHeld.2.trans' f5⟩))
  clear hK K
  try (simp only [Act.put, List.setIfInBounds_toArray]; dsimp only [List.set_cons_zero, List.set_cons_succ])
  refine wpAnyH_ready (rs := [10]) (by kernel_rfl) (by simp) ?_
  refine AllReadyH.cons (o := ⟨_, _, _, _, _, _⟩) rfl (fun K hK => ?_) AllReadyH.nil
  go_simp
  refine hK.out _ _ ?_ (fun hHeld => ?_)
  · ((try dsimp only) <;> (first | exact ⟨⟨r0, r1⟩, F.drew⟩ | exact hHeld | exact ⟨⟨keep_fr f5 hHeld.1.1, keep_fr f5 hHeld.1.2⟩, hHeld.2.trans' f5⟩))
  clear hK K
  try (simp only [Act.put, List.setIfInBounds_toArray]; dsimp only [List.set_cons_zero, List.set_cons_succ])
  refine wpAnyH_take (i := 11) (oi := ⟨_, _, _, _, _, _⟩) (v := ?_) rfl (by kernel_rfl) (by kernel_rfl) (by kernel_rfl) (fun _ _ _ h => h) (Or.inl ⟨by rfl, ?_⟩) (by assumption) ?_
  rotate_left
  · intro w hSw; (try dsimp only at hSw); go_simp; (try (with_reducible rfl)); done
  simp only [Act.put, List.setIfInBounds_toArray]; dsimp only [List.set_cons_zero, List.set_cons_succ]
  refine wpAnyH_take (i := 12) (oi := ⟨_, _, _, _, _, _⟩) (v := ?_) rfl (by kernel_rfl) (by kernel_rfl) (by kernel_rfl) (fun _ _ _ h => h) (Or.inl ⟨by rfl, ?_⟩) (by assumption) ?_
  rotate_left
  · intro w hSw; (try dsimp only at hSw); go_simp; (try (with_reducible rfl)); done
  simp only [Act.put, List.setIfInBounds_toArray]; dsimp only [List.set_cons_zero, List.set_cons_succ]
  refine wpAnyH_take (i := 13) (oi := ⟨_, _, _, _, _, _⟩) (v := ?_) rfl (by kernel_rfl) (by kernel_rfl) (by kernel_rfl) (fun _ _ _ h => h) (Or.inl ⟨by rfl, ?_⟩) (by assumption) ?_
  rotate_left
  · intro w hSw; (try dsimp only at hSw); go_simp; (try (with_reducible rfl)); done
  simp only [Act.put, List.setIfInBounds_toArray]; dsimp only [List.set_cons_zero, List.set_cons_succ]
  refine wpAnyH_take (i := 14) (oi := ⟨_, _, _, _, _, _⟩) (v := ?_) rfl (by kernel_rfl) (by kernel_rfl) (by kernel_rfl) (fun _ _ _ h => h) (Or.inl ⟨by rfl, ?_⟩) (by assumption) ?_
  rotate_left
  · intro w hSw; (try dsimp only at hSw); go_simp; (try (with_reducible rfl)); done
  simp only [Act.put, List.setIfInBounds_toArray]; dsimp only [List.set_cons_zero, List.set_cons_succ]
  refine wpAnyH_take (i := 15) (oi := ⟨_, _, _, _, _, _⟩) (v := ?_) rfl (by kernel_rfl) (by kernel_rfl) (by kernel_rfl) (fun _ _ _ h => h) (Or.inl ⟨by rfl, ?_⟩) (by assumption) ?_
  rotate_left
  · intro w hSw; (try dsimp only at hSw); go_simp; (try (with_reducible rfl)); done
  simp only [Act.put, List.setIfInBounds_toArray]; dsimp only [List.set_cons_zero, List.set_cons_succ]
  refine wpAnyH_ready (rs := [16]) (by kernel_rfl) (by simp) ?_
  refine AllReadyH.cons (o := ⟨_, _, _, _, _, _⟩) rfl (fun K hK => ?_) AllReadyH.nil
  go_simp
  ((with_reducible refine (HA.out _).mono ?_); rintro e w8 ⟨a8, c8, rfl, hb8, f5, n8⟩; clear n8)
  refine hK.out _ _ ?_ (fun hHeld => ?_)
  · ((try dsimp only) <;> (first | exact ⟨⟨r0, r1⟩, F.drew⟩ | exact hHeld | exact ⟨⟨keep_fr f5 hHeld.1.1, keep_fr f5 hHeld.1.2⟩, hHeld.2.trans' f5⟩))
  clear hK K
  try (simp only [Act.put, List.setIfInBounds_toArray]; dsimp only [List.set_cons_zero, List.set_cons_succ])
  refine wpAnyH_take (i := 17) (oi := ⟨_, _, _, _, _, _⟩) (v := ?_) rfl (by kernel_rfl) (by kernel_rfl) (by kernel_rfl) (fun _ _ _ h => h) (Or.inl ⟨by rfl, ?_⟩) (by assumption) ?_
  rotate_left
  · intro w hSw; (try dsimp only at hSw); go_simp; (try (with_reducible rfl)); done
  simp only [Act.put, List.setIfInBounds_toArray]; dsimp only [List.set_cons_zero, List.set_cons_succ]
  refine wpAnyH_take (i := 18) (oi := ⟨_, _, _, _, _, _⟩) (v := ?_) rfl (by kernel_rfl) (by kernel_rfl) (by kernel_rfl) (fun _ _ _ h => h) (Or.inl ⟨by rfl, ?_⟩) (by assumption) ?_
  rotate_left
  · intro w hSw; (try dsimp only at hSw); go_simp; (try (with_reducible rfl)); done
  simp only [Act.put, List.setIfInBounds_toArray]; dsimp only [List.set_cons_zero, List.set_cons_succ]
  refine wpAnyH_take (i := 19) (oi := ⟨_, _, _, _, _, _⟩) (v := ?_) rfl (by kernel_rfl) (by kernel_rfl) (by kernel_rfl) (fun _ _ _ h => h) (Or.inl ⟨by rfl, ?_⟩) (by assumption) ?_
  rotate_left
  · intro w hSw; (try dsimp only at hSw); go_simp; (try (with_reducible rfl)); done
  simp only [Act.put, List.setIfInBounds_toArray]; dsimp only [List.set_cons_zero, List.set_cons_succ]
  refine wpAnyH_take (i := 20) (oi := ⟨_, _, _, _, _, _⟩) (v := ?_) rfl (by kernel_rfl) (by kernel_rfl) (by kernel_rfl) (fun _ _ _ h => h) (Or.inl ⟨by rfl, ?_⟩) (by assumption) ?_
  rotate_left
  · intro w hSw; (try dsimp only at hSw); go_simp; (try (with_reducible rfl)); done
  simp only [Act.put, List.setIfInBounds_toArray]; dsimp only [List.set_cons_zero, List.set_cons_succ]
  refine wpAnyH_done (by kernel_rfl) ?_ _
  refine NoPanic.normal ?_
  rotate_left
  go_simp
  refine hK.out _ _ ?_ (fun hHeld => ?_)
  · ((try dsimp only) <;> (first | exact ⟨⟨r0, r1⟩, F.drew⟩ | exact hHeld | exact ⟨⟨keep_fr f5 hHeld.1.1, keep_fr f5 hHeld.1.2⟩, hHeld.2.trans' f5⟩))
  clear hK K
  try (simp only [Act.put, List.setIfInBounds_toArray]; dsimp only [List.set_cons_zero, List.set_cons_succ])
  refine wpAnyH_ready (rs := [7]) (by kernel_rfl) (by simp) ?_
  refine AllReadyH.cons (o := ⟨_, _, _, _, _, _⟩) rfl (fun K hK => ?_) AllReadyH.nil
  go_simp
  refine hK.out _ _ ?_ (fun hHeld => ?_)
  · ((try dsimp only) <;> (first | exact ⟨⟨r0, r1⟩, F.drew⟩ | exact hHeld | exact ⟨⟨keep_fr f5 hHeld.1.1, keep_fr f5 hHeld.1.2⟩, hHeld.2.trans' f5⟩))
  clear hK K
  try (simp only [Act.put, List.setIfInBounds_toArray]; dsimp only [List.set_cons_zero, List.set_cons_succ])
  refine wpAnyH_take (i := 11) (oi := ⟨_, _, _, _, _, _⟩) (v := ?_) rfl (by kernel_rfl) (by kernel_rfl) (by kernel_rfl) (fun _ _ _ h => h) (Or.inl ⟨by rfl, ?_⟩) (by assumption) ?_
  rotate_left
  · intro w hSw; (try dsimp only at hSw); go_simp; (try (with_reducible rfl)); done
  simp only [Act.put, List.setIfInBounds_toArray]; dsimp only [List.set_cons_zero, List.set_cons_succ]
  refine wpAnyH_take (i := 12) (oi := ⟨_, _, _, _, _, _⟩) (v := ?_) rfl (by kernel_rfl) (by kernel_rfl) (by kernel_rfl) (fun _ _ _ h => h) (Or.inl ⟨by rfl, ?_⟩) (by assumption) ?_
  rotate_left
  · intro w hSw; (try dsimp only at hSw); go_simp; (try (with_reducible rfl)); done
  simp only [Act.put, List.setIfInBounds_toArray]; dsimp only [List.set_cons_zero, List.set_cons_succ]
  refine wpAnyH_take (i := 13) (oi := ⟨_, _, _, _, _, _⟩) (v := ?_) rfl (by kernel_rfl) (by kernel_rfl) (by kernel_rfl) (fun _ _ _ h => h) (Or.inl ⟨by rfl, ?_⟩) (by assumption) ?_
  rotate_left
  · intro w hSw; (try dsimp only at hSw); go_simp; (try (with_reducible rfl)); done
  simp only [Act.put, List.setIfInBounds_toArray]; dsimp only [List.set_cons_zero, List.set_cons_succ]
  refine wpAnyH_take (i := 14) (oi := ⟨_, _, _, _, _, _⟩) (v := ?_) rfl (by kernel_rfl) (by kernel_rfl) (by kernel_rfl) (fun _ _ _ h => h) (Or.inl ⟨by rfl, ?_⟩) (by assumption) ?_
  rotate_left
  · intro w hSw; (try dsimp only at hSw); go_simp; (try (with_reducible rfl)); done
  simp only [Act.put, List.setIfInBounds_toArray]; dsimp only [List.set_cons_zero, List.set_cons_succ]
  refine wpAnyH_take (i := 15) (oi := ⟨_, _, _, _, _, _⟩) (v := ?_) rfl (by kernel_rfl) (by kernel_rfl) (by kernel_rfl) (fun _ _ _ h => h) (Or.inl ⟨by rfl, ?_⟩) (by assumption) ?_
  rotate_left
  · intro w hSw; (try dsimp only at hSw); go_simp; (try (with_reducible rfl)); done
  simp only [Act.put, List.setIfInBounds_toArray]; dsimp only [List.set_cons_zero, List.set_cons_succ]
  refine wpAnyH_ready (rs := [16]) (by kernel_rfl) (by simp) ?_
  refine AllReadyH.cons (o := ⟨_, _, _, _, _, _⟩) rfl (fun K hK => ?_) AllReadyH.nil
  go_simp
  ((with_reducible refine (HA.out _).mono ?_); rintro e w8 ⟨a8, c8, rfl, hb8, f5, n8⟩; clear n8)
  refine hK.out _ _ ?_ (fun hHeld => ?_)
  · ((try dsimp only) <;> (first | exact ⟨⟨r0, r1⟩, F.drew⟩ | exact hHeld | exact ⟨⟨keep_fr f5 hHeld.1.1, keep_fr f5 hHeld.1.2⟩, hHeld.2.trans' f5⟩))
  clear hK K
  try (simp only [Act.put, List.setIfInBounds_toArray]; dsimp only [List.set_cons_zero, List.set_cons_succ])
  refine wpAnyH_take (i := 17) (oi := ⟨_, _, _, _, _, _⟩) (v := ?_) rfl (by kernel_rfl) (by kernel_rfl) (by kernel_rfl) (fun _ _ _ h => h) (Or.inl ⟨by rfl, ?_⟩) (by assumption) ?_
  rotate_left
  · intro w hSw; (try dsimp only at hSw); go_simp; (try (with_reducible rfl)); done
  simp only [Act.put, List.setIfInBounds_toArray]; dsimp only [List.set_cons_zero, List.set_cons_succ]
  refine wpAnyH_take (i := 18) (oi := ⟨_, _, _, _, _, _⟩) (v := ?_) rfl (by kernel_rfl) (by kernel_rfl) (by kernel_rfl) (fun _ _ _ h => h) (Or.inl ⟨by rfl, ?_⟩) (by assumption) ?_
  rotate_left
  · intro w hSw; (try dsimp only at hSw); go_simp; (try (with_reducible rfl)); done
  simp only [Act.put, List.setIfInBounds_toArray]; dsimp only [List.set_cons_zero, List.set_cons_succ]
  refine wpAnyH_take (i := 19) (oi := ⟨_, _, _, _, _, _⟩) (v := ?_) rfl (by kernel_rfl) (by kernel_rfl) (by kernel_rfl) (fun _ _ _ h => h) (Or.inl ⟨by rfl, ?_⟩) (by assumption) ?_
  rotate_left
  · intro w hSw; (try dsimp only at hSw); go_simp; (try (with_reducible rfl)); done
  simp only [Act.put, List.setIfInBounds_toArray]; dsimp only [List.set_cons_zero, List.set_cons_succ]
  refine wpAnyH_take (i := 20) (oi := ⟨_, _, _, _, _, _⟩) (v := ?_) rfl (by kernel_rfl) (by kernel_rfl) (by kernel_rfl) (fun _ _ _ h => h) (Or.inl ⟨by rfl, ?_⟩) (by assumption) ?_
  rotate_left
  · intro w hSw; (try dsimp only at hSw); go_simp; (try (with_reducible rfl)); done
  simp only [Act.put, List.setIfInBounds_toArray]; dsimp only [List.set_cons_zero, List.set_cons_succ]
  refine wpAnyH_done (by kernel_rfl) ?_ _
  refine NoPanic.normal ?_
  rotate_left
  all_goals
    go_wp2
    go_ret
    exact ⟨rfl, hHeld.2⟩
end Go.Proofs.YtdihahegmfdccaaDoor

/- Layer 7 (header): the law HeaderBytes, walked. -/
namespace Go.Proofs.YtdihahegmfdccaaDoor
set_option linter.unusedVariables false
set_option linter.unusedSimpArgs false
open Go.RowKit

set_option maxRecDepth 100000 in
theorem run_equalIn_hashT (w : World) (l m : List UInt8) (hl : l.length = 32) (hm : m.length = 32) : (Op.equalIn 10000 24 (.agg (l.map B8).toArray) (.agg (m.map B8).toArray)).run Tryd.prog w = .ok (decide (l = m)) w := by
  obtain ⟨i0, hi, _⟩ := info_parts Tryd.infoU8
  rw [run_equalIn_array w 9999 _ _ Tryd.underlying24 hi, show Tryd.prog.cellsOf 5 = 1 by kernel_rfl, run_eqItems_bytes w 5 9998 (by kernel_rfl) Tryd.underlying5 l m 32 hl hm _ (fun j hj => List.mem_range.1 hj)]
  congr 1
  rw [Bool.eq_iff_iff]
  simp only [List.all_eq_true, List.mem_range, decide_eq_true_eq]
  constructor
  · intro h
    apply List.ext_getElem (by omega)
    intro j h1 h2
    have := h j (by omega)
    simpa [List.getD, List.getElem?_eq_getElem h1, List.getElem?_eq_getElem h2] using this
  · rintro rfl j _
    rfl
theorem build_zeroHd (w : World) : (buildHd #[]).run Tryd.prog w = .ok (.agg zeroHd.cells) w := run_buildHd w #[] _ (by kernel_rfl)

set_option maxRecDepth 100000 in
set_option maxHeartbeats 8000000 in
theorem headerBytes_any (HB : HBytesC) (HP : HParseC) (HH : HHashC) (HCk : HCheckC) (h : Hd) (o : h.Ok) (bs : List UInt8) (p : Option Addr) (c : Nat) (w : World) (hb : Bs w p c bs) (hcub : Cub w) :
    Calls Tryd.prog 4 #[.agg h.cells, .slice p bs.length c] w fun e w' => e = .returned (.bool true) ∧ Fr F0 w w' := by
  have HC := Lib.hid hcub
  have HL := Lib.hid (lives07_any HH HCk)
  have HBb := Lib.hid hb
  by_cases l2 : bs.length ≤ 200
  · have l1 : ¬ (200 : Int) < (bs.length : Int) := by omega
    have HA := Lib.hid (HB h o)
    have HR := Lib.hid (fun w => (Ref07_any h o w).mono fun _ _ q => q.new)
    have HHh := Lib.hid (HH h o)
    have HD := Lib.hid (fun a c w hw => r2Double_any a 80 c h.bytes (Hd.bytes_length o).symm (by have := Hd.bytes_length o; omega) w hw)
    have HPs : ∀ a c w, Bs w a c h.bytes → Calls Tryd.prog 10 #[.slice a 80 c] w fun e w' => e = .returned (.tuple #[.agg h.cells, .int .i64 0]) ∧ Fr F0 w w' := fun a c w hw =>
      ((HP h.bytes a c w hw (by have := Hd.bytes_length o; omega)).1 (Hd.bytes_length o)).mono fun e w' ⟨h2, o2, hb2, he, f⟩ => by
        have := Hd.inj o2 o hb2
        subst this
        exact ⟨he, f⟩
    have HPb := Lib.hid (fun w' (hw : Bs w' p c bs) => HP bs p c w' hw (by omega))
    replace HPs := Lib.hid HPs
    have eh : ∀ w, (Op.equalIn 10000 26 (.agg h.cells) (.agg h.cells)).run Tryd.prog w = .ok true w := fun w => by rw [run_equalIn_header w h h o o]; simp
    have es : ∀ w, (Op.equalIn 10000 24 (.agg ((sha2 h.bytes).map B8).toArray) (.agg ((sha2 h.bytes).map B8).toArray)).run Tryd.prog w = .ok true w := fun w => by rw [run_equalIn_hashT w _ _ (by simp [sha2, sha_length]) (by simp [sha2, sha_length])]; simp
    have la := Hd.bytes_length o
    have sa := Hd.cells_size o
    have oa : rowOne h.cells := Hd.one
    unfold NewBytes at HA HR
    rw [la] at HA HR
    replace la := Lib.hid la.symm
    clear HB HH HCk hcub HP hb
    generalize (Array.mk ((sha2 h.bytes).map B8)) = X at *
    generalize h.cells = A at *
    generalize h.bytes = S at *
    have HBl := Lib.hid (rfl : bs.length = bs.length)
    have zz : Tryd.zeroCells26.size = 68 := by kernel_rfl
    generalize Tryd.zeroCells26 = Z at *
    obtain ⟨n, hn⟩ : ∃ n, n = bs.length := ⟨_, rfl⟩
    rw [← hn] at l1 l2 HPb ⊢
    replace hn := Lib.hid hn
    go_enter Tryd.func4, Tryd.ntmps4
    go_wp2_with fail
    refine calls_new fun W1 N1 => ?_
    have r0 := N1.new
    have F := N1.fr
    clear N1
    generalize w.heap.size = g0 at *
    (with_reducible refine (HL.out _ (HC.out.fr F fun f => f)).mono ?_); rintro e w1 ⟨rfl, f⟩
    replace r0 := keep_fr f r0
    replace F := F.trans' f
    clear f
    go_wp2_with fail
    (with_reducible refine (HR.out _).mono ?_); rintro e w2 ⟨aw, cw, rfl, hbw, f, nw⟩
    clear nw
    replace r0 := keep_fr f r0
    replace F := F.trans' f
    clear f
    go_wp2_with fail
    (with_reducible refine (HA.out _).mono ?_); rintro e w3 ⟨a3, c3, rfl, hb3, f, n3⟩
    clear n3
    replace r0 := keep_fr f r0
    replace F := F.trans' f
    replace hbw := Bs.fr7 hbw f
    clear f
    go_wp2_with fail
    (with_reducible refine (HPs.out _ _ _ hb3).mono ?_); rintro e w4 ⟨rfl, f⟩
    replace r0 := keep_fr f r0
    replace F := F.trans' f
    replace hbw := Bs.fr7 hbw f
    clear f hb3
    go_upto_region 5 with fail
    refine wp_put fun W5 N5 => ?_
    have r1 := N5.new
    replace r0 := N5.old r0
    replace F := F.trans' N5.fr
    replace hbw := Bs.fr7 hbw N5.fr
    clear N5
    generalize w4.heap.size = g1 at *
    have HBw := Lib.hid hbw
    clear hbw
    refine wp_region_noPanic ?_
    refine wp_region_held_drew (S := (fun w' => (w'.heap[g0]? = some (.cells A 26 (0, 0)) ∧ w'.heap[g1]? = some (.cells A 26 (0, 0))) ∧ (convert 28 9 (.slice aw 80 cw)).run Tryd.prog w' = .ok (.string (strOf S)) w' ∧ Fr F0 W5 w')) (by kernel_rfl) ?_ (fun hHeld => ?_)
    · ((try dsimp only) <;> (first | exact ⟨⟨r0, r1⟩, bs_str7 (Bs.fr7 HBw.out (Fr.refl F0 W5).drew) la.out, (Fr.refl F0 W5).drew⟩ | exact hHeld | exact ⟨⟨keep_fr f5 hHeld.1.1, keep_fr f5 hHeld.1.2⟩, bs_str7 (Bs.fr7 HBw.out (hHeld.2.2.trans' f5)) la.out, hHeld.2.2.trans' f5⟩))
    refine wpAnyH_take (i := 0) (oi := ⟨_, _, _, _, _, _⟩) (v := ?_) rfl (by kernel_rfl) (by kernel_rfl) (by kernel_rfl) (fun _ _ _ h => h) (Or.inl ⟨by rfl, ?_⟩) (by assumption) ?_
    rotate_left
    · intro w hSw; (try dsimp only at hSw); go_simp; (try (with_reducible rfl)); done
    simp only [Act.put, List.setIfInBounds_toArray]; dsimp only [List.set_cons_zero, List.set_cons_succ]
    refine wpAnyH_take (i := 3) (oi := ⟨_, _, _, _, _, _⟩) (v := ?_) rfl (by kernel_rfl) (by kernel_rfl) (by kernel_rfl) (fun _ _ _ h => h) (Or.inl ⟨by rfl, ?_⟩) (by assumption) ?_
    rotate_left
    · intro w hSw; (try dsimp only at hSw); go_simp; (try (with_reducible rfl)); done
    simp only [Act.put, List.setIfInBounds_toArray]; dsimp only [List.set_cons_zero, List.set_cons_succ]
    refine wpAnyH_take (i := 4) (oi := ⟨_, _, _, _, _, _⟩) (v := ?_) rfl (by kernel_rfl) (by kernel_rfl) (by kernel_rfl) (fun _ _ _ h => h) (Or.inl ⟨by rfl, ?_⟩) (by assumption) ?_
    rotate_left
    · intro w hSw; (try dsimp only at hSw); go_simp; (try (with_reducible rfl)); done
    simp only [Act.put, List.setIfInBounds_toArray]; dsimp only [List.set_cons_zero, List.set_cons_succ]
    refine wpAnyH_ready (rs := [1]) (by kernel_rfl) (by simp) ?_
    refine AllReadyH.cons (o := ⟨_, _, _, _, _, _⟩) rfl (fun K hK => ?_) AllReadyH.nil
    go_simp
    ((with_reducible refine (HA.out _).mono ?_); rintro e w6 ⟨a6, c6, rfl, hb6, f5, n6⟩; have hs6 := bs_str7 hb6 la.out; clear n6)
    refine hK.out _ _ ?_ (fun hHeld => ?_)
    · ((try dsimp only) <;> (first | exact ⟨⟨r0, r1⟩, bs_str7 (Bs.fr7 HBw.out (Fr.refl F0 W5).drew) la.out, (Fr.refl F0 W5).drew⟩ | exact hHeld | exact ⟨⟨keep_fr f5 hHeld.1.1, keep_fr f5 hHeld.1.2⟩, bs_str7 (Bs.fr7 HBw.out (hHeld.2.2.trans' f5)) la.out, hHeld.2.2.trans' f5⟩))
    clear hK K
    try (simp only [Act.put, List.setIfInBounds_toArray]; dsimp only [List.set_cons_zero, List.set_cons_succ])
    refine wpAnyH_ready (rs := [2]) (by kernel_rfl) (by simp) ?_
    refine AllReadyH.cons (o := ⟨_, _, _, _, _, _⟩) rfl (fun K hK => ?_) AllReadyH.nil
    go_simp
    refine hK.out _ _ ?_ (fun hHeld => ?_)
    · ((try dsimp only) <;> (first | exact ⟨⟨r0, r1⟩, bs_str7 (Bs.fr7 HBw.out (Fr.refl F0 W5).drew) la.out, (Fr.refl F0 W5).drew⟩ | exact hHeld | exact ⟨⟨keep_fr f5 hHeld.1.1, keep_fr f5 hHeld.1.2⟩, bs_str7 (Bs.fr7 HBw.out (hHeld.2.2.trans' f5)) la.out, hHeld.2.2.trans' f5⟩))
    clear hK K
    try (simp only [Act.put, List.setIfInBounds_toArray]; dsimp only [List.set_cons_zero, List.set_cons_succ])
    refine wpAnyH_take (i := 5) (oi := ⟨_, _, _, _, _, _⟩) (v := ?_) rfl (by kernel_rfl) (by kernel_rfl) (by kernel_rfl) (fun _ _ _ h => h) (Or.inl ⟨by rfl, ?_⟩) (by assumption) ?_
    rotate_left
    · intro w hSw; (try dsimp only at hSw); go_simp; (try (with_reducible rfl)); done
    simp only [Act.put, List.setIfInBounds_toArray]; dsimp only [List.set_cons_zero, List.set_cons_succ]
    refine wpAnyH_take (i := 6) (oi := ⟨_, _, _, _, _, _⟩) (v := ?_) rfl (by kernel_rfl) (by kernel_rfl) (by kernel_rfl) (fun _ _ _ h => h) (Or.inl ⟨by rfl, ?_⟩) (by assumption) ?_
    rotate_left
    · intro w hSw; (try dsimp only at hSw); go_simp; (try (with_reducible rfl)); done
    simp only [Act.put, List.setIfInBounds_toArray]; dsimp only [List.set_cons_zero, List.set_cons_succ]
    refine wpAnyH_take (i := 7) (oi := ⟨_, _, _, _, _, _⟩) (v := ?_) rfl (by kernel_rfl) (by kernel_rfl) (by kernel_rfl) (fun _ _ _ h => h) (Or.inl ⟨by rfl, ?_⟩) (by assumption) ?_
    rotate_left
    · intro w hSw; (try dsimp only at hSw); go_simp; (try (with_reducible rfl)); done
    simp only [Act.put, List.setIfInBounds_toArray]; dsimp only [List.set_cons_zero, List.set_cons_succ]
    refine wpAnyH_take (i := 9) (oi := ⟨_, _, _, _, _, _⟩) (v := ?_) rfl (by kernel_rfl) (by kernel_rfl) (by kernel_rfl) (fun _ _ _ h => h) (Or.inl ⟨by rfl, ?_⟩) (by assumption) ?_
    rotate_left
    · intro w hSw; (try dsimp only at hSw); go_simp; (try (with_reducible rfl)); done
    simp only [Act.put, List.setIfInBounds_toArray]; dsimp only [List.set_cons_zero, List.set_cons_succ]
    refine wpAnyH_ready (rs := [8]) (by kernel_rfl) (by simp) ?_
    refine AllReadyH.cons (o := ⟨_, _, _, _, _, _⟩) rfl (fun K hK => ?_) AllReadyH.nil
    go_simp
    ((with_reducible refine (HHh.out _ (HC.out.fr (F.trans' hHeld.2.2) fun f => f)).mono ?_); rintro e w7 ⟨rfl, f5⟩)
    refine hK.out _ _ ?_ (fun hHeld => ?_)
    · ((try dsimp only) <;> (first | exact ⟨⟨r0, r1⟩, bs_str7 (Bs.fr7 HBw.out (Fr.refl F0 W5).drew) la.out, (Fr.refl F0 W5).drew⟩ | exact hHeld | exact ⟨⟨keep_fr f5 hHeld.1.1, keep_fr f5 hHeld.1.2⟩, bs_str7 (Bs.fr7 HBw.out (hHeld.2.2.trans' f5)) la.out, hHeld.2.2.trans' f5⟩))
    clear hK K
    try (simp only [Act.put, List.setIfInBounds_toArray]; dsimp only [List.set_cons_zero, List.set_cons_succ])
    refine wpAnyH_ready (rs := [10]) (by kernel_rfl) (by simp) ?_
    refine AllReadyH.cons (o := ⟨_, _, _, _, _, _⟩) rfl (fun K hK => ?_) AllReadyH.nil
    go_simp
    ((with_reducible refine (HD.out _ _ _ (Bs.fr7 HBw.out hHeld.2.2)).mono ?_); rintro e w8 ⟨rfl, f5⟩)
    refine hK.out _ _ ?_ (fun hHeld => ?_)
    · ((try dsimp only) <;> (first | exact ⟨⟨r0, r1⟩, bs_str7 (Bs.fr7 HBw.out (Fr.refl F0 W5).drew) la.out, (Fr.refl F0 W5).drew⟩ | exact hHeld | exact ⟨⟨keep_fr f5 hHeld.1.1, keep_fr f5 hHeld.1.2⟩, bs_str7 (Bs.fr7 HBw.out (hHeld.2.2.trans' f5)) la.out, hHeld.2.2.trans' f5⟩))
    clear hK K
    try (simp only [Act.put, List.setIfInBounds_toArray]; dsimp only [List.set_cons_zero, List.set_cons_succ])
    refine wpAnyH_take (i := 11) (oi := ⟨_, _, _, _, _, _⟩) (v := ?_) rfl (by kernel_rfl) (by kernel_rfl) (by kernel_rfl) (fun _ _ _ h => h) (Or.inl ⟨by rfl, ?_⟩) (by assumption) ?_
    rotate_left
    · intro w hSw; (try dsimp only at hSw); go_simp; (try (with_reducible rfl)); done
    simp only [Act.put, List.setIfInBounds_toArray]; dsimp only [List.set_cons_zero, List.set_cons_succ]
    refine wpAnyH_take (i := 12) (oi := ⟨_, _, _, _, _, _⟩) (v := ?_) rfl (by kernel_rfl) (by kernel_rfl) (by kernel_rfl) (fun _ _ _ h => h) (Or.inl ⟨by rfl, ?_⟩) (by assumption) ?_
    rotate_left
    · intro w hSw; (try dsimp only at hSw); go_simp; (try (with_reducible rfl)); done
    simp only [Act.put, List.setIfInBounds_toArray]; dsimp only [List.set_cons_zero, List.set_cons_succ]
    refine wpAnyH_take (i := 13) (oi := ⟨_, _, _, _, _, _⟩) (v := ?_) rfl (by kernel_rfl) (by kernel_rfl) (by kernel_rfl) (fun _ _ _ h => h) (Or.inl ⟨by rfl, ?_⟩) (by assumption) ?_
    rotate_left
    · intro w hSw; (try dsimp only at hSw); go_simp; (try (with_reducible rfl)); done
    simp only [Act.put, List.setIfInBounds_toArray]; dsimp only [List.set_cons_zero, List.set_cons_succ]
    refine wpAnyH_take (i := 14) (oi := ⟨_, _, _, _, _, _⟩) (v := ?_) rfl (by kernel_rfl) (by kernel_rfl) (by kernel_rfl) (fun _ _ _ h => h) (Or.inl ⟨by rfl, ?_⟩) (by assumption) ?_
    rotate_left
    · intro w hSw; (try dsimp only at hSw); go_simp; (try (with_reducible rfl)); done
    simp only [Act.put, List.setIfInBounds_toArray]; dsimp only [List.set_cons_zero, List.set_cons_succ]
    refine wpAnyH_take (i := 15) (oi := ⟨_, _, _, _, _, _⟩) (v := ?_) rfl (by kernel_rfl) (by kernel_rfl) (by kernel_rfl) (fun _ _ _ h => h) (Or.inl ⟨by rfl, ?_⟩) (by assumption) ?_
    rotate_left
    · intro w hSw; (try dsimp only at hSw); go_simp; (try (with_reducible rfl)); done
    simp only [Act.put, List.setIfInBounds_toArray]; dsimp only [List.set_cons_zero, List.set_cons_succ]
    refine wpAnyH_take (i := 16) (oi := ⟨_, _, _, _, _, _⟩) (v := ?_) rfl (by kernel_rfl) (by kernel_rfl) (by kernel_rfl) (fun _ _ _ h => h) (Or.inl ⟨by rfl, ?_⟩) (by assumption) ?_
    rotate_left
    · intro w hSw; (try dsimp only at hSw); go_simp; (try (with_reducible rfl)); done
    simp only [Act.put, List.setIfInBounds_toArray]; dsimp only [List.set_cons_zero, List.set_cons_succ]
    refine wpAnyH_take (i := 17) (oi := ⟨_, _, _, _, _, _⟩) (v := ?_) rfl (by kernel_rfl) (by kernel_rfl) (by kernel_rfl) (fun _ _ _ h => h) (Or.inl ⟨by rfl, ?_⟩) (by assumption) ?_
    rotate_left
    · intro w hSw; (try dsimp only at hSw); go_simp; (try (with_reducible rfl)); done
    simp only [Act.put, List.setIfInBounds_toArray]; dsimp only [List.set_cons_zero, List.set_cons_succ]
    refine wpAnyH_take (i := 18) (oi := ⟨_, _, _, _, _, _⟩) (v := ?_) rfl (by kernel_rfl) (by kernel_rfl) (by kernel_rfl) (fun _ _ _ h => h) (Or.inl ⟨by rfl, ?_⟩) (by assumption) ?_
    rotate_left
    · intro w hSw; (try dsimp only at hSw); go_simp; (try (with_reducible rfl)); done
    simp only [Act.put, List.setIfInBounds_toArray]; dsimp only [List.set_cons_zero, List.set_cons_succ]
    refine wpAnyH_take (i := 19) (oi := ⟨_, _, _, _, _, _⟩) (v := ?_) rfl (by kernel_rfl) (by kernel_rfl) (by kernel_rfl) (fun _ _ _ h => h) (Or.inl ⟨by rfl, ?_⟩) (by assumption) ?_
    rotate_left
    · intro w hSw; (try dsimp only at hSw); go_simp; (try (with_reducible rfl)); done
    simp only [Act.put, List.setIfInBounds_toArray]; dsimp only [List.set_cons_zero, List.set_cons_succ]
    refine wpAnyH_take (i := 20) (oi := ⟨_, _, _, _, _, _⟩) (v := ?_) rfl (by kernel_rfl) (by kernel_rfl) (by kernel_rfl) (fun _ _ _ h => h) (Or.inl ⟨by rfl, ?_⟩) (by assumption) ?_
    rotate_left
    · intro w hSw; (try dsimp only at hSw); go_simp; (try (with_reducible rfl)); done
    simp only [Act.put, List.setIfInBounds_toArray]; dsimp only [List.set_cons_zero, List.set_cons_succ]
    refine wpAnyH_take (i := 21) (oi := ⟨_, _, _, _, _, _⟩) (v := ?_) rfl (by kernel_rfl) (by kernel_rfl) (by kernel_rfl) (fun _ _ _ h => h) (Or.inl ⟨by rfl, ?_⟩) (by assumption) ?_
    rotate_left
    · intro w hSw; (try dsimp only at hSw); go_simp; (try (with_reducible rfl)); done
    simp only [Act.put, List.setIfInBounds_toArray]; dsimp only [List.set_cons_zero, List.set_cons_succ]
    refine wpAnyH_done (by kernel_rfl) ?_ _
    refine NoPanic.normal ?_
    all_goals
      go_wp2_with fail
      have F8 := F.trans' hHeld.2.2
      have hbb := Bs.fr7 HBb.out F8
      clear HD HHh HPs eh es r0 r1 F hHeld HBw
      by_cases h80 : n = 80
      · subst h80
        have HPy := Lib.hid ((HPb.out w8 hbb).1 rfl)
        clear HPb
        (with_reducible refine HPy.out.mono ?_); rintro e w9 ⟨h2, o2, hb2, rfl, f9⟩
        have HR2 := Lib.hid (fun w => (Ref07_any h2 o2 w).mono fun _ _ q => q.new)
        have sa2 := Hd.cells_size o2
        have oa2 : rowOne h2.cells := Hd.one
        rw [hb2] at HR2
        unfold NewBytes at HR2
        rw [← hn.out] at HR2
        generalize h2.cells = A2 at *
        go_upto_region 8 with fail
        refine wp_put fun W10 N10 => ?_
        have r2 := N10.new
        have F10 := (F8.trans' f9).trans' N10.fr
        have HBx := Lib.hid (Bs.fr7 HBb.out F10)
        clear N10 HPy
        generalize w9.heap.size = g2 at *
        go_upto_region 10 with fail
        refine wp_region_noPanic ?_
        refine wp_region_held_drew (S := (fun w' => w'.heap[g2]? = some (.cells A2 26 (0, 0)) ∧ (convert 28 9 (.slice p 80 c)).run Tryd.prog w' = .ok (.string (strOf bs)) w' ∧ Fr F0 W10 w')) (by kernel_rfl) ?_ (fun hHeld => ?_)
        · ((try dsimp only) <;> (first | exact ⟨r2, bs_str7 (Bs.fr7 HBx.out (Fr.refl F0 W10).drew) hn.out, (Fr.refl F0 W10).drew⟩ | exact hHeld | exact ⟨keep_fr f5 hHeld.1, bs_str7 (Bs.fr7 HBx.out (hHeld.2.2.trans' f5)) hn.out, hHeld.2.2.trans' f5⟩))
        refine wpAnyH_take (i := 0) (oi := ⟨_, _, _, _, _, _⟩) (v := ?_) rfl (by kernel_rfl) (by kernel_rfl) (by kernel_rfl) (fun _ _ _ h => h) (Or.inl ⟨by rfl, ?_⟩) (by assumption) ?_
        rotate_left
        · intro w hSw; (try dsimp only at hSw); go_simp; (try (with_reducible rfl)); done
        simp only [Act.put, List.setIfInBounds_toArray]; dsimp only [List.set_cons_zero, List.set_cons_succ]
        refine wpAnyH_take (i := 1) (oi := ⟨_, _, _, _, _, _⟩) (v := ?_) rfl (by kernel_rfl) (by kernel_rfl) (by kernel_rfl) (fun _ _ _ h => h) (Or.inl ⟨by rfl, ?_⟩) (by assumption) ?_
        rotate_left
        · intro w hSw; (try dsimp only at hSw); go_simp; (try (with_reducible rfl)); done
        simp only [Act.put, List.setIfInBounds_toArray]; dsimp only [List.set_cons_zero, List.set_cons_succ]
        refine wpAnyH_take (i := 2) (oi := ⟨_, _, _, _, _, _⟩) (v := ?_) rfl (by kernel_rfl) (by kernel_rfl) (by kernel_rfl) (fun _ _ _ h => h) (Or.inl ⟨by rfl, ?_⟩) (by assumption) ?_
        rotate_left
        · intro w hSw; (try dsimp only at hSw); go_simp; (try (with_reducible rfl)); done
        simp only [Act.put, List.setIfInBounds_toArray]; dsimp only [List.set_cons_zero, List.set_cons_succ]
        refine wpAnyH_take (i := 3) (oi := ⟨_, _, _, _, _, _⟩) (v := ?_) rfl (by kernel_rfl) (by kernel_rfl) (by kernel_rfl) (fun _ _ _ h => h) (Or.inl ⟨by rfl, ?_⟩) (by assumption) ?_
        rotate_left
        · intro w hSw; (try dsimp only at hSw); go_simp; (try (with_reducible rfl)); done
        simp only [Act.put, List.setIfInBounds_toArray]; dsimp only [List.set_cons_zero, List.set_cons_succ]
        refine wpAnyH_take (i := 6) (oi := ⟨_, _, _, _, _, _⟩) (v := ?_) rfl (by kernel_rfl) (by kernel_rfl) (by kernel_rfl) (fun _ _ _ h => h) (Or.inl ⟨by rfl, ?_⟩) (by assumption) ?_
        rotate_left
        · intro w hSw; (try dsimp only at hSw); go_simp; (try (with_reducible rfl)); done
        simp only [Act.put, List.setIfInBounds_toArray]; dsimp only [List.set_cons_zero, List.set_cons_succ]
        refine wpAnyH_take (i := 7) (oi := ⟨_, _, _, _, _, _⟩) (v := ?_) rfl (by kernel_rfl) (by kernel_rfl) (by kernel_rfl) (fun _ _ _ h => h) (Or.inl ⟨by rfl, ?_⟩) (by assumption) ?_
        rotate_left
        · intro w hSw; (try dsimp only at hSw); go_simp; (try (with_reducible rfl)); done
        simp only [Act.put, List.setIfInBounds_toArray]; dsimp only [List.set_cons_zero, List.set_cons_succ]
        refine wpAnyH_ready (rs := [4]) (by kernel_rfl) (by simp) ?_
        refine AllReadyH.cons (o := ⟨_, _, _, _, _, _⟩) rfl (fun K hK => ?_) AllReadyH.nil
        go_simp
        ((with_reducible refine (HR2.out _).mono ?_); rintro e w11 ⟨a11, c11, rfl, hb11, f5, n11⟩; have hs11 := bs_str7 hb11 hn.out; clear n11)
        refine hK.out _ _ ?_ (fun hHeld => ?_)
        · ((try dsimp only) <;> (first | exact ⟨r2, bs_str7 (Bs.fr7 HBx.out (Fr.refl F0 W10).drew) hn.out, (Fr.refl F0 W10).drew⟩ | exact hHeld | exact ⟨keep_fr f5 hHeld.1, bs_str7 (Bs.fr7 HBx.out (hHeld.2.2.trans' f5)) hn.out, hHeld.2.2.trans' f5⟩))
        clear hK K
        try (simp only [Act.put, List.setIfInBounds_toArray]; dsimp only [List.set_cons_zero, List.set_cons_succ])
        refine wpAnyH_ready (rs := [5]) (by kernel_rfl) (by simp) ?_
        refine AllReadyH.cons (o := ⟨_, _, _, _, _, _⟩) rfl (fun K hK => ?_) AllReadyH.nil
        go_simp
        refine hK.out _ _ ?_ (fun hHeld => ?_)
        · ((try dsimp only) <;> (first | exact ⟨r2, bs_str7 (Bs.fr7 HBx.out (Fr.refl F0 W10).drew) hn.out, (Fr.refl F0 W10).drew⟩ | exact hHeld | exact ⟨keep_fr f5 hHeld.1, bs_str7 (Bs.fr7 HBx.out (hHeld.2.2.trans' f5)) hn.out, hHeld.2.2.trans' f5⟩))
        clear hK K
        try (simp only [Act.put, List.setIfInBounds_toArray]; dsimp only [List.set_cons_zero, List.set_cons_succ])
        refine wpAnyH_take (i := 8) (oi := ⟨_, _, _, _, _, _⟩) (v := ?_) rfl (by kernel_rfl) (by kernel_rfl) (by kernel_rfl) (fun _ _ _ h => h) (Or.inl ⟨by rfl, ?_⟩) (by assumption) ?_
        rotate_left
        · intro w hSw; (try dsimp only at hSw); go_simp; (try (with_reducible rfl)); done
        simp only [Act.put, List.setIfInBounds_toArray]; dsimp only [List.set_cons_zero, List.set_cons_succ]
        refine wpAnyH_take (i := 9) (oi := ⟨_, _, _, _, _, _⟩) (v := ?_) rfl (by kernel_rfl) (by kernel_rfl) (by kernel_rfl) (fun _ _ _ h => h) (Or.inl ⟨by rfl, ?_⟩) (by assumption) ?_
        rotate_left
        · intro w hSw; (try dsimp only at hSw); go_simp; (try (with_reducible rfl)); done
        simp only [Act.put, List.setIfInBounds_toArray]; dsimp only [List.set_cons_zero, List.set_cons_succ]
        refine wpAnyH_take (i := 10) (oi := ⟨_, _, _, _, _, _⟩) (v := ?_) rfl (by kernel_rfl) (by kernel_rfl) (by kernel_rfl) (fun _ _ _ h => h) (Or.inl ⟨by rfl, ?_⟩) (by assumption) ?_
        rotate_left
        · intro w hSw; (try dsimp only at hSw); go_simp; (try (with_reducible rfl)); done
        simp only [Act.put, List.setIfInBounds_toArray]; dsimp only [List.set_cons_zero, List.set_cons_succ]
        refine wpAnyH_done (by kernel_rfl) ?_ _
        refine NoPanic.normal ?_
        all_goals
          go_wp2
          go_ret
          exact ⟨by simp, F10.trans' hHeld.2.2⟩
      · have HPn := Lib.hid ((HPb.out w8 hbb).2 h80)
        clear HPb
        (with_reducible refine HPn.out.mono ?_); rintro e w9 ⟨rfl, f9⟩
        have hzb := build_zeroHd
        have ez : ∀ w, (Op.equalIn 10000 26 (.agg zeroHd.cells) (.agg zeroHd.cells)).run Tryd.prog w = .ok true w := fun w => by rw [run_equalIn_header w zeroHd zeroHd zeroHd.ok zeroHd.ok]; simp
        have sa2 := Hd.cells_size zeroHd.ok
        have oa2 : rowOne zeroHd.cells := Hd.one
        generalize zeroHd.cells = A2 at *
        have n80 : ¬ (n : Int) = 80 := by omega
        go_upto_region 8 with fail
        refine wp_put fun W10 N10 => ?_
        have r2 := N10.new
        have F10 := (F8.trans' f9).trans' N10.fr
        clear N10 HPn
        generalize w9.heap.size = g2 at *
        go_wp2
        go_ret
        exact ⟨by simp, F10⟩
  · have l1 : (200 : Int) < (bs.length : Int) := by omega
    go_enter Tryd.func4, Tryd.ntmps4
    go_wp2_with fail
    refine calls_new fun W1 N1 => ?_
    have F := N1.fr
    clear N1
    generalize w.heap.size = g0 at *
    (with_reducible refine (HL.out _ (HC.out.fr F fun f => f)).mono ?_); rintro e w1 ⟨rfl, f⟩
    replace F := F.trans' f
    clear f
    go_wp2_with fail
    (with_reducible refine (HL.out _ (HC.out.fr F fun f => f)).mono ?_); rintro e w2 ⟨rfl, f⟩
    go_wp2
    go_ret
    exact ⟨rfl, F.trans' f⟩
end Go.Proofs.YtdihahegmfdccaaDoor

/- Layer 7 (header), the program's own: Bytes and Hash by a writer. -/
namespace Go.Proofs.YtdihahegmfdccaaDoor
set_option linter.unusedVariables false
set_option linter.unusedSimpArgs false
open Go.RowKit

set_option maxRecDepth 100000 in
set_option maxHeartbeats 8000000 in
theorem hBytesC : HBytesC := by
  intro h o w
  obtain ⟨s0, c0, c65, c66, c67, x1, x33, o0⟩ := Hd.of o
  obtain ⟨v, A, R, t, b, n⟩ := h
  obtain ⟨o1, o2, o3, o4, o5, o6⟩ := o
  simp only at o1 o2 o3 o4 o5 o6 c0 c65 c66 c67 x1 x33
  simp only [Hd.bytes]
  generalize Hd.cells _ = C at *
  have d0 := cell_is c0 (by omega)
  have d65 := cell_is c65 (by omega)
  have d66 := cell_is c66 (by omega)
  have d67 := cell_is c67 (by omega)
  go_enter Tryd.func8, Tryd.ntmps8
  go_upto_region 2 with fail
  refine wp_new fun W2 N2 => ?_
  have r0 := N2.old (heap_alloc_new w (.cells C 26))
  have fW := ((Fr.refl F0 w).alloc (.cells C 26)).trans' N2.fr
  have ne := N2.ne (heap_alloc_new w (.cells C 26))
  have i0 := WI.of N2.new
  rw [World.size_alloc] at i0 ne
  clear N2
  have gw : w.heap.size ≤ w.heap.size + 1 := by omega
  generalize w.heap.size + 1 = g1 at *
  have r0' := Lib.hid r0
  clear r0
  obtain ⟨g0, hg0⟩ : ∃ g, g = w.heap.size := ⟨_, rfl⟩
  rw [← hg0] at r0' ne ⊢
  replace ne := Lib.hid ne
  replace gw := Lib.hid gw
  clear hg0
  have r := i0.keep ne.out r0'.out
  have H := Lib.hid (i0.put v o1 (by simp only [List.length_append, le4, List.length_nil]; omega))
  go_wp2_with fail
  (with_reducible refine H.out.mono ?_); rintro e w3 ⟨rfl, i1⟩
  clear H r
  have r := i1.keep ne.out r0'.out
  have hb := Bs.of_cells (o := 1) (n := 32) r o2 (by omega) x1
  have H := Lib.hid (i1.raw _ 32 32 _ hb o2.symm (by simp only [List.length_append, le4, List.length_nil]; omega))
  go_wp2_with fail
  (with_reducible refine H.out.mono ?_); rintro e w4 ⟨rfl, i2⟩
  clear H r hb
  have r := i2.keep ne.out r0'.out
  have hb := Bs.of_cells (o := 33) (n := 32) r o3 (by omega) x33
  have H := Lib.hid (i2.raw _ 32 32 _ hb o3.symm (by simp only [List.length_append, le4, List.length_nil]; omega))
  go_wp2_with fail
  (with_reducible refine H.out.mono ?_); rintro e w5 ⟨rfl, i3⟩
  clear H r hb
  have r := i3.keep ne.out r0'.out
  have H := Lib.hid (i3.put t o4 (by simp only [List.length_append, le4, List.length_nil]; omega))
  go_wp2_with fail
  (with_reducible refine H.out.mono ?_); rintro e w6 ⟨rfl, i4⟩
  clear H r
  have r := i4.keep ne.out r0'.out
  have H := Lib.hid (i4.put b o5 (by simp only [List.length_append, le4, List.length_nil]; omega))
  go_wp2_with fail
  (with_reducible refine H.out.mono ?_); rintro e w7 ⟨rfl, i5⟩
  clear H r
  have r := i5.keep ne.out r0'.out
  have H := Lib.hid (i5.put n o6 (by simp only [List.length_append, le4, List.length_nil]; omega))
  go_wp2_with fail
  (with_reducible refine H.out.mono ?_); rintro e w8 ⟨rfl, i6⟩
  clear H r
  have H := Lib.hid (i6.bytes fW gw.out (by simp only [List.length_append, le4, List.length_nil]; omega))
  go_wp2_with fail
  refine H.out.mono ?_
  rintro e w9 ⟨a9, c9, rfl, hb9, f9, n9⟩
  have HN := Lib.hid n9
  clear n9 H
  have e : [] ++ le 4 v ++ A ++ R ++ le 4 t ++ le 4 b ++ le 4 n = le 4 v ++ (A ++ (R ++ (le 4 t ++ (le 4 b ++ le 4 n)))) := by simp only [List.append_assoc, List.nil_append]
  rw [e] at hb9 ⊢
  obtain ⟨N, hN⟩ : ∃ N, N = (le 4 v ++ (A ++ (R ++ (le 4 t ++ (le 4 b ++ le 4 n))))).length := ⟨_, rfl⟩
  rw [← hN]
  replace hN := Lib.hid hN
  go_wp2_with fail
  go_ret
  exact ⟨a9, c9, by rw [← hN.out]; rfl, hb9, f9, HN.out⟩
set_option maxRecDepth 100000 in
set_option maxHeartbeats 8000000 in
theorem hHashC : HHashC := by
  intro h o w hcub
  have HB := Lib.hid (hBytesC h o)
  have HD := Lib.hid (fun a c w hw hc => Double_any a 80 c h.bytes (Hd.bytes_length o).symm (by have := Hd.bytes_length o; omega) w hw hc)
  have HC := Lib.hid hcub
  have la := Hd.bytes_length o
  have s0 := Hd.cells_size o
  unfold NewBytes at HB
  rw [la] at HB
  have sx : ((sha2 h.bytes).map B8).toArray.size = 32 := by simp [sha2, sha_length]
  have ox : rowOne ((sha2 h.bytes).map B8).toArray := oneB_map _
  generalize (Array.mk ((sha2 h.bytes).map B8)) = X at *
  generalize h.cells = C at *
  generalize h.bytes = S at *
  clear hcub
  go_enter Tryd.func11, Tryd.ntmps11
  go_wp2_with fail
  refine calls_new fun W1 N1 => ?_
  have r1 := N1.new
  have F := ((Fr.refl F0 w).alloc (.cells C 26)).trans' N1.fr
  have hz : (#[.int .u8 0, .int .u8 0, .int .u8 0, .int .u8 0, .int .u8 0, .int .u8 0, .int .u8 0, .int .u8 0, .int .u8 0, .int .u8 0, .int .u8 0, .int .u8 0, .int .u8 0, .int .u8 0, .int .u8 0, .int .u8 0,
    .int .u8 0, .int .u8 0, .int .u8 0, .int .u8 0, .int .u8 0, .int .u8 0, .int .u8 0, .int .u8 0, .int .u8 0, .int .u8 0, .int .u8 0, .int .u8 0, .int .u8 0, .int .u8 0, .int .u8 0, .int .u8 0] : Array Value).size = 32 := rfl
  rw [World.size_alloc] at r1
  have hg : w.heap.size ≤ w.heap.size + 1 := by omega
  try rw [World.size_alloc]
  clear N1
  generalize (#[.int .u8 0, .int .u8 0, .int .u8 0, .int .u8 0, .int .u8 0, .int .u8 0, .int .u8 0, .int .u8 0, .int .u8 0, .int .u8 0, .int .u8 0, .int .u8 0, .int .u8 0, .int .u8 0, .int .u8 0, .int .u8 0,
    .int .u8 0, .int .u8 0, .int .u8 0, .int .u8 0, .int .u8 0, .int .u8 0, .int .u8 0, .int .u8 0, .int .u8 0, .int .u8 0, .int .u8 0, .int .u8 0, .int .u8 0, .int .u8 0, .int .u8 0, .int .u8 0] : Array Value) = Z at *
  generalize w.heap.size + 1 = g1 at *
  replace hg := Lib.hid hg
  (with_reducible refine (HB.out _).mono ?_); rintro e w2 ⟨a2, c2, rfl, hb2, f, n2⟩
  clear n2
  replace r1 := keep_fr f r1
  replace F := F.trans' f
  clear f
  go_wp2_with fail
  (with_reducible refine (HD.out _ _ _ hb2 (HC.out.fr F fun f => f)).mono ?_); rintro e w3 ⟨rfl, f⟩
  replace r1 := keep_fr f r1
  replace F := F.trans' f
  clear f
  go_wp2_with fail
  refine bodyPost_ret (results_cell_row rfl _ _ g1 _ _ _ _ rfl (by rw [heap_setRow_at, r1]; rfl) Tryd.underlying24 rfl (by rw [Tryd.szHash, sx])) rfl ⟨rfl, ?_⟩
  exact F.setRow (fun h => by have := hg.out; omega) _
end Go.Proofs.YtdihahegmfdccaaDoor

/- Layer 7 (header), the program's own: Check. -/
namespace Go.Proofs.YtdihahegmfdccaaDoor
set_option linter.unusedVariables false
set_option linter.unusedSimpArgs false
open Go.RowKit

set_option maxRecDepth 100000 in
set_option maxHeartbeats 8000000 in
theorem hCheckC : HCheckC := by
  intro h o l hl E hE w hcub
  have HC := Lib.hid hcub
  have HH := Lib.hid (hHashC h o)
  rw [hash_row _ (by simp [sha2, sha_length])] at HH
  have hx := hash_lt (sha2 h.bytes) (by simp [sha2, sha_length])
  obtain ⟨sa, c0, c65, c66, c67, x1, x33, oa⟩ := Hd.of o
  clear c0 c65 c67 x1 x33 hcub
  rw [ckE, show hsh h = ofLE (sha2 h.bytes) from rfl] at hE
  generalize ofLE (sha2 h.bytes) = x at *
  by_cases hb : btP h.bits
  · have HD := Lib.hid ((decC h.bits o.bits).1 hb)
    have hTW := hb.2.2
    generalize btT h.bits = T at *
    have HCm := Lib.hid (wCmp_any T l hTW hl)
    have HM := Lib.hid (fun o ho w => meetsC x T o hx hTW ho w)
    have hE2 : E = if T ≤ l then (if x ≤ T then 0 else 7) else 6 := by
      rw [← hE]
      by_cases h1 : T ≤ l <;> simp [hb, h1]
    clear hE hb
    generalize h.cells = A at *
    have d66 := cell_is c66 (by omega)
    generalize h.bits = b at *
    have hs : (sgn T l ≤ 0) ↔ T ≤ l := sgn_le T l
    generalize sgn T l = s at *
    clear hl hTW hx
    go_enter Tryd.func17, Tryd.ntmps17
    go_wp2_with fail
    refine calls_new fun W1 N1 => ?_
    have r1 := N1.new
    have r0 := N1.old (heap_alloc_new w (.cells A 26))
    have F := ((Fr.refl F0 w).alloc (.cells A 26)).trans' N1.fr
    rw [World.size_alloc] at r1
    clear N1
    generalize w.heap.size + 1 = g1 at *
    generalize w.heap.size = g0 at *
    (with_reducible refine (HD.out _).mono ?_); rintro e w2 ⟨rfl, f⟩
    replace r0 := keep_fr f r0
    replace r1 := keep_fr f r1
    replace F := F.trans' f
    clear f HD c66 d66
    go_upto_region 2 with fail
    refine wp_put fun W3 N3 => ?_
    have r5 := N3.new
    replace r0 := N3.old r0
    replace r1 := N3.old r1
    replace F := F.trans' N3.fr
    clear N3
    generalize w2.heap.size = g5 at *
    go_wp2_with fail
    (with_reducible refine (HCm.out _).mono ?_); rintro e w4 ⟨rfl, f⟩
    replace r0 := keep_fr f r0
    replace r5 := keep_fr f r5
    replace F := F.trans' f
    clear f HCm r1
    by_cases h1 : T ≤ l
    · have l1 : ¬ 0 < s := by have := hs.2 h1; omega
      rw [if_pos h1] at hE2
      obtain ⟨om, hom⟩ : ∃ om, decide (x ≤ T) = om := ⟨_, rfl⟩
      have HM2 := Lib.hid (HM.out om hom)
      have hE3 : E = if om then 0 else 7 := by
        rw [hE2, ← hom]
        by_cases h2 : x ≤ T <;> simp [h2]
      clear hE2 hom hs h1 HM
      go_upto_region 4 with fail
      refine wp_region_noPanic ?_
      refine wp_region_held_drew (S := (fun w' => (w'.heap[g0]? = some (.cells A 26 (0, 0)) ∧ w'.heap[g5]? = some (.cells (rowN .u64 64 4 T) 40 (0, 0))) ∧ Fr F0 w w')) (by kernel_rfl) ?_ (fun hHeld => ?_)
      · ((try dsimp only) <;> (first | exact ⟨⟨r0, r5⟩, F.drew⟩ | exact hHeld | exact ⟨⟨keep_fr f5 hHeld.1.1, keep_fr f5 hHeld.1.2⟩, hHeld.2.trans' f5⟩))
      refine wpAnyH_take (i := 0) (oi := ⟨_, _, _, _, _, _⟩) (v := ?_) rfl (by kernel_rfl) (by kernel_rfl) (by kernel_rfl) (fun _ _ _ h => h) (Or.inl ⟨by rfl, ?_⟩) (by assumption) ?_
      rotate_left
      · intro w hSw; (try dsimp only at hSw); go_simp; (try (with_reducible rfl)); done
      simp only [Act.put, List.setIfInBounds_toArray]; dsimp only [List.set_cons_zero, List.set_cons_succ]
      refine wpAnyH_take (i := 2) (oi := ⟨_, _, _, _, _, _⟩) (v := ?_) rfl (by kernel_rfl) (by kernel_rfl) (by kernel_rfl) (fun _ _ _ h => h) (Or.inl ⟨by rfl, ?_⟩) (by assumption) ?_
      rotate_left
      · intro w hSw; (try dsimp only at hSw); go_simp; (try (with_reducible rfl)); done
      simp only [Act.put, List.setIfInBounds_toArray]; dsimp only [List.set_cons_zero, List.set_cons_succ]
      refine wpAnyH_ready (rs := [1]) (by kernel_rfl) (by simp) ?_
      refine AllReadyH.cons (o := ⟨_, _, _, _, _, _⟩) rfl (fun K hK => ?_) AllReadyH.nil
      go_simp
      ((with_reducible refine (HH.out _ (HC.out.fr hHeld.2 fun f => f)).mono ?_); rintro e w6 ⟨rfl, f5⟩)
      refine hK.out _ _ ?_ (fun hHeld => ?_)
      · ((try dsimp only) <;> (first | exact ⟨⟨r0, r5⟩, F.drew⟩ | exact hHeld | exact ⟨⟨keep_fr f5 hHeld.1.1, keep_fr f5 hHeld.1.2⟩, hHeld.2.trans' f5⟩))
      clear hK K
      try (simp only [Act.put, List.setIfInBounds_toArray]; dsimp only [List.set_cons_zero, List.set_cons_succ])
      refine wpAnyH_ready (rs := [3]) (by kernel_rfl) (by simp) ?_
      refine AllReadyH.cons (o := ⟨_, _, _, _, _, _⟩) rfl (fun K hK => ?_) AllReadyH.nil
      go_simp
      ((with_reducible refine (HM2.out _).mono ?_); rintro e w7 ⟨rfl, f5⟩)
      refine hK.out _ _ ?_ (fun hHeld => ?_)
      · ((try dsimp only) <;> (first | exact ⟨⟨r0, r5⟩, F.drew⟩ | exact hHeld | exact ⟨⟨keep_fr f5 hHeld.1.1, keep_fr f5 hHeld.1.2⟩, hHeld.2.trans' f5⟩))
      clear hK K
      try (simp only [Act.put, List.setIfInBounds_toArray]; dsimp only [List.set_cons_zero, List.set_cons_succ])
      refine wpAnyH_take (i := 4) (oi := ⟨_, _, _, _, _, _⟩) (v := ?_) rfl (by kernel_rfl) (by kernel_rfl) (by kernel_rfl) (fun _ _ _ h => h) (Or.inl ⟨by rfl, ?_⟩) (by assumption) ?_
      rotate_left
      · intro w hSw; (try dsimp only at hSw); go_simp; (try (with_reducible rfl)); done
      simp only [Act.put, List.setIfInBounds_toArray]; dsimp only [List.set_cons_zero, List.set_cons_succ]
      refine wpAnyH_take (i := 5) (oi := ⟨_, _, _, _, _, _⟩) (v := ?_) rfl (by kernel_rfl) (by kernel_rfl) (by kernel_rfl) (fun _ _ _ h => h) (Or.inl ⟨by rfl, ?_⟩) (by assumption) ?_
      rotate_left
      · intro w hSw; (try dsimp only at hSw); go_simp; (try (with_reducible rfl)); done
      simp only [Act.put, List.setIfInBounds_toArray]; dsimp only [List.set_cons_zero, List.set_cons_succ]
      refine wpAnyH_done (by kernel_rfl) ?_ _
      refine NoPanic.normal ?_
      all_goals
        cases om with
        | true =>
          go_wp2
          go_ret
          exact ⟨by first | rfl | (rw [hE3]; rfl), hHeld.2⟩
        | false =>
          go_wp2
          go_ret
          exact ⟨by first | rfl | (rw [hE3]; rfl), hHeld.2⟩
    · have l1 : 0 < s := by have := hs.1; omega
      rw [if_neg h1] at hE2
      subst hE2
      go_wp2
      go_ret
      exact ⟨rfl, F⟩
  · have HD := Lib.hid ((decC h.bits o.bits).2 hb)
    rw [if_neg (fun h => hb h.1)] at hE
    subst hE
    clear hb
    generalize h.cells = A at *
    have d66 := cell_is c66 (by omega)
    generalize h.bits = b at *
    clear hl hx
    go_enter Tryd.func17, Tryd.ntmps17
    go_wp2_with fail
    refine calls_new fun W1 N1 => ?_
    have r1 := N1.new
    have r0 := N1.old (heap_alloc_new w (.cells A 26))
    have F := ((Fr.refl F0 w).alloc (.cells A 26)).trans' N1.fr
    rw [World.size_alloc] at r1
    clear N1
    generalize w.heap.size + 1 = g1 at *
    generalize w.heap.size = g0 at *
    (with_reducible refine (HD.out _).mono ?_); rintro e w2 ⟨rfl, f⟩
    replace F := F.trans' f
    clear f HD c66 d66
    go_wp2
    go_ret
    exact ⟨rfl, F.trans' (put_new _ _ _ _).fr⟩
end Go.Proofs.YtdihahegmfdccaaDoor

/- Layer 7 (header), the program's own: Parse by a reader. -/
namespace Go.Proofs.YtdihahegmfdccaaDoor
set_option linter.unusedVariables false
set_option linter.unusedSimpArgs false
open Go.RowKit

@[go_sem] theorem run_store_hash1 (w : World) (g : Nat) (cells : Array Value) : (storeRowAt 24 (.pointer (some ⟨g, 1, none⟩)) (.agg cells)).run Tryd.prog w = midIn Tryd.prog 24 (.pointer (some ⟨g, 1, none⟩)) cells g w 32 1 68 w.heap[g]? :=
  run_storeMid w _ g 1 32 68 cells (by omega) (by omega) Tryd.szHash
@[go_sem] theorem run_store_hash33 (w : World) (g : Nat) (cells : Array Value) : (storeRowAt 24 (.pointer (some ⟨g, 33, none⟩)) (.agg cells)).run Tryd.prog w = midIn Tryd.prog 24 (.pointer (some ⟨g, 33, none⟩)) cells g w 32 33 68 w.heap[g]? :=
  run_storeMid w _ g 33 32 68 cells (by omega) (by omega) Tryd.szHash

/-- Two hashes' lengths. -/
def Hd.L (h : Hd) : Prop := h.ahead.length = 32 ∧ h.root.length = 32
theorem Hd.sizeL {h : Hd} (o : h.L) : h.cells.size = 68 := by simp [Hd.cells, o.1, o.2]
theorem Hd.set0 (h : Hd) (x : Nat) : h.cells.setIfInBounds 0 (.int .u32 (x : Int)) = ({ h with ver := x } : Hd).cells := by simp [Hd.cells]
theorem Hd.cells_tail (h : Hd) : h.cells = ((Value.int .u32 (h.ver : Int) :: (h.ahead.map B8 ++ h.root.map B8)) ++ [Value.int .u32 (h.time : Int), .int .u32 (h.bits : Int), .int .u32 (h.nonce : Int)]).toArray := by simp [Hd.cells]
theorem Hd.set65 {h : Hd} (o : h.L) (x : Nat) : h.cells.setIfInBounds 65 (.int .u32 (x : Int)) = ({ h with time := x } : Hd).cells := by
  rw [Hd.cells_tail, Hd.cells_tail, List.setIfInBounds_toArray, List.set_append_right _ _ (by simp [o.1, o.2])]
  simp [o.1, o.2]
theorem Hd.set66 {h : Hd} (o : h.L) (x : Nat) : h.cells.setIfInBounds 66 (.int .u32 (x : Int)) = ({ h with bits := x } : Hd).cells := by
  rw [Hd.cells_tail, Hd.cells_tail, List.setIfInBounds_toArray, List.set_append_right _ _ (by simp [o.1, o.2])]
  simp [o.1, o.2]
theorem Hd.set67 {h : Hd} (o : h.L) (x : Nat) : h.cells.setIfInBounds 67 (.int .u32 (x : Int)) = ({ h with nonce := x } : Hd).cells := by
  rw [Hd.cells_tail, Hd.cells_tail, List.setIfInBounds_toArray, List.set_append_right _ _ (by simp [o.1, o.2])]
  simp [o.1, o.2]
theorem Hd.put1 {h : Hd} (o : h.L) (A : List UInt8) (hA : A.length = 32) : putMid h.cells 1 (A.map B8) = ({ h with ahead := A } : Hd).cells := by
  have := putMid_parts [Value.int .u32 (h.ver : Int)] (h.ahead.map B8) (h.root.map B8 ++ [.int .u32 (h.time : Int), .int .u32 (h.bits : Int), .int .u32 (h.nonce : Int)]) (A.map B8) (by simp [o.1, hA])
  exact this
theorem Hd.put33 {h : Hd} (o : h.L) (A : List UInt8) (hA : A.length = 32) : putMid h.cells 33 (A.map B8) = ({ h with root := A } : Hd).cells := by
  have := putMid_parts (Value.int .u32 (h.ver : Int) :: h.ahead.map B8) (h.root.map B8) [.int .u32 (h.time : Int), .int .u32 (h.bits : Int), .int .u32 (h.nonce : Int)] (A.map B8) (by simp [o.2, hA])
  rw [show (Value.int .u32 (h.ver : Int) :: h.ahead.map B8).length = 33 by simp [o.1]] at this
  simpa [Hd.cells] using this
/-- The header of 80 bytes. -/
def Hd.read (b : List UInt8) : Hd := ⟨ofLE (b.take 4), (b.drop 4).take 32, (b.drop 36).take 32, ofLE ((b.drop 68).take 4), ofLE ((b.drop 72).take 4), ofLE ((b.drop 76).take 4)⟩
theorem le_ofLE : ∀ (l : List UInt8), le l.length (ofLE l) = l
  | [] => rfl
  | c :: r => by
    have := c.toNat_lt
    simp only [List.length_cons, le, ofLE]
    rw [show (c.toNat + 256 * ofLE r) / 256 = ofLE r by omega, le_ofLE r]
    congr 1
    rw [show (c.toNat + 256 * ofLE r) % 256 = c.toNat by omega]
    exact UInt8.toNat_inj.1 (by rw [UInt8.toNat_ofNat']; omega)
theorem Hd.read_ok {b : List UInt8} (h : b.length = 80) : (Hd.read b).Ok := by
  have q : ∀ (l : List UInt8), l.length = 4 → ofLE l < 4294967296 := fun l hl => by have := ofLE_lt l; rw [hl] at this; exact this
  refine ⟨q _ (by simp; omega), by simp [Hd.read]; omega, by simp [Hd.read]; omega, q _ (by simp; omega), q _ (by simp; omega), q _ (by simp; omega)⟩
theorem Hd.read_bytes {b : List UInt8} (h : b.length = 80) : (Hd.read b).bytes = b := by
  have q : ∀ (l : List UInt8), l.length = 4 → le 4 (ofLE l) = l := fun l hl => by have := le_ofLE l; rwa [hl] at this
  simp only [Hd.bytes, Hd.read]
  rw [q _ (by simp; omega), q _ (by simp; omega), q _ (by simp; omega), q _ (by simp; omega)]
  have e : ∀ (a c : Nat) (l : List UInt8), (l.drop a).take c ++ l.drop (a + c) = l.drop a := fun a c l => by
    rw [← List.drop_drop, List.take_append_drop]
  have e76 : (b.drop 76).take 4 = b.drop 76 := List.take_of_length_le (by simp; omega)
  rw [e76, e 72 4 b, e 68 4 b, e 36 32 b, e 4 32 b, List.take_append_drop]

theorem tk_lit (n : Int) (m : Nat) (hn : n = m) {bs : List UInt8} (h : m ≤ bs.length) : tk n (some bs) = (bs.take m, some (bs.drop m)) := by subst hn; exact tk_ok h
set_option maxRecDepth 100000 in
set_option maxHeartbeats 4000000 in
theorem hNum_any {B b : Nat} {bs : List UInt8} {w : World} (h : RI B b (some bs) w) (hl : bs.length ≤ 1000000) (h4 : 4 ≤ bs.length) :
    Calls Tryd.prog 27 #[.pointer (some ⟨b, 0, none⟩)] w fun e w' => e = .returned (.int .u32 (ofLE (bs.take 4) : Nat)) ∧ RI B b (some (bs.drop 4)) w' ∧ Fr (fun k => k = b) w w' := by
  have H := Lib.hid (h.get 4 rfl (by simpa only [lft, Option.getD_some] using hl))
  rw [tk_lit 4 4 rfl h4] at H
  have hx1 : ofLE (bs.take 4) < 4294967296 := by have := ofLE_lt (bs.take 4); rw [List.length_take, Nat.min_eq_left h4] at this; exact this
  generalize ofLE (bs.take 4) = x at *
  have hxm : (x : Int) % 4294967296 = (x : Int) := by omega
  clear h hl h4 hx1
  go_enter Tryd.func27, Tryd.ntmps27
  go_wp2_with fail
  (with_reducible refine H.out.mono ?_); rintro e w1 ⟨rfl, R, f⟩
  clear H
  replace R := Lib.hid R
  go_wp2
  go_ret
  exact ⟨rfl, R.out, f⟩
/-- copy of 32 bytes into a whole hash. -/
theorem run_copy_hash {w : World} {g c : Nat} {a : Addr} {Z : Array Value} {l : List UInt8} {ty : TypeId} (hg : w.heap[g]? = some (.cells Z 24 (0, 0))) (hz : Z.size = 32) (hl : l.length = 32) (hb : Bs w (some a) c l) :
    (Builtin.copy_ #[28, 28] ty #[.slice (some ⟨g, 0, none⟩) 32 32, .slice (some a) 32 c]).run Tryd.prog w = .ok (.int .i64 32) (w.setRow g (l.map B8).toArray) := by
  have key := run_copy_row (P := Tryd.prog) w 28 28 ty 5 g 0 32 32 a 32 c Z 24 (l.map B8) Tryd.underlying28 (by kernel_rfl) hg (by simp [hl]) (fun j v hj => by
      obtain ⟨b', o', e, hc⟩ := hb.cell j v hj
      cases e
      rw [Addr.add_lit]
      exact hc) (by simp [hl, hz]) (by intro v hv; simp only [List.mem_map] at hv; obtain ⟨i, _, rfl⟩ := hv; rfl)
  rw [key]
  have e : (Z.toList.take 0 ++ l.map B8 ++ Z.toList.drop (0 + (l.map B8).length)).toArray = (l.map B8).toArray := by
    rw [List.take_zero, List.nil_append, List.drop_eq_nil_of_le (by simp [hz, hl]), List.append_nil]
  rw [e]
  simp [goInt, hl]
set_option maxRecDepth 100000 in
set_option maxHeartbeats 4000000 in
theorem hNext_any {B b : Nat} {bs : List UInt8} {w : World} (h : RI B b (some bs) w) (hB : B ≤ w.heap.size) (hl : bs.length ≤ 1000000) (h32 : 32 ≤ bs.length) :
    Calls Tryd.prog 28 #[.pointer (some ⟨b, 0, none⟩)] w fun e w' => e = .returned (.agg ((bs.take 32).map B8).toArray) ∧ RI B b (some (bs.drop 32)) w' ∧ Fr (fun k => k = b) w w' := by
  have R := h
  replace hB := Lib.hid hB
  have hL := Lib.hid (show lft (some bs) ≤ 1000000 by simpa only [lft, Option.getD_some] using hl)
  have hT := Lib.hid (tk_lit 32 32 rfl h32)
  have hA := Lib.hid (show (bs.take 32).length = 32 by rw [List.length_take, Nat.min_eq_left h32])
  have hbw := Lib.hid (show b < w.heap.size by obtain ⟨a, hr, _⟩ := h; exact hr.lt)
  have szA : ((bs.take 32).map B8).toArray.size = 32 := by rw [List.size_toArray, List.length_map, hA.out]
  have onA : rowOne ((bs.take 32).map B8).toArray := oneB_map _
  clear h hl h32
  generalize bs.take 32 = L at *
  go_enter Tryd.func28, Tryd.ntmps28
  go_upto_region 1 with fail
  refine wp_new fun W1 N1 => ?_
  have r2 := N1.new
  have F := N1.fr
  replace R := R.fr0 N1.fr
  obtain ⟨g2, hg2⟩ : ∃ g, g = w.heap.size := ⟨_, rfl⟩
  rw [← hg2] at r2 ⊢
  replace hg2 := Lib.hid hg2
  clear N1
  go_upto_region 2 with fail
  refine wp_new fun W2 N2 => ?_
  have r3 := N2.new
  have ne := N2.ne r2
  replace r2 := N2.old r2
  have hs1 := Lib.hid F.size
  replace F := F.trans' N2.fr
  replace R := R.fr0 N2.fr
  obtain ⟨g3, hg3⟩ : ∃ g, g = W1.heap.size := ⟨_, rfl⟩
  rw [← hg3] at r3 ne ⊢
  replace hg3 := Lib.hid hg3
  clear N2
  have hZ : (#[.int .u8 0, .int .u8 0, .int .u8 0, .int .u8 0, .int .u8 0, .int .u8 0, .int .u8 0, .int .u8 0, .int .u8 0, .int .u8 0, .int .u8 0, .int .u8 0, .int .u8 0, .int .u8 0, .int .u8 0, .int .u8 0,
    .int .u8 0, .int .u8 0, .int .u8 0, .int .u8 0, .int .u8 0, .int .u8 0, .int .u8 0, .int .u8 0, .int .u8 0, .int .u8 0, .int .u8 0, .int .u8 0, .int .u8 0, .int .u8 0, .int .u8 0, .int .u8 0] : Array Value).size = 32 := rfl
  generalize (#[.int .u8 0, .int .u8 0, .int .u8 0, .int .u8 0, .int .u8 0, .int .u8 0, .int .u8 0, .int .u8 0, .int .u8 0, .int .u8 0, .int .u8 0, .int .u8 0, .int .u8 0, .int .u8 0, .int .u8 0, .int .u8 0,
    .int .u8 0, .int .u8 0, .int .u8 0, .int .u8 0, .int .u8 0, .int .u8 0, .int .u8 0, .int .u8 0, .int .u8 0, .int .u8 0, .int .u8 0, .int .u8 0, .int .u8 0, .int .u8 0, .int .u8 0, .int .u8 0] : Array Value) = Z at *
  have hb2 := Lib.hid (show g2 ≠ b by have h1 := hg2.out; have h2 := hbw.out; omega)
  have hb3 := Lib.hid (show g3 ≠ b by have h1 := hg3.out; have h2 := hbw.out; have h3 := hs1.out; omega)
  have H := Lib.hid ((R.fr0 ((Fr.refl F0 W2).drew)).raw 32 hL.out)
  rw [hT.out] at H
  clear R
  refine wp_region_noPanic ?_
  refine wp_region_held_drew (S := (fun w' => True)) (by kernel_rfl) ?_ (fun hHeld => ?_)
  · ((try dsimp only) <;> (trivial))
  refine wpAnyH_take (i := 0) (oi := ⟨_, _, _, _, _, _⟩) (v := ?_) rfl (by kernel_rfl) (by kernel_rfl) (by kernel_rfl) (fun _ _ _ h => h) (Or.inl ⟨by rfl, ?_⟩) (by assumption) ?_
  rotate_left
  · intro w hSw; (try dsimp only at hSw); go_simp; (try (with_reducible rfl)); done
  simp only [Act.put, List.setIfInBounds_toArray]; dsimp only [List.set_cons_zero, List.set_cons_succ]
  refine wpAnyH_take (i := 1) (oi := ⟨_, _, _, _, _, _⟩) (v := ?_) rfl (by kernel_rfl) (by kernel_rfl) (by kernel_rfl) (fun _ _ _ h => h) (Or.inl ⟨by rfl, ?_⟩) (by assumption) ?_
  rotate_left
  · intro w hSw; (try dsimp only at hSw); go_simp; (try (with_reducible rfl)); done
  simp only [Act.put, List.setIfInBounds_toArray]; dsimp only [List.set_cons_zero, List.set_cons_succ]
  refine wpAnyH_ready (rs := [2]) (by kernel_rfl) (by simp) ?_
  refine AllReadyH.cons (o := ⟨_, _, _, _, _, _⟩) rfl (fun K hK => ?_) AllReadyH.nil
  go_simp
  ((with_reducible refine H.out.mono ?_); rintro e w6 ⟨a6, c6, rfl, hb6, R, f, k6⟩; clear k6; try simp only at hb6; rw [hA.out]; obtain ⟨b6, o6, rfl, hz⟩ := hb6.at 0 (by rw [hA.out]; omega); clear hz; replace r2 := f.keeps hb2.out (keep_drew r2); replace r3 := f.keeps hb3.out (keep_drew r3); have hc := run_copy_hash (ty := 3) r3 hZ hA.out hb6; replace hb6 := Lib.hid hb6; replace R := Lib.hid R)
  refine hK.out _ _ ?_ (fun hHeld => ?_)
  · ((try dsimp only) <;> (trivial))
  clear hK K
  try (simp only [Act.put, List.setIfInBounds_toArray]; dsimp only [List.set_cons_zero, List.set_cons_succ])
  refine wpAnyH_ready (rs := [3]) (by kernel_rfl) (by simp) ?_
  refine AllReadyH.cons (o := ⟨_, _, _, _, _, _⟩) rfl (fun K hK => ?_) AllReadyH.nil
  go_simp
  refine hK.out _ _ ?_ (fun hHeld => ?_)
  · ((try dsimp only) <;> (trivial))
  clear hK K
  try (simp only [Act.put, List.setIfInBounds_toArray]; dsimp only [List.set_cons_zero, List.set_cons_succ])
  refine wpAnyH_done (by kernel_rfl) ?_ _
  refine NoPanic.normal ?_
  clear H hc
  have HF := Lib.hid f
  clear f
  have q2 := Lib.hid (show w.heap.size ≤ g2 by have h1 := hg2.out; omega)
  have q3 := Lib.hid (show w.heap.size ≤ g3 by have h1 := hg3.out; have h3 := hs1.out; omega)
  go_wp2
  have f3 : Fr (fun k => k = g2 ∨ k = g3) w6 ((w6.setRow g3 (L.map B8).toArray).setRow g2 (L.map B8).toArray) := ((Fr.refl _ w6).setRow (fun _ => Or.inr rfl) _).setRow (fun _ => Or.inl rfl) _
  refine bodyPost_ret (results_cell_row rfl _ _ g2 _ _ _ _ rfl (by rw [heap_setRow_at, heap_setRow_ne _ _ _ _ ne, r2]; rfl) Tryd.underlying24 rfl (by rw [Tryd.szHash, szA])) rfl ⟨rfl, R.out.fr f3 (fun k e => by have h2 := q2.out; have h3 := q3.out; have h4 := hB.out; rcases e with e | e <;> omega), ?_⟩
  exact (((F.drew.mono fun _ _ e => e.elim).trans HF.out fun k _ e => e).setRow (fun e => by have h3 := q3.out; omega) _).setRow (fun e => by have h3 := q2.out; omega) _
set_option maxRecDepth 100000 in
set_option maxHeartbeats 8000000 in
theorem hParse_no (bs : List UInt8) (a : Option Addr) (n c : Nat) (w : World) (hn : ¬ n = 80) : Calls Tryd.prog 10 #[.slice a n c] w fun e w' => e = .returned (.tuple #[.agg zeroHd.cells, .int .i64 2]) ∧ Fr F0 w w' := by
  have l1 : ((n : Int) == 80) = false := beq_false_of_ne (by omega)
  have l2 : ((n : Int) != 80) = true := bne_iff_ne.2 (by omega)
  have l3 : ¬ (n : Int) = 80 := by omega
  have hzb : ∀ w, (buildHd #[]).run Tryd.prog w = .ok (.agg zeroHd.cells) w := fun w => run_buildHd w #[] _ (by kernel_rfl)
  have zz : Tryd.zeroCells26.size = 68 := by kernel_rfl
  have s0 : zeroHd.cells.size = 68 := rfl
  have o0 : rowOne zeroHd.cells := Hd.one
  generalize Tryd.zeroCells26 = Z at *
  generalize zeroHd.cells = C at *
  clear hn
  go_enter Tryd.func10, Tryd.ntmps10
  go_upto_region 1 with fail
  refine wp_new fun W1 N1 => ?_
  have r2 := N1.new
  have F := N1.fr
  obtain ⟨g2, hg2⟩ : ∃ g, g = w.heap.size := ⟨_, rfl⟩
  rw [← hg2] at r2 ⊢
  replace hg2 := Lib.hid hg2
  clear N1
  go_wp2
  refine bodyPost_ret (results_cell_row_tmp rfl _ _ g2 _ _ _ _ rfl (by rw [heap_setRow_at, r2]; rfl) Tryd.underlying26 rfl (by rw [Tryd.szHeader, s0])) rfl ⟨rfl, ?_⟩
  exact F.setRow (fun h => by have := hg2.out; omega) _

set_option maxRecDepth 100000 in
set_option maxHeartbeats 8000000 in
theorem hParse_yes (bs : List UInt8) (a : Option Addr) (c : Nat) (w : World) (hb : Bs w a c bs) (h80 : bs.length = 80) : Calls Tryd.prog 10 #[.slice a 80 c] w fun e w' => e = .returned (.tuple #[.agg (Hd.read bs).cells, .int .i64 0]) ∧ Fr F0 w w' := by
  have HB := Lib.hid hb
  have H80 := Lib.hid h80
  have zz : Tryd.zeroCells26 = zeroHd.cells := by kernel_rfl
  have hA := Lib.hid (show ((bs.drop 4).take 32).length = 32 by simp; omega)
  have hR := Lib.hid (show ((bs.drop 36).take 32).length = 32 by simp; omega)
  have hld : ∀ k, (bs.drop k).length ≤ 1000000 := fun k => by simp; omega
  replace hld := Lib.hid hld
  have hge : ∀ k n, k + n ≤ 80 → n ≤ (bs.drop k).length := fun k n h => by simp; omega
  replace hge := Lib.hid hge
  clear hb h80
  go_enter Tryd.func10, Tryd.ntmps10
  go_wp2_with fail
  refine calls_new fun W1 N1 => ?_
  have r2 := N1.new
  have F := N1.fr
  obtain ⟨g2, hg2⟩ : ∃ g, g = w.heap.size := ⟨_, rfl⟩
  rw [← hg2] at r2 ⊢
  replace hg2 := Lib.hid hg2
  clear N1
  have z2 := Lib.hid (Array.getElem?_eq_some_iff.1 r2).1
  have HRd := Lib.hid (Read_any a 80 c bs W1 (Sl.fr HB.out F fun _ _ f => f) H80.out.symm (by have := H80.out; omega))
  refine HRd.out.mono ?_
  intro e w3 h3
  obtain ⟨b, rfl, R, f, hbW⟩ := RI.of h3
  clear h3 HRd
  have hb2 : g2 ≠ b := by have := z2.out; omega
  replace r2 := keep_fr f r2
  have hbw : w.heap.size ≤ b := Nat.le_trans F.size hbW
  replace F := F.trans' f
  go_upto_region 5 with fail
  refine wp_new fun W5 N5 => ?_
  have r5 := N5.new
  have ne5 := N5.ne r2
  have hB5 := Lib.hid (show w3.heap.size ≤ w3.heap.size from Nat.le_refl _)
  have hb5 : b < w3.heap.size := by obtain ⟨_, _, h, _⟩ := R; exact h
  replace r2 := N5.old r2
  replace F := F.trans' N5.fr
  replace R := R.fr0 N5.fr
  clear N5
  obtain ⟨g5, hg5⟩ : ∃ g, g = w3.heap.size := ⟨_, rfl⟩
  rw [← hg5] at r5 ne5 R hb5 ⊢
  have hgw := Lib.hid (show w.heap.size ≤ g5 by have h1 := hbw; omega)
  have hne := Lib.hid (show g5 ≠ b by omega)
  replace hb2 := Lib.hid hb2
  replace ne5 := Lib.hid ne5
  replace hbw := Lib.hid hbw
  clear hg5 hB5 hb5
  have L0 : zeroHd.L := ⟨rfl, rfl⟩
  obtain ⟨h0, hh0⟩ : ∃ h0, h0 = zeroHd := ⟨_, rfl⟩
  rw [← hh0] at r5
  rw [← hh0] at L0
  replace hh0 := Lib.hid hh0
  have s5 := Hd.sizeL L0
  have R0 : RI g5 b (some (bs.drop 0)) W5 := R
  clear R
  have R := R0
  clear R0
  have H := Lib.hid (hNum_any R (hld.out _) (hge.out _ _ (by omega)))
  go_wp2_with fail
  (with_reducible refine H.out.mono ?_); rintro e w6 ⟨rfl, R', f⟩
  clear R
  have R := R'
  clear R'
  replace r2 := f.keeps hb2.out r2
  replace r5 := f.keeps hne.out r5
  replace F := F.trans f fun i hi e => by have h1 := hbw.out; omega
  clear f H
  rw [List.drop_drop] at R
  simp only [Nat.reduceAdd] at R
  obtain ⟨x, ex⟩ : ∃ x, x = ofLE ((bs.drop 0).take 4) := ⟨_, rfl⟩
  rw [← ex]
  replace ex := Lib.hid ex
  go_wp2_with fail
  refine calls_cell r5 fun W1 r5' f => ?_
  rw [Hd.set0] at r5'
  clear r5
  obtain ⟨h1, hh1⟩ : ∃ h : Hd, h = { h0 with ver := x } := ⟨_, rfl⟩
  rw [← hh1] at r5'
  have L1 : h1.L := by rw [hh1]; exact L0
  clear s5
  have s5 := Hd.sizeL L1
  have r5 := r5'
  clear r5'
  replace hh1 := Lib.hid hh1
  replace R := R.fr f fun k e => Nat.le_of_eq e.symm
  replace r2 := f.keeps ne5.out r2
  replace F := F.trans f fun i hi e => by have h1 := hgw.out; omega
  clear f
  have H := Lib.hid (hNext_any R (Nat.le_of_lt (Array.getElem?_eq_some_iff.1 r5).1) (hld.out _) (hge.out _ _ (by omega)))
  (with_reducible refine H.out.mono ?_); rintro e w6 ⟨rfl, R', f⟩
  clear R
  have R := R'
  clear R'
  replace r2 := f.keeps hb2.out r2
  replace r5 := f.keeps hne.out r5
  replace F := F.trans f fun i hi e => by have h1 := hbw.out; omega
  clear f H
  rw [List.drop_drop] at R
  simp only [Nat.reduceAdd] at R
  have szA : (((bs.drop 4).take 32).map B8).toArray.size = 32 := by simp only [List.size_toArray, List.length_map]; exact hA.out
  have onA : rowOne (((bs.drop 4).take 32).map B8).toArray := oneB_map _
  generalize eA : (bs.drop 4).take 32 = A at *
  replace eA := Lib.hid eA
  go_wp2_with fail
  clear szA onA
  refine calls_row r5 fun W1 r5' f => ?_
  rw [Hd.put1 L1 A hA.out] at r5'
  clear r5
  obtain ⟨h2, hh2⟩ : ∃ h : Hd, h = { h1 with ahead := A } := ⟨_, rfl⟩
  rw [← hh2] at r5'
  have L2 : h2.L := by rw [hh2]; exact ⟨hA.out, L1.2⟩
  clear s5
  have s5 := Hd.sizeL L2
  have r5 := r5'
  clear r5'
  replace hh2 := Lib.hid hh2
  replace R := R.fr f fun k e => Nat.le_of_eq e.symm
  replace r2 := f.keeps ne5.out r2
  replace F := F.trans f fun i hi e => by have h1 := hgw.out; omega
  clear f
  have H := Lib.hid (hNext_any R (Nat.le_of_lt (Array.getElem?_eq_some_iff.1 r5).1) (hld.out _) (hge.out _ _ (by omega)))
  (with_reducible refine H.out.mono ?_); rintro e w6 ⟨rfl, R', f⟩
  clear R
  have R := R'
  clear R'
  replace r2 := f.keeps hb2.out r2
  replace r5 := f.keeps hne.out r5
  replace F := F.trans f fun i hi e => by have h1 := hbw.out; omega
  clear f H
  rw [List.drop_drop] at R
  simp only [Nat.reduceAdd] at R
  have szA : (((bs.drop 36).take 32).map B8).toArray.size = 32 := by simp only [List.size_toArray, List.length_map]; exact hR.out
  have onA : rowOne (((bs.drop 36).take 32).map B8).toArray := oneB_map _
  generalize eR0 : (bs.drop 36).take 32 = R0 at *
  replace eR0 := Lib.hid eR0
  go_wp2_with fail
  clear szA onA
  refine calls_row r5 fun W1 r5' f => ?_
  rw [Hd.put33 L2 R0 hR.out] at r5'
  clear r5
  obtain ⟨h3, hh3⟩ : ∃ h : Hd, h = { h2 with root := R0 } := ⟨_, rfl⟩
  rw [← hh3] at r5'
  have L3 : h3.L := by rw [hh3]; exact ⟨L2.1, hR.out⟩
  clear s5
  have s5 := Hd.sizeL L3
  have r5 := r5'
  clear r5'
  replace hh3 := Lib.hid hh3
  replace R := R.fr f fun k e => Nat.le_of_eq e.symm
  replace r2 := f.keeps ne5.out r2
  replace F := F.trans f fun i hi e => by have h1 := hgw.out; omega
  clear f
  have H := Lib.hid (hNum_any R (hld.out _) (hge.out _ _ (by omega)))
  (with_reducible refine H.out.mono ?_); rintro e w6 ⟨rfl, R', f⟩
  clear R
  have R := R'
  clear R'
  replace r2 := f.keeps hb2.out r2
  replace r5 := f.keeps hne.out r5
  replace F := F.trans f fun i hi e => by have h1 := hbw.out; omega
  clear f H
  rw [List.drop_drop] at R
  simp only [Nat.reduceAdd] at R
  obtain ⟨t, et⟩ : ∃ x, x = ofLE ((bs.drop 68).take 4) := ⟨_, rfl⟩
  rw [← et]
  replace et := Lib.hid et
  go_wp2_with fail
  refine calls_cell r5 fun W1 r5' f => ?_
  rw [Hd.set65 L3] at r5'
  clear r5
  obtain ⟨h4, hh4⟩ : ∃ h : Hd, h = { h3 with time := t } := ⟨_, rfl⟩
  rw [← hh4] at r5'
  have L4 : h4.L := by rw [hh4]; exact L3
  clear s5
  have s5 := Hd.sizeL L4
  have r5 := r5'
  clear r5'
  replace hh4 := Lib.hid hh4
  replace R := R.fr f fun k e => Nat.le_of_eq e.symm
  replace r2 := f.keeps ne5.out r2
  replace F := F.trans f fun i hi e => by have h1 := hgw.out; omega
  clear f
  have H := Lib.hid (hNum_any R (hld.out _) (hge.out _ _ (by omega)))
  (with_reducible refine H.out.mono ?_); rintro e w6 ⟨rfl, R', f⟩
  clear R
  have R := R'
  clear R'
  replace r2 := f.keeps hb2.out r2
  replace r5 := f.keeps hne.out r5
  replace F := F.trans f fun i hi e => by have h1 := hbw.out; omega
  clear f H
  rw [List.drop_drop] at R
  simp only [Nat.reduceAdd] at R
  obtain ⟨u, eu⟩ : ∃ x, x = ofLE ((bs.drop 72).take 4) := ⟨_, rfl⟩
  rw [← eu]
  replace eu := Lib.hid eu
  go_wp2_with fail
  refine calls_cell r5 fun W1 r5' f => ?_
  rw [Hd.set66 L4] at r5'
  clear r5
  obtain ⟨h5, hh5⟩ : ∃ h : Hd, h = { h4 with bits := u } := ⟨_, rfl⟩
  rw [← hh5] at r5'
  have L5 : h5.L := by rw [hh5]; exact L4
  clear s5
  have s5 := Hd.sizeL L5
  have r5 := r5'
  clear r5'
  replace hh5 := Lib.hid hh5
  replace R := R.fr f fun k e => Nat.le_of_eq e.symm
  replace r2 := f.keeps ne5.out r2
  replace F := F.trans f fun i hi e => by have h1 := hgw.out; omega
  clear f
  have H := Lib.hid (hNum_any R (hld.out _) (hge.out _ _ (by omega)))
  (with_reducible refine H.out.mono ?_); rintro e w6 ⟨rfl, R', f⟩
  clear R
  have R := R'
  clear R'
  replace r2 := f.keeps hb2.out r2
  replace r5 := f.keeps hne.out r5
  replace F := F.trans f fun i hi e => by have h1 := hbw.out; omega
  clear f H
  rw [List.drop_drop] at R
  simp only [Nat.reduceAdd] at R
  obtain ⟨v, ev⟩ : ∃ x, x = ofLE ((bs.drop 76).take 4) := ⟨_, rfl⟩
  rw [← ev]
  replace ev := Lib.hid ev
  have hfin : ({ h5 with nonce := v } : Hd) = Hd.read bs := by
    rw [hh5.out, hh4.out, hh3.out, hh2.out, hh1.out, hh0.out, ← eA.out, ← eR0.out, ex.out, et.out, eu.out, ev.out]
    rfl
  have hset := Hd.set67 L5 v
  rw [hfin] at hset
  have sF := Hd.cells_size (Hd.read_ok H80.out)
  have oF : rowOne (Hd.read bs).cells := Hd.one
  have n1 := ne5.out
  have n2 : g5 ≠ g2 := fun e => n1 e.symm
  have s2 : zeroHd.cells.size = 68 := rfl
  have r3 : (w6.setCell ⟨g5, 67, none⟩ (.int .u32 (v : Int))).heap[g2]? = some (.cells zeroHd.cells 26 (0, 0)) := by rw [heap_setCell_ne' _ _ _ _ _ n1]; exact r2
  clear hfin
  go_wp2
  refine bodyPost_ret (results_cell_row_tmp rfl _ _ g2 _ _ _ _ rfl (by rw [heap_setRow_at, r3]; rfl) Tryd.underlying26 rfl (by rw [Tryd.szHeader, sF])) rfl ⟨rfl, ?_⟩
  exact (F.setCell (p := ⟨g5, 67, none⟩) (fun h => by have h1 := hgw.out; exact absurd h (by simp only; omega)) _).setRow (fun h => by have := hg2.out; omega) _
theorem hParseC : HParseC := fun bs a c w hb hl => ⟨fun h => (hParse_yes bs a c w hb h).mono fun e w' ⟨he, f⟩ => ⟨Hd.read bs, Hd.read_ok h, Hd.read_bytes h, he, f⟩, fun h => hParse_no bs a bs.length c w h⟩
end Go.Proofs.YtdihahegmfdccaaDoor
