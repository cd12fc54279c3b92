import Derived.Test.YtaobgaoldfeehaaDoorZb12
import Derived.Lib.AppendStr
/- Layer 9 (tx): the document's Write. -/
namespace Go.Proofs.YtaobgaoldfeehaaDoor
set_option linter.unusedVariables false
set_option linter.unusedSimpArgs false
open Go.RowKit

def appBB (ty : TypeId) (args : Array Value) : Sem Value := Builtin.append_ #[29, 29] ty args
@[go_sem ↓ high] theorem app_BB (ty : TypeId) (args : Array Value) : Builtin.append_ #[29, 29] ty args = appBB ty args := rfl
def appBS (ty : TypeId) (args : Array Value) : Sem Value := Builtin.append_ #[29, 9] ty args
@[go_sem ↓ high] theorem app_BS (ty : TypeId) (args : Array Value) : Builtin.append_ #[29, 9] ty args = appBS ty args := rfl

/-- Bytes of one's own, since a world; P: which blocks may be theirs. -/
structure Bw (w0 : World) (P : Nat → Prop) (a : Option Addr) (n c : Nat) (bs : List UInt8) (w : World) : Prop where
  own : OwnB w (.slice a n c) bs
  fr : Fr F0 w0 w
  new : ∀ k, ablk a = some k → P k
theorem own_base {w : World} {e size n B : Nat} {v : Value} {xs : List Value} (h : w.ownsRow 0 e size v n xs) (hb : ∀ k, v.ownBlock = some k → B ≤ k) : w.ownsRow B e size v n xs := by
  refine ⟨h.1, ?_⟩
  rcases h.2 with hn | ⟨g, cap, cur, rfl, _, hg, r⟩
  · exact .inl hn
  · exact .inr ⟨g, cap, cur, rfl, hb g rfl, hg, r⟩
theorem own_base0 {w : World} {e size n B : Nat} {v : Value} {xs : List Value} (h : w.ownsRow B e size v n xs) : w.ownsRow 0 e size v n xs := by
  refine ⟨h.1, ?_⟩
  rcases h.2 with hn | ⟨g, cap, cur, rfl, _, hg, r⟩
  · exact .inl hn
  · exact .inr ⟨g, cap, cur, rfl, Nat.zero_le _, hg, r⟩
theorem own_low {w : World} {e size n B : Nat} {v : Value} {xs : List Value} (h : w.ownsRow B e size v n xs) : ∀ k, v.ownBlock = some k → B ≤ k := by
  intro k hk
  rcases h.2 with ⟨rfl, _⟩ | ⟨g, cap, cur, rfl, hb, hg, r⟩
  · cases hk
  · cases hk; exact hb
theorem Bw.fr0 {w0 w w' : World} {P : Nat → Prop} {a : Option Addr} {n c : Nat} {bs : List UInt8} (h : Bw w0 P a n c bs w) (f : Fr F0 w w') : Bw w0 P a n c bs w' := ⟨h.own.fr f fun _ _ f => f, h.fr.trans' f, h.new⟩
theorem Bw.len {w0 w : World} {P : Nat → Prop} {a : Option Addr} {n c : Nat} {bs : List UInt8} (h : Bw w0 P a n c bs w) : n = bs.length := h.own.bs.1
theorem Bw.lt {w0 w : World} {P : Nat → Prop} {a : Option Addr} {n c : Nat} {bs : List UInt8} (h : Bw w0 P a n c bs w) : ∀ k, ablk a = some k → k < w.heap.size := fun k hk => h.own.lt k (by rw [ablk_own]; exact hk)
theorem Bw.with {w0 w : World} {P Q : Nat → Prop} {a : Option Addr} {n c : Nat} {bs : List UInt8} (h : Bw w0 P a n c bs w) (hq : ∀ k, ablk a = some k → P k → Q k) : Bw w0 Q a n c bs w := ⟨h.own, h.fr, fun k hk => hq k hk (h.new k hk)⟩
theorem Bw.app {w0 w : World} {P : Nat → Prop} {a : Option Addr} {n c : Nat} {bs : List UInt8} (h : Bw w0 P a n c bs w) (hp0 : ∀ k, P k → w0.heap.size ≤ k) (hp : ∀ k, w.heap.size ≤ k → P k) {ad : Option Addr} {m cx : Nat} {xs : List UInt8} (hx : Bs w ad cx xs) (hm : m = xs.length) (hl : bs.length + xs.length ≤ 1000000) :
    ∃ a' n' c' w', (appBB 29 #[.slice a n c, .slice ad m cx]).run Tryd.prog w = .ok (.slice a' n' c') w' ∧ Bw w0 P a' n' c' (bs ++ xs) w' ∧ Fr P w w' := by
  subst hm
  obtain ⟨i0, hi, hz0, hz1, hz2⟩ := info_parts Tryd.infoU8
  have hn := h.len
  subst hn
  obtain ⟨v', w', hrun, hown, hg, hnw⟩ := run_app (P := Tryd.prog) (w := w) 29 29 5 i0 (.int .u8 0) 1 1 Tryd.underlying29 hi hz0 hz1 hz2 rfl (by decide) (.slice a bs.length c) bs.length _ h.own ad cx xs.length _ hx Bs.one (by unfold maxLen; omega) (by omega)
  obtain ⟨a', c', rfl⟩ := own_slice hown
  have hf : Fr P w w' := (Fr.refl P w).grown hg fun k hk _ => by rw [ablk_own] at hk; exact h.new k hk
  refine ⟨a', _, c', w', hrun, ⟨by simpa [OwnB] using hown, h.fr.trans hf fun i hi e => by have := hp0 i e; omega, fun k hk => ?_⟩, hf⟩
  rcases hnw k (by rw [ablk_own]; exact hk) with e | e
  · rw [ablk_own] at e; exact h.new k e
  · exact hp k e
theorem Bw.appS {w0 w : World} {P : Nat → Prop} {a : Option Addr} {n c : Nat} {bs : List UInt8} (h : Bw w0 P a n c bs w) (hp0 : ∀ k, P k → w0.heap.size ≤ k) (hp : ∀ k, w.heap.size ≤ k → P k) (xs : List UInt8) (hl : bs.length + xs.length ≤ 1000000) :
    ∃ a' n' c' w', (appBS 29 #[.slice a n c, .string (strOf xs)]).run Tryd.prog w = .ok (.slice a' n' c') w' ∧ Bw w0 P a' n' c' (bs ++ xs) w' ∧ Fr P w w' := by
  obtain ⟨i0, hi, hz0, hz1, hz2⟩ := info_parts Tryd.infoU8
  have hn := h.len
  subst hn
  cases a with
  | none =>
    have ho := own_base (B := w.heap.size) h.own fun k hk => by cases hk
    obtain ⟨v', w', hrun, hown, hg, _⟩ := Lib.run_append_own_string (P := Tryd.prog) (w := w) w.heap.size 29 9 29 5 i0 Tryd.underlying29 Tryd.underlying9 hi hz0 hz1 hz2 _ _ _ ho (strOf xs) (by rw [strOf_size]; unfold maxLen; omega) (by rw [strOf_size]; omega) (Nat.le_refl _)
    rw [strOf_size] at hown
    obtain ⟨a', c', rfl⟩ := own_slice hown
    have hf : Fr P w w' := (Fr.refl P w).grown hg fun k hk _ => by cases hk
    refine ⟨a', _, c', w', hrun, ⟨?_, h.fr.trans hf fun i hi e => by have := hp0 i e; omega, fun k hk => hp k (own_low hown k (by rw [ablk_own]; exact hk))⟩, hf⟩
    have := own_base0 hown
    have e : Lib.strCells (strOf xs) = xs.map B8 := rfl
    rw [e] at this
    simpa [OwnB] using this
  | some ad =>
    have ho := own_base (B := min ad.block w.heap.size) h.own fun k hk => by cases hk; omega
    obtain ⟨v', w', hrun, hown, hg, _⟩ := Lib.run_append_own_string (P := Tryd.prog) (w := w) (min ad.block w.heap.size) 29 9 29 5 i0 Tryd.underlying29 Tryd.underlying9 hi hz0 hz1 hz2 _ _ _ ho (strOf xs) (by rw [strOf_size]; unfold maxLen; omega) (by rw [strOf_size]; omega) (by omega)
    rw [strOf_size] at hown
    obtain ⟨a', c', rfl⟩ := own_slice hown
    have hf : Fr P w w' := (Fr.refl P w).grown hg fun k hk _ => by rw [ablk_own] at hk; exact h.new k hk
    refine ⟨a', _, c', w', hrun, ⟨?_, h.fr.trans hf fun i hi e => by have := hp0 i e; omega, fun k hk => ?_⟩, hf⟩
    · have := own_base0 hown
      have e : Lib.strCells (strOf xs) = xs.map B8 := rfl
      rw [e] at this
      simpa [OwnB] using this
    · rcases h.own.2 with ⟨e, _⟩ | ⟨g, cap, cur, e, hbg, hg', hnc, hcm, hcs, htake⟩
      · cases e
      · cases e
        have hcs' : cur.size = c := by simpa using hcs
        by_cases hroom : bs.length + (strOf xs).size ≤ c
        · have hr := Lib.run_append_room_string (P := Tryd.prog) w 29 9 29 5 i0 Tryd.underlying29 Tryd.underlying9 hi hz1 g bs.length c cur hg' (strOf xs) hroom (by omega)
          rw [hr] at hrun
          cases hrun
          exact h.new k hk
        · rw [strOf_size] at hroom
          have hcells : ∀ j u, (bs.map B8)[j]? = some u → w.cell? ((⟨g, 0, none⟩ : Addr).add j) = some u := h.own.cells (g := g) rfl
          have hr := Lib.run_append_grow_string (P := Tryd.prog) w 29 9 29 5 i0 (.int .u8 0) Tryd.underlying29 Tryd.underlying9 hi hz0 ⟨g, 0, none⟩ bs.length c (bs.map B8) (by rw [hz1]; simp) hcells (strOf xs) (by rw [strOf_size]; omega) (by rw [strOf_size]; omega) (by rw [hz2, strOf_size]; exact growslice_fits (by omega) (by omega))
          rw [hr] at hrun
          cases hrun
          cases hk
          exact hp _ (Nat.le_refl _)
theorem Bw.of {w0 w w' : World} {e : Ending} {bs : List UInt8} (f : Fr F0 w0 w) (h : NewOwn bs w e w') : ∃ a n c, e = .returned (.slice a n c) ∧ Bw w0 (fun k => w0.heap.size ≤ k) a n c bs w' := by
  obtain ⟨a, c, rfl, ho, hf, hn⟩ := h
  exact ⟨a, _, c, rfl, ho, f.trans' hf, fun k hk => Nat.le_trans f.size (hn k hk)⟩
theorem refPut4 (x : Nat) (w : World) (hx : x < 18446744073709551616) : Calls Tryd.prog 21 #[.int .u64 (x : Int), .int .i64 4] w (NewOwn (le 4 x) w) := refPut_own x 4 w hx (by omega)
theorem refPut8 (x : Nat) (w : World) (hx : x < 18446744073709551616) : Calls Tryd.prog 21 #[.int .u64 (x : Int), .int .i64 8] w (NewOwn (le 8 x) w) := refPut_own x 8 w hx (by omega)
/-- New bytes, as a walk takes them. -/
def NewB (bs : List UInt8) (w : World) (e : Ending) (w' : World) : Prop := ∃ a n c, e = .returned (.slice a n c) ∧ n = bs.length ∧ Bs w' a c bs ∧ Fr F0 w w'
theorem NewBytes.b {bs : List UInt8} {w : World} {e : Ending} {w' : World} (h : NewBytes bs w e w') : NewB bs w e w' := by
  obtain ⟨a, c, rfl, hb, f, _⟩ := h
  exact ⟨a, _, c, rfl, rfl, hb, f⟩
theorem putB4 (x : Nat) (w : World) (hx : x < 18446744073709551616) : Calls Tryd.prog 21 #[.int .u64 (x : Int), .int .i64 4] w (NewB (le 4 x) w) := (refPut4 x w hx).mono fun _ _ h => h.new.b
theorem putB8 (x : Nat) (w : World) (hx : x < 18446744073709551616) : Calls Tryd.prog 21 #[.int .u64 (x : Int), .int .i64 8] w (NewB (le 8 x) w) := (refPut8 x w hx).mono fun _ _ h => h.new.b
theorem countB (x : Nat) (w : World) (hx : x < 18446744073709551616) : Calls Tryd.prog 22 #[.int .u64 (x : Int)] w (NewB (cnt x) w) := (refCount_any x w hx).mono fun _ _ h => h.b

/-- A transaction's input's cells on the document's side, by what a walk asks of them. -/
structure RC (x : MI) (C : Array Value) : Prop where
  size : C.size = 35
  c32 : C[32]? = some (.int .u64 (x.ix : Int))
  c33 : C[33]? = some (.int .u64 (x.sq : Int))
  c34 : C[34]? = some (.string (strOf x.ky))
  byte : ∀ j, j < 32 → C[j]? = some (.int .u8 ((x.fr.getD j 0).toNat : Int))
  one : rowOne C
theorem MI.cellsR {x : MI} (h : x.Ok) : RC x x.row.toArray := by
  have e := h.fr
  refine ⟨by simp [MI.row, e], by simp [MI.row, e], by simp [MI.row, List.getElem?_append, e], by simp [MI.row, List.getElem?_append, e], fun j hj => ?_, MI.one x⟩
  have hj' : j < x.fr.length := by omega
  simp [MI.row, List.getElem?_append, hj', B8, List.getD, List.getElem?_eq_getElem hj', e, hj]

set_option maxRecDepth 100000 in
set_option maxHeartbeats 16000000 in
theorem r9Write_any (r : RT) (w : World) (h : r.Ok w) (hs : r.m.small = true) : Calls Tryd.prog 9 #[.agg r.cells] w (NewB r.m.bytes w) := by
  rw [MT.small, decide_eq_true_iff] at hs
  obtain ⟨s1, s2, s3, s4⟩ := hs
  obtain ⟨hv, ht, hi, ho⟩ := h
  obtain ⟨⟨vr, ins, outs, lt⟩, ia, ic, oa, oc⟩ := r
  simp only [RT.cells, MT.bytes] at *
  have HI := Lib.hid hi
  have HO := Lib.hid ho
  have S3 := Lib.hid s3
  have S4 := Lib.hid s4
  have rI := hi.sl.room
  have rO := ho.sl.room
  have mI := hi.most
  have mO := ho.most
  clear hi ho s3 s4
  obtain ⟨TB, hTB⟩ : ∃ TB, TB = le 4 vr ++ (cnt ins.length ++ (ins.flatMap MI.bytes ++ (cnt outs.length ++ (outs.flatMap MO.bytes ++ le 4 lt)))) := ⟨_, rfl⟩
  rw [← hTB]
  obtain ⟨n, hn⟩ : ∃ n, n = ins.length := ⟨_, rfl⟩
  obtain ⟨m, hm⟩ : ∃ n, n = outs.length := ⟨_, rfl⟩
  rw [← hn] at s1 rI mI hTB ⊢
  rw [← hm] at s2 rO mO hTB ⊢
  replace hTB := Lib.hid hTB
  replace hn := Lib.hid hn
  replace hm := Lib.hid hm
  have HP := Lib.hid (fun w => refPut4 vr w (by omega))
  have HC := Lib.hid (fun w => countB n w (by omega))
  go_enter Tryd.func9, Tryd.ntmps9
  go_upto_region 1 with fail
  refine wp_new fun W1 N1 => ?_
  have r1 := N1.new
  have f1 := Lib.hid N1.fr
  have g01 := Lib.hid (show w.heap.size < W1.heap.size from (Array.getElem?_eq_some_iff.1 r1).1)
  clear N1
  obtain ⟨b0, hb0⟩ : ∃ g, g = w.heap.size := ⟨_, rfl⟩
  rw [← hb0] at r1 g01 ⊢
  clear hb0
  go_wp2_with fail
  (with_reducible refine (HP.out _).mono ?_); rintro e w2 hr
  obtain ⟨a2, n2, c2, rfl, B2⟩ := Bw.of (Fr.refl F0 W1) hr
  have r0 := keep_fr B2.fr r1
  clear hr HP
  go_wp2_with fail
  (with_reducible refine (HC.out _).mono ?_); rintro e w3 ⟨a3, n3, c3, rfl, hn3, hb3, f3⟩
  have hl4 : (le 4 vr).length = 4 := le_length 4 vr
  have hcn := csz_le n
  obtain ⟨a4, n4, c4, w4, happ, B4, _⟩ := (B2.fr0 f3).app (fun k h => h) (fun k h => Nat.le_trans (Nat.le_trans B2.fr.size f3.size) h) hb3 hn3 (by rw [cnt_length]; omega)
  replace r0 := keep_fr B4.fr r1
  have hPL : (le 4 vr ++ cnt n).length ≤ 13 := by simp only [List.length_append, cnt_length]; omega
  obtain ⟨PL, hPLe⟩ : ∃ PL, PL = le 4 vr ++ cnt n := ⟨_, rfl⟩
  rw [← hPLe] at B4 hPL
  have HPL := Lib.hid (And.intro hPL hPLe)
  clear hPL hPLe hl4 hcn B2 hb3 f3 HC hn3
  go_wp2_with fail
  replace f1 := Lib.hid (And.intro f1.out g01.out)
  clear g01
  go_loopw [3, 22] (fun ov iv wr => ∃ (k : Nat) (a : Option Addr) (l c : Nat), k ≤ n ∧ iv = .int .i64 (k : Int) ∧ ov = .slice a l c ∧ Bw W1 (fun k => W1.heap.size ≤ k) a l c (PL ++ (ins.take k).flatMap MI.bytes) wr) (fun _ iv _ => n - (intOf iv).toNat)
  case atStart => exact ⟨0, a4, n4, c4, Nat.zero_le _, rfl, rfl, by simpa using B4⟩
  case round =>
    obtain ⟨k, a, l, c, hk, rfl, rfl, hB⟩ := hrel
    clear B4 happ r0
    have r0 := keep_fr hB.fr r1
    by_cases hkn : k < n
    · have hkl : k < ins.length := by have := hn.out; omega
      obtain ⟨bb, off, rfl, hc⟩ := (HI.out.fr (f1.out.1.trans' hB.fr)).get k hkl
      have hok := HI.out.ok _ (List.getElem_mem hkl)
      have hl := load_rin_at (w := wr) (b := bb) (o := off + k * 35) hok hc
      have HE := Lib.hid (flat_take MI.bytes ins k hkl)
      have hlen : ((ins.take k).flatMap MI.bytes).length ≤ k * 700 := by
        have := flat_len MI.bytes 700 (ins.take k) fun x hx => MI.len (HI.out.ok x (List.mem_of_mem_take hx)) (S3.out x (List.mem_of_mem_take hx))
        rw [List.length_take, Nat.min_eq_left (by omega)] at this
        exact this
      have hxk := S3.out _ (List.getElem_mem hkl)
      obtain ⟨x, hx⟩ : ∃ x, x = ins[k] := ⟨_, rfl⟩
      rw [← hx] at hl hok HE hxk
      clear hc hx
      have K := MI.cellsR hok
      have sz := K.size
      have o1 := K.one
      have c32 := K.c32
      have c33 := K.c33
      have c34 := K.c34
      have HBy := Lib.hid K.byte
      clear K
      obtain ⟨X, hX⟩ : ∃ X, X = x.row.toArray := ⟨_, rfl⟩
      rw [← hX] at hl sz o1 c32 c33 c34 HBy
      clear hX
      have d32 := cell_is c32 (by omega)
      have d33 := cell_is c33 (by omega)
      have d34 := cell_is c34 (by omega)
      obtain ⟨fr, ix, ky, sq⟩ := x
      have hfr := hok.fr
      have hix := hok.ix
      have hsq := hok.sq
      simp only [MI.bytes] at *
      clear hok
      obtain ⟨QL, hQL⟩ : ∃ QL, QL = PL ++ (ins.take k).flatMap MI.bytes := ⟨_, rfl⟩
      have hB' : Bw W1 (fun k => W1.heap.size ≤ k) a l c QL wr := by rw [hQL]; exact hB
      have hQ : QL.length ≤ 100000 := by have := HPL.out.1; rw [hQL, List.length_append]; omega
      replace hQL := Lib.hid (And.intro hQL hQ)
      have H1 := Lib.hid (fun w => putB4 ix w (by omega))
      have H2 := Lib.hid (fun w => countB ky.length w (by omega))
      have H3 := Lib.hid (fun w => putB4 sq w (by omega))
      have hks := strOf_size ky
      obtain ⟨kn, hkn2⟩ : ∃ n, n = ky.length := ⟨_, rfl⟩
      rw [← hkn2] at hks H2 hxk
      replace hkn2 := Lib.hid hkn2
      clear hB hlen hQ
      have l3 : (k : Int) < (n : Int) := by omega
      go_upto_region 6 with fail
      refine wp_put fun W5 N5 => ?_
      have r5 := N5.new
      have B5 := hB'.fr0 N5.fr
      replace r0 := keep_fr B5.fr r1
      obtain ⟨g5, hg5⟩ : ∃ g, g = wr.heap.size := ⟨_, rfl⟩
      have hlt := hB'.lt
      rw [← hg5] at r5 hlt ⊢
      have B6 := B5.with (Q := fun k => W1.heap.size ≤ k ∧ k ≠ g5) fun k hk h => ⟨h, by have := hlt k hk; omega⟩
      have hg5l := Lib.hid (Array.getElem?_eq_some_iff.1 r5).1
      clear N5 hl hB' B5 hlt hg5
      go_wp2_with fail
      go_loopw [3, 26] (fun ov iv wr => ∃ (j : Nat) (a : Option Addr) (l c : Nat), j ≤ 32 ∧ iv = .int .i64 (j : Int) ∧ ov = .slice a l c ∧ Bw W1 (fun k => W1.heap.size ≤ k ∧ k ≠ g5) a l c (QL ++ fr.take j) wr ∧ wr.heap[g5]? = some (.cells X 62 (0, 0)) ∧ Hid (g5 < wr.heap.size)) (fun _ iv _ => 32 - (intOf iv).toNat)
      case atStart => exact ⟨0, a, l, c, Nat.zero_le _, rfl, rfl, by simpa using B6, r5, hg5l.out⟩
      case round =>
        obtain ⟨j, a, l, c, hj, rfl, rfl, hB, r5, hg⟩ := hrel
        clear B6 hg5l r0
        have r0 := keep_fr hB.fr r1
        by_cases hj32 : j < 32
        · have cj := HBy.out j hj32
          have dj := cell_is cj (by omega)
          have hT := Lib.hid (take_succ_getD fr j (by omega))
          obtain ⟨y, hy⟩ : ∃ y, y = fr.getD j 0 := ⟨_, rfl⟩
          rw [← hy] at cj dj hT
          clear hy
          have hB1 := hB.fr0 ((Fr.refl F0 wr).alloc (.cells #[.int .u8 (y.toNat : Int)] 5))
          obtain ⟨a7, n7, c7, w7, happ, B7, f7⟩ := hB1.app (m := 1) (fun k h => h.1) (fun k h => by rw [World.size_alloc] at h; have h1 := hB.fr.size; have h2 := hg.out; exact ⟨by omega, by omega⟩) (one_B8 wr y 5) rfl (by have := hQL.out.2; simp only [List.length_append, List.length_take, List.length_cons, List.length_nil]; omega)
          have r57 := f7.keeps (fun e => e.2 rfl) (keep_alloc (o := .cells #[.int .u8 (y.toNat : Int)] 5) r5)
          have hg7 := Lib.hid (Nat.lt_of_lt_of_le hg.out (Nat.le_trans (by simp) f7.size))
          have lj : (j : Int) < 32 := by omega
          clear hB hB1 f7
          go_wp2_with fail
          go_roundw
          case rel => exact ⟨j + 1, a7, n7, c7, by omega, by go_num, rfl, by rw [hT.out, ← List.append_assoc]; exact B7, r57, hg7.out⟩
          case measure => simp [intOf]; omega
        · have ej : fr.take j = fr := List.take_of_length_le (by omega)
          rw [ej] at hB
          have lj : ¬ (j : Int) < 32 := by omega
          clear ej
          go_wp2_with fail
          (with_reducible refine (H1.out _).mono ?_); rintro e w6 ⟨a6, n6, c6, rfl, hn6, hb6, f6⟩
          obtain ⟨a7, n7, c7, w7, happ7, B7, f7⟩ := (hB.fr0 f6).app (fun k h => h.1) (fun k h => by have h1 := hB.fr.size; have h2 := hg.out; have h3 := f6.size; exact ⟨by omega, by omega⟩) hb6 hn6 (by have := hQL.out.2; simp only [List.length_append, le_length]; omega)
          have r57 := f7.keeps (fun e => e.2 rfl) (keep_fr f6 r5)
          have hg7 := Lib.hid (Nat.lt_of_lt_of_le hg.out (Nat.le_trans f6.size f7.size))
          clear hB f6 f7 hb6 hn6 H1 r5 r0 hg
          go_wp2_with fail
          (with_reducible refine (H2.out _).mono ?_); rintro e w8 ⟨a8, n8, c8, rfl, hn8, hb8, f8⟩
          obtain ⟨a9, n9, c9, w9, happ9, B9, f9⟩ := (B7.fr0 f8).app (fun k h => h.1) (fun k h => by have h1 := B7.fr.size; have h2 := hg7.out; have h3 := f8.size; exact ⟨by omega, by omega⟩) hb8 hn8 (by have := hQL.out.2; have := csz_le kn; simp only [List.length_append, le_length, cnt_length]; omega)
          have r59 := f9.keeps (fun e => e.2 rfl) (keep_fr f8 r57)
          have hg9 := Lib.hid (Nat.lt_of_lt_of_le hg7.out (Nat.le_trans f8.size f9.size))
          obtain ⟨a10, n10, c10, w10, happ10, B10, f10⟩ := B9.appS (fun k h => h.1) (fun k h => by have h1 := B9.fr.size; have h2 := hg9.out; exact ⟨by omega, by omega⟩) ky (by have := hQL.out.2; have := csz_le kn; have := hkn2.out; simp only [List.length_append, le_length, cnt_length]; omega)
          have r510 := f10.keeps (fun e => e.2 rfl) r59
          have hg10 := Lib.hid (Nat.lt_of_lt_of_le hg9.out f10.size)
          clear B7 f8 f9 hb8 hn8 H2 r57 happ7 hg7 f10 B9 hg9
          go_wp2_with fail
          (with_reducible refine (H3.out _).mono ?_); rintro e w11 ⟨a11, n11, c11, rfl, hn11, hb11, f11⟩
          obtain ⟨a12, n12, c12, w12, happ12, B12, f12⟩ := (B10.fr0 f11).app (fun k h => h.1) (fun k h => by have h1 := B10.fr.size; have h2 := hg10.out; have h3 := f11.size; exact ⟨by omega, by omega⟩) hb11 hn11 (by have := hQL.out.2; have := csz_le kn; have := hkn2.out; simp only [List.length_append, le_length, cnt_length]; omega)
          have BE := Lib.hid (B12.with (Q := fun k => W1.heap.size ≤ k) fun k _ h => h.1)
          clear B10 f11 hb11 hn11 H3 r510 happ9 happ10 hg10 f12 B12 r59
          go_wp2_with fail
          go_roundw
          case rel =>
            refine ⟨k + 1, a12, n12, c12, by omega, by go_num, rfl, ?_⟩
            have := BE.out
            rw [hQL.out.1, hkn2.out] at this
            rw [HE.out]
            simp only [MI.bytes, ctd, List.append_assoc] at this ⊢
            exact this
          case measure => simp [intOf]; omega
    · obtain rfl : k = n := by omega
      have eL : ins.take k = ins := by rw [hn.out, List.take_length]
      rw [eL] at hB
      have hlen : (ins.flatMap MI.bytes).length ≤ 70 * 700 := by
        have := flat_len MI.bytes 700 ins fun x hx => MI.len (HI.out.ok x hx) (S3.out x hx)
        have h2 := hn.out
        rw [← h2] at this
        have h3 : k * 700 ≤ 70 * 700 := Nat.mul_le_mul_right _ s1
        omega
      have HC := Lib.hid (fun w => countB m w (by omega))
      clear eL
      obtain ⟨IL, hIL⟩ : ∃ IL, IL = PL ++ ins.flatMap MI.bytes := ⟨_, rfl⟩
      have hB' : Bw W1 (fun k => W1.heap.size ≤ k) a l c IL wr := by rw [hIL]; exact hB
      have hILl : IL.length ≤ 50000 := by have := HPL.out.1; rw [hIL, List.length_append]; omega
      replace hIL := Lib.hid (And.intro hIL hILl)
      clear hB hILl hlen
      go_wp2_with fail
      (with_reducible refine (HC.out _).mono ?_); rintro e w6 ⟨a6, n6, c6, rfl, hn6, hb6, f6⟩
      obtain ⟨a7, n7, c7, w7, happ7, B7, f7⟩ := (hB'.fr0 f6).app (fun k h => h) (fun k h => Nat.le_trans (Nat.le_trans hB'.fr.size f6.size) h) hb6 hn6 (by have := hIL.out.2; have := csz_le m; rw [cnt_length]; omega)
      replace r0 := keep_fr B7.fr r1
      have hPM : (IL ++ cnt m).length ≤ 50009 := by have := hIL.out.2; have := csz_le m; rw [List.length_append, cnt_length]; omega
      obtain ⟨PM, hPMe⟩ : ∃ PM, PM = IL ++ cnt m := ⟨_, rfl⟩
      rw [← hPMe] at B7 hPM
      have HPM := Lib.hid (And.intro hPM hPMe)
      clear hPM hPMe hB' hb6 f6 f7 HC hn6
      go_wp2_with fail
      go_loopw [3, 69] (fun ov iv wr => ∃ (j : Nat) (a : Option Addr) (l c : Nat), j ≤ m ∧ iv = .int .i64 (j : Int) ∧ ov = .slice a l c ∧ Bw W1 (fun k => W1.heap.size ≤ k) a l c (PM ++ (outs.take j).flatMap MO.bytes) wr) (fun _ iv _ => m - (intOf iv).toNat)
      case atStart => exact ⟨0, a7, n7, c7, Nat.zero_le _, rfl, rfl, by simpa using B7⟩
      case round =>
        obtain ⟨j, a, l, c, hj, rfl, rfl, hB⟩ := hrel
        clear B7 happ7 r0
        have r0 := keep_fr hB.fr r1
        by_cases hjm : j < m
        · have hjl : j < outs.length := by have := hm.out; omega
          obtain ⟨bb, off, rfl, hc⟩ := (HO.out.fr (f1.out.1.trans' hB.fr)).get j hjl
          have hok := HO.out.ok _ (List.getElem_mem hjl)
          have hl := load_rout_at (w := wr) (b := bb) (o := off + j * 2) hc
          have HE := Lib.hid (flat_take MO.bytes outs j hjl)
          have hlen : ((outs.take j).flatMap MO.bytes).length ≤ j * 700 := by
            have := flat_len MO.bytes 700 (outs.take j) fun x hx => MO.len (S4.out x (List.mem_of_mem_take hx))
            rw [List.length_take, Nat.min_eq_left (by omega)] at this
            exact this
          have hxk := S4.out _ (List.getElem_mem hjl)
          obtain ⟨x, hx⟩ : ∃ x, x = outs[j] := ⟨_, rfl⟩
          rw [← hx] at hl hok HE hxk
          clear hc hx
          have o1 := MO.one x
          obtain ⟨py, lk⟩ := x
          have hpy := hok.py
          simp only [MO.bytes, MO.row] at *
          clear hok
          obtain ⟨QL, hQL⟩ : ∃ QL, QL = PM ++ (outs.take j).flatMap MO.bytes := ⟨_, rfl⟩
          have hB' : Bw W1 (fun k => W1.heap.size ≤ k) a l c QL wr := by rw [hQL]; exact hB
          have hQ : QL.length ≤ 150000 := by have := HPM.out.1; rw [hQL, List.length_append]; omega
          replace hQL := Lib.hid (And.intro hQL hQ)
          have H1 := Lib.hid (fun w => putB8 py w (by omega))
          have H2 := Lib.hid (fun w => countB lk.length w (by omega))
          have hks := strOf_size lk
          obtain ⟨kn, hkn2⟩ : ∃ n, n = lk.length := ⟨_, rfl⟩
          rw [← hkn2] at hks H2 hxk
          replace hkn2 := Lib.hid hkn2
          clear hB hlen hQ
          have l3 : (j : Int) < (m : Int) := by omega
          go_upto_region 20 with fail
          first | refine wp_new fun W5 N5 => ?_ | refine wp_put fun W5 N5 => ?_
          have r5 := N5.new
          have B5 := hB'.fr0 N5.fr
          replace r0 := keep_fr B5.fr r1
          obtain ⟨g5, hg5⟩ : ∃ g, g = wr.heap.size := ⟨_, rfl⟩
          have hlt := hB'.lt
          rw [← hg5] at r5 hlt ⊢
          have B6 := B5.with (Q := fun k => W1.heap.size ≤ k ∧ k ≠ g5) fun k hk h => ⟨h, by have := hlt k hk; omega⟩
          have hg := Lib.hid (Array.getElem?_eq_some_iff.1 r5).1
          clear N5 hl hB' B5 hlt hg5
          go_wp2_with fail
          (with_reducible refine (H1.out _).mono ?_); rintro e w6 ⟨a6, n6, c6, rfl, hn6, hb6, f6⟩
          obtain ⟨a7, n7, c7, w7, happ7, B7, f7⟩ := (B6.fr0 f6).app (fun k h => h.1) (fun k h => by have h1 := B6.fr.size; have h2 := hg.out; have h3 := f6.size; exact ⟨by omega, by omega⟩) hb6 hn6 (by have := hQL.out.2; simp only [List.length_append, le_length]; omega)
          have r57 := f7.keeps (fun e => e.2 rfl) (keep_fr f6 r5)
          have hg7 := Lib.hid (Nat.lt_of_lt_of_le hg.out (Nat.le_trans f6.size f7.size))
          clear B6 f6 f7 hb6 hn6 H1 r5 r0 hg
          go_wp2_with fail
          (with_reducible refine (H2.out _).mono ?_); rintro e w8 ⟨a8, n8, c8, rfl, hn8, hb8, f8⟩
          obtain ⟨a9, n9, c9, w9, happ9, B9, f9⟩ := (B7.fr0 f8).app (fun k h => h.1) (fun k h => by have h1 := B7.fr.size; have h2 := hg7.out; have h3 := f8.size; exact ⟨by omega, by omega⟩) hb8 hn8 (by have := hQL.out.2; have := csz_le kn; simp only [List.length_append, le_length, cnt_length]; omega)
          have r59 := f9.keeps (fun e => e.2 rfl) (keep_fr f8 r57)
          have hg9 := Lib.hid (Nat.lt_of_lt_of_le hg7.out (Nat.le_trans f8.size f9.size))
          obtain ⟨a10, n10, c10, w10, happ10, B10, f10⟩ := B9.appS (fun k h => h.1) (fun k h => by have h1 := B9.fr.size; have h2 := hg9.out; exact ⟨by omega, by omega⟩) lk (by have := hQL.out.2; have := csz_le kn; have := hkn2.out; simp only [List.length_append, le_length, cnt_length]; omega)
          have BE := Lib.hid (B10.with (Q := fun k => W1.heap.size ≤ k) fun k _ h => h.1)
          clear B7 f8 f9 hb8 hn8 H2 r57 happ7 hg7 f10 B9 hg9 B10
          go_wp2_with fail
          go_roundw
          case rel =>
            refine ⟨j + 1, a10, n10, c10, by omega, by go_num, rfl, ?_⟩
            have := BE.out
            rw [hQL.out.1, hkn2.out] at this
            rw [HE.out]
            simp only [MO.bytes, ctd, List.append_assoc] at this ⊢
            exact this
          case measure => simp [intOf]; omega
        · obtain rfl : j = m := by omega
          have eL : outs.take j = outs := by rw [hm.out, List.take_length]
          rw [eL] at hB
          have hlen : (outs.flatMap MO.bytes).length ≤ 70 * 700 := by
            have := flat_len MO.bytes 700 outs fun x hx => MO.len (S4.out x hx)
            have h2 := hm.out
            rw [← h2] at this
            have h3 : j * 700 ≤ 70 * 700 := Nat.mul_le_mul_right _ s2
            omega
          have HP := Lib.hid (fun w => putB4 lt w (by omega))
          clear eL
          obtain ⟨QL, hQL⟩ : ∃ QL, QL = PM ++ outs.flatMap MO.bytes := ⟨_, rfl⟩
          have hB' : Bw W1 (fun k => W1.heap.size ≤ k) a l c QL wr := by rw [hQL]; exact hB
          have hQ : QL.length ≤ 150000 := by have := HPM.out.1; rw [hQL, List.length_append]; omega
          replace hQL := Lib.hid (And.intro hQL hQ)
          clear hB hQ hlen
          go_wp2_with fail
          (with_reducible refine (HP.out _).mono ?_); rintro e w6 ⟨a6, n6, c6, rfl, hn6, hb6, f6⟩
          obtain ⟨a7, n7, c7, w7, happ7, B7, f7⟩ := (hB'.fr0 f6).app (fun k h => h) (fun k h => Nat.le_trans (Nat.le_trans hB'.fr.size f6.size) h) hb6 hn6 (by have := hQL.out.2; rw [le_length]; omega)
          have hE : QL ++ le 4 lt = TB := by rw [hQL.out.1, HPM.out.2, hIL.out.1, HPL.out.2, hTB.out]; simp only [List.append_assoc]
          rw [hE] at B7
          have hBB := Lib.hid B7
          clear B7 hB' hb6 hn6 f6 f7 HP hE r0
          go_wp2_with fail
          go_ret
          exact ⟨a7, n7, c7, rfl, hBB.out.len, hBB.out.own.bs.2, f1.out.1.trans' hBB.out.fr⟩
end Go.Proofs.YtaobgaoldfeehaaDoor
