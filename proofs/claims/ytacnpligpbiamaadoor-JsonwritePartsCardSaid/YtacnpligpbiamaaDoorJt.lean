/- JsonwriteText answers true for every value and every two strings. -/
import Derived.Test.YtacnpligpbiamaaDoorG14
import Derived.Test.YtacnpligpbiamaaDoorRw
import Derived.Test.YtacnpligpbiamaaDoorG16
import Derived.Test.YtacnpligpbiamaaDoorG20
set_option linter.unusedVariables false
set_option linter.unusedSimpArgs false
namespace Go.Proofs.YtacnpligpbiamaaDoor
open Go.RowKit
theorem cat_text (b : ByteArray) (l : List UInt8) : b ++ ⟨l.toArray⟩ = (⟨(b.data.toList ++ l).toArray⟩ : ByteArray) := by
  apply ByteArray.ext
  rw [ByteArray.data_append]
  apply Array.toList_inj.1
  simp
theorem one_rowW {w : World} {v : V} {k n : Int} {s : ByteArray} {ks : List ByteArray} {es : List V} {A C : Option Addr} {a c : Nat} {g : Nat}
    (h : Lies w (· < w.heap.size) v [.int .i64 k, .int .i64 n, .string s, .slice A ks.length a, .slice C es.length c]) (hg : Box w g 35 #[.int .i64 k, .int .i64 n, .string s, .slice A ks.length a, .slice C es.length c]) :
    Row w (some ⟨g, 0, none⟩) [v] [.int .i64 k, .int .i64 n, .string s, .slice A ks.length a, .slice C es.length c] := by
  refine ⟨rs_boxW (cs := [.int .i64 k, .int .i64 n, .string s, .slice A ks.length a, .slice C es.length c]) hg hg.lt, ?_⟩
  rw [LiesL]
  exact ⟨_, [], by simp, h, by rw [LiesL]⟩
set_option maxHeartbeats 4000000 in
set_option maxRecDepth 100000 in
theorem jtext_walk (v : V) (b s : ByteArray) (cs : List Value) (w : World) (h : Lies w (· < w.heap.size) v cs) (hr : rng v) (ht : TabS w) (hb : b.size ≤ 140737488355328) (hs : s.size ≤ 140737488355328) :
    Calls Tryd.prog 4 #[.agg cs.toArray, .string b, .string s] w fun e w' => e = .returned (.bool true) ∧ Below w.heap.size w w' := by
  have haw := Lib.hid (fun W (hW : Below w.heap.size w W) => awake5_any W (ht.next hW))
  have HRT := Lib.hid (fun W (hW : Below w.heap.size w W) => rText_any v cs W (below_lies hW h) hr)
  have HWT := Lib.hid (fun W (hW : Below w.heap.size w W) => wText_any v cs W (below_lies hW h) hr (ht.next hW))
  have HWS := Lib.hid (fun W (hW : Below w.heap.size w W) => wSize_any v cs W (below_lies hW h) hr (ht.next hW))
  have HWA := Lib.hid (fun W (hW : Below w.heap.size w W) A0 c0 l0 h1 h2 h3 => wAppend_any A0 c0 l0 v cs W h1 h2 h3 (below_lies hW h) hr (ht.next hW))
  have HTL := Lib.hid (txt_len hr)
  have HL := Lib.hid h
  have HTA := Lib.hid (fun W (hW : Below w.heap.size w W) => ht.next hW)
  obtain ⟨k, n, vs, ks, es⟩ := v
  obtain ⟨A, a, B, bb, xs, rfl, _⟩ := lies_open h
  clear h hr ht
  show Calls _ _ #[.agg #[.int .i64 k, .int .i64 n, .string vs, .slice A ks.length a, .slice B es.length bb], .string b, .string s] w _
  have hsm := Lib.hid (small_any 300 [.mk k n vs ks es] (some ⟨w.heap.size + 1, 0, none⟩) 1 [.int .i64 k, .int .i64 n, .string vs, .slice A ks.length a, .slice B es.length bb]
    ((w.alloc (.cells #[.int .i64 k, .int .i64 n, .string vs, .slice A ks.length a, .slice B es.length bb] 35)).alloc (.cells #[.int .i64 k, .int .i64 n, .string vs, .slice A ks.length a, .slice B es.length bb] 35))
    (one_rowW (below_lies (((Below.refl _ _).alloc (Nat.le_refl _) _).alloc (by simp) _) HL.out) (box_new _ _ _ _ (by simp))) (by simp) (by omega) (by omega))
  generalize smallP 300 [.mk k n vs ks es] = x at hsm
  generalize txt (V.mk k n vs ks es) = T at HRT HWT HWS HWA HTL
  generalize ks.length = lk at hsm HRT HWT HWS HWA HL
  generalize es.length = le at hsm HRT HWT HWS HWA HL
  go_enter Tryd.func4, Tryd.ntmps4
  go_wp2_with fail
  refine hsm.out.mono ?_
  rintro e1 w1 ⟨rfl, hb1⟩
  have hB1 := Lib.hid (chain (((Below.refl w.heap.size w).alloc (Nat.le_refl _) (.cells #[.int .i64 k, .int .i64 n, .string vs, .slice A lk a, .slice B le bb] 35)).alloc (by simp) (.cells #[.int .i64 k, .int .i64 n, .string vs, .slice A lk a, .slice B le bb] 35)) hb1)
  have hX1 := Lib.hid (((Box.laid w 35 #[.int .i64 k, .int .i64 n, .string vs, .slice A lk a, .slice B le bb]).alloc (.cells #[.int .i64 k, .int .i64 n, .string vs, .slice A lk a, .slice B le bb] 35)).below hb1 (by simp; omega))
  clear hsm hb1
  cases x with
  | false =>
    go_wp2_with fail
    refine (haw.out _ hB1.out).mono ?_
    rintro e2 w2 ⟨rfl, hb2⟩
    go_wp2_with fail
    go_ret
    exact ⟨rfl, chain hB1.out hb2⟩
  | true =>
    have hsh := Lib.hid (short_any 200 (some ⟨w1.heap.size, 0, none⟩) 2 [b, s] (fun _ => True) (w1.alloc (.cells #[.string b, .string s] 9)) (rs_boxW (cs := kv [b, s]) (Box.laid w1 _ _) trivial) (by simp [maxLen]) (by simp; exact ⟨hb, hs⟩) (by omega) (by omega))
    have HSP := Lib.hid (fun (h : shortP 200 [b, s] = true) => shortP_mem h)
    generalize shortP 200 [b, s] = y at hsh HSP
    go_wp2_with fail
    refine hsh.out.mono ?_
    rintro e2 w2 ⟨rfl, hb2⟩
    have hB2 := Lib.hid (chain hB1.out (chain (below1 w1 _) hb2))
    have hX2 := Lib.hid (hX1.out.below (chain (below1 w1 _) hb2) hX1.out.lt)
    clear hsh hb2
    cases y with
    | false =>
      go_wp2_with fail
      refine (haw.out _ hB2.out).mono ?_
      rintro e3 w3 ⟨rfl, hb3⟩
      go_wp2_with fail
      go_ret
      exact ⟨rfl, chain hB2.out hb3⟩
    | true =>
      have hb200 : b.size ≤ 200 := by have := HSP.out rfl b (by simp); omega
      have hs200 : s.size ≤ 200 := by have := HSP.out rfl s (by simp); omega
      have HQR := Lib.hid (fun W => rQuote_any s (by omega) W)
      have HQW := Lib.hid (fun W (hW : Below w.heap.size w W) => wQuote_any s (by omega) W (HTA.out W hW))
      have hbl : b.data.toList.length = b.size := by simp
      have HBL := Lib.hid hbl
      have hbl0 : b.data.toList.length ≤ 16777216 := by omega
      have HBL0 := Lib.hid hbl0
      obtain ⟨S, hS⟩ : ∃ S, b ++ ⟨T.toArray⟩ = S := ⟨_, rfl⟩
      have HSV : Hid ((⟨(b.data.toList ++ T).toArray⟩ : ByteArray) = S) := Lib.hid ((cat_text b T).symm.trans hS)
      generalize (⟨(qt s.data.toList).toArray⟩ : ByteArray) = Q at HQR HQW
      have htl := HTL.out
      have hTs : (⟨T.toArray⟩ : ByteArray).size = T.length := by simp [ByteArray.size]
      clear hbl hbl0 HSP
      obtain ⟨t0, t1, t2, t3, t4⟩ := box5 hX2.out
      go_wp2_with fail
      refine (HRT.out _ hB2.out).mono ?_
      rintro e3 w3 ⟨rfl, hb3⟩
      have hB3 := Lib.hid (chain hB2.out hb3)
      have hX3 := Lib.hid (hX2.out.below hb3 hX2.out.lt)
      clear hb3 t0 t1 t2 t3 t4
      obtain ⟨t0, t1, t2, t3, t4⟩ := box5 hX3.out
      go_wp2_with fail
      refine (HWT.out _ hB3.out).mono ?_
      rintro e4 w4 ⟨rfl, hb4⟩
      have hB4 := Lib.hid (chain hB3.out hb4)
      have hX4 := Lib.hid (hX3.out.below hb4 hX3.out.lt)
      obtain ⟨cB, wB, hcv, hrdB, hbB, hszB⟩ := bytes_of w4 b
      have hB5 := Lib.hid (chain hB4.out hbB)
      have hX5 := Lib.hid (hX4.out.below hbB hX4.out.lt)
      have hRD := Lib.hid (hrdB.mono hszB)
      clear hb4 hrdB hbB hszB t0 t1 t2 t3 t4
      obtain ⟨t0, t1, t2, t3, t4⟩ := box5 hX5.out
      go_wp2_with fail
      have hWA := HWA.out wB hB5.out (some ⟨w4.heap.size, 0, none⟩) cB b.data.toList hRD.out (fun h => by cases h) HBL0.out
      rw [HBL.out] at hWA
      refine hWA.mono ?_
      clear hWA
      rintro e6 w6 ⟨A6, n6, c6, rfl, hown6, hb6⟩
      have hcv6 := conv_own hown6
      rw [HSV.out] at hcv6
      have hB6 := Lib.hid (chain hB5.out hb6)
      have hX6 := Lib.hid (hX5.out.below hb6 hX5.out.lt)
      clear hown6 hb6 hcv t0 t1 t2 t3 t4
      obtain ⟨t0, t1, t2, t3, t4⟩ := box5 hX6.out
      go_wp2_with (first
        | (go_at_call 19; refine (HWS.out _ hB6.out).mono ?_; rintro e7 w7 ⟨rfl, hb7⟩; have hB7 := Lib.hid (chain hB6.out hb7); clear hb7)
        | (go_at_call 20; refine (HQW.out _ hB7.out).mono ?_; rintro e8 w8 ⟨rfl, hb8⟩; have hB8 := Lib.hid (chain hB7.out hb8); clear hb8)
        | (go_at_call 10; refine (HQR.out _).mono ?_; rintro e9 w9 ⟨rfl, hb9⟩; have hB9 := Lib.hid (chain hB8.out hb9); clear hb9)
        | (go_at_call 15; refine (haw.out _ hB9.out).mono ?_; rintro e10 w10 ⟨rfl, hb10⟩; have hB10 := Lib.hid (chain hB9.out hb10); clear hb10))
      go_ret
      exact ⟨rfl, hB10.out⟩
end Go.Proofs.YtacnpligpbiamaaDoor
