/- CheckAnswer holds for every input: an answer has its word, the message that this bears, and the places at which it is another one. No conditions. -/
import Derived.Test.YtjnkkokhkooegaaGreatRows
import Derived.BigQuiet
import Derived.Test.YtjnkkokhkooegaaGreatMB
import Derived.Test.YtjnkkokhkooegaaGreatOA
import Derived.Test.YtjnkkokhkooegaaGreatPZ
namespace Go.Proofs.YtjnkkokhkooegaaGreat.checkAnswer
open Go.ChangeShapes Go.WideShapes Go.ChangeAt Go.RowKit
open Pol (IsN Dg ofL Byt vl)
attribute [local go_sem ↓ high] builtin_ap
attribute [local go_sem] ap_sem

/-- What is mended as far as the first t unlike places. -/
structure Bk (N : Nat) (rs ws : List Nat) (t : Nat) (bs : List Nat) : Prop where
  len : bs.length = N
  byt : Byt bs
  val : ∀ i, i < N → bs.getD i 0 = if i ∈ (Cd.ap rs ws).take t then ws.getD i 0 else rs.getD i 0
theorem bk_start {N : Nat} {rs ws : List Nat} (hl : rs.length = N) (hb : Byt rs) : Bk N rs ws 0 rs := ⟨hl, hb, fun i _ => by rw [if_neg (by simp)]⟩
theorem Bk.next {N : Nat} {rs ws bs : List Nat} {t p : Nat} (h : Bk N rs ws t bs) (hw : Byt ws) (ht : t < (Cd.ap rs ws).length) (hp : (Cd.ap rs ws).getD t 0 = p) : Bk N rs ws (t + 1) (bs.set p (ws.getD p 0)) := by
  have e : (Cd.ap rs ws).take (t + 1) = (Cd.ap rs ws).take t ++ [p] := by rw [List.take_succ_eq_append_getElem ht, ← hp]; simp [List.getD, ht]
  refine ⟨by rw [List.length_set]; exact h.len, fun i => ?_, fun i hi => ?_⟩
  · rw [Mx.getD_set]; split
    · exact hw p
    · exact h.byt i
  · rw [Mx.getD_set, e, h.len]
    by_cases hip : p = i
    · subst hip
      rw [if_pos ⟨rfl, hi⟩, if_pos (by simp)]
    · rw [if_neg (fun hc => hip hc.1), h.val i hi]
      have : (i ∈ (Cd.ap rs ws).take t ++ [p]) ↔ i ∈ (Cd.ap rs ws).take t := by
        rw [List.mem_append, List.mem_singleton]
        exact ⟨fun h => h.elim id (fun e => absurd e.symm hip), .inl⟩
      simp only [this]
theorem Bk.done {N : Nat} {rs ws bs : List Nat} (h : Bk N rs ws (Cd.ap rs ws).length bs) (hr : rs.length = N) (hw : ws.length = N) : bs = ws := by
  refine Mx.list_ext (by rw [h.len, hw]) fun i hi => ?_
  rw [h.len] at hi
  rw [h.val i hi, List.take_length]
  split
  · rfl
  · rename_i hn
    exact Classical.byContradiction fun hne => hn (Cd.mem_ap.2 ⟨by omega, by omega, hne⟩)
theorem notin_take {rs ws : List Nat} {t p : Nat} (ht : t < (Cd.ap rs ws).length) (hp : (Cd.ap rs ws).getD t 0 = p) : p ∉ (Cd.ap rs ws).take t := fun h => by
  have hn := Cd.ap_nodup rs ws
  rw [← List.take_append_drop t (Cd.ap rs ws)] at hn
  have hd := (List.pairwise_append.1 hn).2.2
  have hm : p ∈ (Cd.ap rs ws).drop t := by
    rw [List.drop_eq_getElem_cons ht]
    have : (Cd.ap rs ws)[t] = p := by rw [← hp]; simp [List.getD, ht]
    rw [this]; exact List.mem_cons_self
  exact hd p h p hm rfl
/-- The boxes of the code and of the answer. -/
structure TQ (P Q : Nat) (N K B : Int) (v0 v1 v2 : Value) (W : World) : Prop where
  cb : Cb W P N K B
  a0 : W.cell? ⟨Q, 0, none⟩ = some v0
  a1 : W.cell? ⟨Q, 1, none⟩ = some v1
  a2 : W.cell? ⟨Q, 2, none⟩ = some v2
theorem TQ.but {S : Nat → Prop} {P Q : Nat} {N K B : Int} {v0 v1 v2 : Value} {W W' : World} (h : TQ P Q N K B v0 v1 v2 W) (hb : But S W W') (hP : ¬ S P) (hQ : ¬ S Q) : TQ P Q N K B v0 v1 v2 W' :=
  ⟨h.cb.but hb hP, (hb.cell (p := ⟨Q, 0, none⟩) (World.block_lt_of_cell? _ _ h.a0) hQ).trans h.a0, (hb.cell (p := ⟨Q, 1, none⟩) (World.block_lt_of_cell? _ _ h.a1) hQ).trans h.a1, (hb.cell (p := ⟨Q, 2, none⟩) (World.block_lt_of_cell? _ _ h.a2) hQ).trans h.a2⟩
theorem TQ.below {P Q : Nat} {N K B : Int} {v0 v1 v2 : Value} {W W' : World} (h : TQ P Q N K B v0 v1 v2 W) (hb : Below W.heap.size W W') : TQ P Q N K B v0 v1 v2 W' := h.but (But.of_below (S := fun _ => False) hb) id id

set_option maxRecDepth 100000 in
set_option maxHeartbeats 4000000 in
theorem walk (n k b : Nat) (qm : Option Addr) (lm cm : Nat) (xsm : List Nat) (qd : Option Addr) (ld cd : Nat) (xsd : List Nat) (qx : Option Addr) (lx cx : Nat) (xsx : List Nat) (w : World) (hn : n < 256) (hk : k < 256) (hb : b < 256) (hsm : Bs w qm lm xsm) (_hcm : lm ≤ cm ∧ cm ≤ 140737488351232) (hsd : Bs w qd ld xsd) (_hcd : ld ≤ cd ∧ cd ≤ 140737488351232) (hsx : Bs w qx lx xsx) (_hcx : lx ≤ cx ∧ cx ≤ 140737488351232) :
    Calls Tryz.prog 6 #[.int .u8 n, .int .u8 k, .int .u8 b, .slice qm lm cm, .slice qd ld cd, .slice qx lx cx] w fun e w' => e = .returned (.bool true) ∧ Below w.heap.size w w' := by
  have K0 := lcode_calls n k b hn hk hb w
  have hcod := ck_cod n k b
  have hle := ckN_le n k
  obtain ⟨N, hN⟩ : ∃ N, ckN n k = N := ⟨_, rfl⟩
  obtain ⟨K, hK⟩ : ∃ K, ckK n k = K := ⟨_, rfl⟩
  obtain ⟨B, hB⟩ : ∃ B, ckB b = B := ⟨_, rfl⟩
  obtain ⟨S, hS⟩ : ∃ S, N - K = S := ⟨_, rfl⟩
  rw [hN, hK, hB] at K0 hcod
  rw [hN] at hle
  obtain ⟨ws, hE⟩ := Cd.isEnc_exists (N := N) (S := S) (K := K) (B := B) (m := Cd.wd K xsm) (Cd.wd_length K xsm) (Cd.wd_byt hsm.byte K) (by have := hcod.n; omega)
  have HM : Hid (Cod N K B ∧ N - K = S ∧ N ≤ 69 ∧ Cd.IsEnc N S B (Cd.wd K xsm) ws) := ⟨hcod, hS, hle.2, hE⟩
  have HS : Hid (Bs w qm lm xsm ∧ Bs w qd ld xsd ∧ Bs w qx lx xsx) := ⟨hsm, hsd, hsx⟩
  have hN69 : (N : Int) ≤ 69 := by omega
  clear hN hK hB hS hcod hle hn hk hb hsm hsd hsx hE _hcm _hcd _hcx
  go_enter Tryz.func6, Tryz.ntmps6
  go_wp2_with fail
  refine K0.mono ?_
  rintro e w1 ⟨rfl, hb1⟩
  obtain ⟨P, hP⟩ : ∃ P, w1.heap.size = P := ⟨_, rfl⟩
  obtain ⟨W2, hW2⟩ : ∃ W2, w1.alloc (.cells #[.int .i64 (N : Nat), .int .i64 (K : Nat), .int .i64 (B : Nat)] 26) = W2 := ⟨_, rfl⟩
  have hC : Cb W2 P (N : Nat) (K : Nat) (B : Nat) := by rw [← hW2, ← hP]; exact cb_new w1 _ _ _
  have H2 : Hid (Cb W2 P (N : Nat) (K : Nat) (B : Nat) ∧ Below w.heap.size w W2) := ⟨hC, hW2 ▸ hb1.alloc hb1.size _⟩
  have KX := bent_calls N K B S N HM.out.1 HM.out.2.1 (by have := HM.out.2.2.1; omega) qm qd qx lm cm ld cd lx cx xsm xsd xsx ws HM.out.2.2.2 W2 (HS.out.1.below H2.out.2) (HS.out.2.1.below H2.out.2) (HS.out.2.2.below H2.out.2)
  clear K0 hb1
  have u0 := (hC).c0
  have u1 := (hC).c1
  have u2 := (hC).c2
  clear hC
  go_wp2_with fail
  refine KX.mono ?_
  rintro e w3 ⟨v4, v5, rs, rfl, hO4, hO5, hrl, hb3⟩
  clear KX hP hW2
  clear u0 u1 u2
  obtain ⟨q4, c4, rfl, S4, C4, -⟩ := hO4.tell HM.out.2.2.2.byt HM.out.2.2.2.word.1
  obtain ⟨q5, c5, rfl, S5, C5, -⟩ := hO5.tell hrl.2 hrl.1
  have H3 : Hid (Cb w3 P (N : Nat) (K : Nat) (B : Nat) ∧ Below w.heap.size w w3 ∧ Bs w3 q4 N ws ∧ Bs w3 q5 N rs ∧ (rs.length = N ∧ Byt rs)) := ⟨H2.out.1.below hb3, H2.out.2.trans (hb3.mono H2.out.2.size), S4, S5, hrl⟩
  have KX := answer_ok N K B S c5 c4 q5 q4 rs ws (Cd.wd K xsm) HM.out.1 HM.out.2.1 HM.out.2.2.2.msg C4 w3 S5 S4
  have hC := H3.out.1
  clear hO4 hO5 hrl hb3 S4 S5 C4 C5 H2
  have u0 := (hC).c0
  have u1 := (hC).c1
  have u2 := (hC).c2
  clear hC
  go_wp2_with fail
  refine KX.mono ?_
  rintro e w4 ⟨v0, v1, v2, rfl, hO0, hO1, hO2, hb4⟩
  clear KX
  clear u0 u1 u2
  obtain ⟨L, hL⟩ : ∃ L, Cd.ap rs ws = L := ⟨_, rfl⟩
  obtain ⟨o, ho⟩ : ∃ o, L.length = o := ⟨_, rfl⟩
  have HL : Hid (Cd.ap rs ws = L ∧ L.length = o ∧ ∀ i ∈ L, i < N) := ⟨hL, ho, fun i hi => by rw [← hL] at hi; have := (Cd.mem_ap.1 hi).1; have := H3.out.2.2.2.2.1; omega⟩
  obtain ⟨q0, c0, rfl, S0, -, -⟩ := hO0.tell HM.out.2.2.2.byt HM.out.2.2.2.word.1
  obtain ⟨q1, c1, rfl, S1, -, -⟩ := hO1.tell (n := K) (Cd.wd_byt (HS.out.1.byte) K) (Cd.wd_length K xsm)
  obtain ⟨q2, c2, rfl, S2, -, -⟩ := OwV.tell_z (L := zi L) (n := o) (hL ▸ hO2) (zi_wf fun i hi => by have := HL.out.2.2 i hi; have := HM.out.2.2.1; omega) (by rw [zi_length, ho])
  obtain ⟨Q, hQ⟩ : ∃ Q, w4.heap.size = Q := ⟨_, rfl⟩
  obtain ⟨W5, hW5⟩ : ∃ W5, w4.alloc (.cells #[.slice q0 N c0, .slice q1 K c1, .slice q2 o c2] 47) = W5 := ⟨_, rfl⟩
  have hb45 : Below w4.heap.size w4 W5 := hW5 ▸ (Below.refl _ w4).alloc (Nat.le_refl _) _
  have hb35 : Below w3.heap.size w3 W5 := hb4.trans (hb45.mono hb4.size)
  have hT5 : TQ P Q (N : Nat) (K : Nat) (B : Nat) (.slice q0 N c0) (.slice q1 K c1) (.slice q2 o c2) W5 := by
    refine ⟨H3.out.1.below hb35, ?_, ?_, ?_⟩
    · rw [← hW5, ← hQ]; simp [go_sem]
    · rw [← hW5, ← hQ]; simp [go_sem]
    · rw [← hW5, ← hQ]; simp [go_sem]
  obtain ⟨G, hG⟩ : ∃ G, W5.heap.size = G := ⟨_, rfl⟩
  obtain ⟨v6, W6, hap, hO6, hg6⟩ := run_append_list W5 G (.slice none 0 0) [] q5 N c5 rs (ow_nil _ _) (H3.out.2.2.2.1.below hb35) (by have := HM.out.2.2.1; simp; omega) (by rw [hG]; exact Nat.le_refl _)
  rw [List.nil_append] at hO6
  have hb56 : Below G W5 W6 := (Below.refl G W5).grown hg6 (by rw [hG]; exact Nat.le_refl _) (fun k e => by cases e)
  obtain ⟨g, cg, rfl, hGg, hglt⟩ : ∃ g cg, v6 = .slice (some ⟨g, 0, none⟩) N cg ∧ G ≤ g ∧ g < W6.heap.size := by
    rcases hO6.shape with ⟨_, h0⟩ | ⟨g, c', h1, h2', h3', _⟩
    · have h5 := congrArg List.length h0; rw [H3.out.2.2.2.2.1] at h5; have h8 := HM.out.1.n; simp at h5; omega
    · rw [H3.out.2.2.2.2.1] at h1; exact ⟨g, c', h1, h2', h3'⟩
  have ha1 := ap_ok hap
  have ha2 := ap_v hap
  have ha3 := ap_w hap
  have HT : Hid (TQ P Q (N : Nat) (K : Nat) (B : Nat) (.slice q0 N c0) (.slice q1 K c1) (.slice q2 o c2) W6 ∧ Ow W6 G (.slice (some ⟨g, 0, none⟩) N cg) rs ∧ P < G ∧ Q < G ∧ G ≤ g ∧ g < W6.heap.size ∧ w.heap.size ≤ G ∧ Below w.heap.size w W6) := by
    have hb := H3.out.2.1.trans (hb35.mono H3.out.2.1.size)
    refine ⟨hT5.below (hG.symm ▸ hb56), hO6, ?_, ?_, hGg, hglt, ?_, hb.trans (hb56.mono (by rw [← hG]; exact hb.size))⟩
    · rw [← hG]; exact World.block_lt_of_cell? _ _ hT5.cb.c0
    · rw [← hG]; exact World.block_lt_of_cell? _ _ hT5.a0
    · rw [← hG]; exact hb.size
  have HB : Hid ((Bs W5 q0 N ws ∧ Bs W5 q1 K (Cd.wd K xsm) ∧ Ns .i64 W5 q2 o (zi L) ∧ Bs W5 q4 N ws) ∧ Below G W5 W6 ∧ W5.heap.size = G) := ⟨⟨S0.below hb45, S1.below hb45, S2.below hb45, H3.out.2.2.1.below hb35⟩, hb56, hG⟩
  have ho6 : (o : Int) ≤ 1000000 := by
    have h1 := Cd.ap_length rs ws
    rw [hL, ho, H3.out.2.2.2.2.1] at h1
    have := HM.out.2.2.1; omega
  have hc2 := hT5.a2
  clear hO0 hO1 hO2 hb4 S0 S1 S2 hb45 hb35 hT5 hap hO6 hg6 hb56 hGg hglt hL ho
  go_wp2
  clear hc2 ha1 ha2 ha3 hQ hW5
  go_loopw [19, 20] (fun i z wr => ∃ (t : Nat) (bs : List Nat), t ≤ o ∧ i = .int .i64 (t : Int) ∧ Hid (Bk N rs ws t bs ∧ Ow wr G (.slice (some ⟨g, 0, none⟩) N cg) bs ∧ But (· = g) W6 wr)) (fun i _ _ => o - (intOf i).toNat)
  case atStart => exact ⟨0, rs, by omega, rfl, (⟨bk_start H3.out.2.2.2.2.1 H3.out.2.2.2.2.2, HT.out.2.1, But.refl _ _⟩ : Bk N rs ws 0 rs ∧ _)⟩
  case round =>
    obtain ⟨t, bs, ht, rfl, HR⟩ := hrel
    have hTw := HT.out.1.but HR.out.2.2 (by have := HT.out; omega) (by have := HT.out; omega)
    have HBw : Hid ((Bs wr q0 N ws ∧ Bs wr q1 K (Cd.wd K xsm) ∧ Ns .i64 wr q2 o (zi L) ∧ Bs wr q4 N ws) ∧ TQ P Q (N : Nat) (K : Nat) (B : Nat) (.slice q0 N c0) (.slice q1 K c1) (.slice q2 o c2) wr ∧ Below w.heap.size w wr) := by
      have hGG := HB.out.2.2
      have hgg := HT.out.2.2.2.2.1
      have hbW : Below W5.heap.size W5 W6 := hGG.symm ▸ HB.out.2.1
      have hlt : ∀ {q : Option Addr} {n : Nat} {l : List Nat}, Bs W5 q n l → Bs wr q n l := fun {q n l} h => (h.below hbW).butS HR.out.2.2 (fun h0 a e he => by
        obtain ⟨a', e', hl', _⟩ := h.cell 0 h0
        obtain rfl : a' = a := Option.some.inj (e'.symm.trans e)
        omega)
      refine ⟨⟨hlt HB.out.1.1, hlt HB.out.1.2.1, (HB.out.1.2.2.1.below hbW).but HR.out.2.2 (fun h0 a e he => ?_), hlt HB.out.1.2.2.2⟩, hTw, HT.out.2.2.2.2.2.2.2.trans (HR.out.2.2.below (HT.out.2.2.2.2.2.2.2.size) (fun k hk => by have := HT.out; omega))⟩
      obtain ⟨a', e', hl', _⟩ := HB.out.1.2.2.1.cell 0 h0
      obtain rfl : a' = a := Option.some.inj (e'.symm.trans e)
      omega
    have hc2 := hTw.a2
    clear hTw
    by_cases hlt : t < o
    · have hti : (t : Int) < (o : Int) := by omega
      have hti0 : (0 : Int) ≤ (t : Int) := by omega
      have htL : t < (Cd.ap rs ws).length := by rw [HL.out.1, HL.out.2.1]; exact hlt
      obtain ⟨a, ha, _, ca⟩ := HBw.out.1.2.2.1.cell t hlt
      have hgz : (zi L).getD t 0 = ((L.getD t 0 : Nat) : Int) := by simp [zi, List.getD, show t < L.length by rw [HL.out.2.1]; exact hlt]
      rw [hgz] at ca
      obtain ⟨p, hp⟩ : ∃ p, L.getD t 0 = p := ⟨_, rfl⟩
      rw [hp] at ca
      have hpm : p ∈ L := by rw [← hp]; simp only [List.getD]; rw [List.getElem?_eq_getElem (by rw [HL.out.2.1]; exact hlt)]; exact List.getElem_mem _
      have hpN := HL.out.2.2 p hpm
      have hap := Cd.mem_ap.1 (HL.out.1.symm ▸ hpm : p ∈ Cd.ap rs ws)
      have hbp : bs.getD p 0 = rs.getD p 0 := by rw [HR.out.1.val p hpN, if_neg (notin_take htL (HL.out.1.symm ▸ hp))]
      have hxp := HR.out.2.1.at HR.out.1.len.symm p hpN
      obtain ⟨a', ha', _, ca'⟩ := HBw.out.1.2.2.2.cell p hpN
      have hnx := HR.out.1.next (HM.out.2.2.2.byt) htL (HL.out.1.symm ▸ hp)
      have hne := hap.2.2
      rw [← hbp] at hne
      obtain ⟨x, hx⟩ : ∃ x, bs.getD p 0 = x := ⟨_, rfl⟩
      obtain ⟨y, hy⟩ : ∃ y, ws.getD p 0 = y := ⟨_, rfl⟩
      rw [hx] at hxp hne
      rw [hy] at ca' hne hnx
      have hxc := hxp.1
      have hxf := hxp.2
      have hpi : (p : Int) < (N : Int) := by omega
      have hp0 : (0 : Int) ≤ (p : Int) := by omega
      have hpz : ((p : Int) < 0) = False := eq_false (by omega)
      have hge : ((N : Int) ≤ (p : Int)) = False := eq_false (by omega)
      have hgn : (N ≤ p) = False := eq_false (by omega)
      have hxy : ((x : Int) == (y : Int)) = false := by simp; omega
      have HX : Hid (Bk N rs ws (t + 1) (bs.set p y)) := hnx
      subst ha ha'
      clear hgz hp hpm hpN hap hbp hxp hnx hne hx hy htL
      go_wp2
      go_quiet (fail)
      obtain ⟨W7, hW7⟩ : ∃ W7, wr.drewN nq = W7 := ⟨_, rfl⟩
      rw [hW7]
      obtain ⟨W8, hW8⟩ : ∃ W8, W7.setCell ⟨g, p, none⟩ (.int .u8 (y : Nat)) = W8 := ⟨_, rfl⟩
      have hc3 : W7.cell? ⟨g, p, none⟩ = some (.int .u8 (x : Nat)) := hW7 ▸ hxc
      have hf3 : W7.frozen? ⟨g, p, none⟩ = false := hW7 ▸ hxf
      have ca3 : W7.cell? (a'.add p) = some (.int .u8 (y : Nat)) := hW7 ▸ ca'
      have HZ : Hid (Ow W8 G (.slice (some ⟨g, 0, none⟩) N cg) (bs.set p y) ∧ But (· = g) W6 W8) := by
        have hO7 : Ow W7 G (.slice (some ⟨g, 0, none⟩) N cg) bs := hW7 ▸ HR.out.2.1.block fun _ _ => rfl
        have hb7 : But (· = g) W6 W7 := hW7 ▸ ⟨HR.out.2.2.os, HR.out.2.2.tape, HR.out.2.2.output, HR.out.2.2.size, HR.out.2.2.block⟩
        rw [← hW8]
        exact ⟨hO7.set HR.out.1.len.symm p y, hb7.setCell (p := ⟨g, p, none⟩) (.inl rfl) _⟩
      clear ca ca' hxc hxf hW7 HR HBw hc2
      go_wp2
      go_roundw
      case rel => exact ⟨t + 1, _, hlt, by go_num, HX.out, HZ.out⟩
      case measure => simp [intOf]; omega
    · obtain rfl : t = o := by omega
      have hti : ((t : Int) < (t : Int)) = False := eq_false (by omega)
      have hbw : bs = ws := by
        have := HR.out.1
        rw [← HL.out.2.1, ← HL.out.1] at this
        exact this.done H3.out.2.2.2.2.1 HM.out.2.2.2.word.1
      have hOb := HR.out.2.1
      rw [hbw] at hOb
      obtain ⟨q9, c9, e9, S9, -, -⟩ := hOb.tell HM.out.2.2.2.byt HM.out.2.2.2.word.1
      cases e9
      have hT0 : TQ P Q (N : Nat) (K : Nat) (B : Nat) (.slice q0 N c0) (.slice q1 K c1) (.slice q2 t c2) wr.drew ∧ (Bs wr.drew q0 N ws ∧ Bs wr.drew q1 K (Cd.wd K xsm) ∧ Bs wr.drew q4 N ws ∧ Bs wr.drew (some ⟨g, 0, none⟩) N ws) ∧ Below w.heap.size w wr.drew :=
        ⟨HBw.out.2.1.below (Below.refl _ wr).drew, ⟨HBw.out.1.1.below (Below.refl _ wr).drew, HBw.out.1.2.1.below (Below.refl _ wr).drew, HBw.out.1.2.2.2.below (Below.refl _ wr).drew, S9.below (Below.refl _ wr).drew⟩, HBw.out.2.2.drew⟩
      have TBd : ∀ W, (TQ P Q (N : Nat) (K : Nat) (B : Nat) (.slice q0 N c0) (.slice q1 K c1) (.slice q2 t c2) W ∧ (Bs W q0 N ws ∧ Bs W q1 K (Cd.wd K xsm) ∧ Bs W q4 N ws ∧ Bs W (some ⟨g, 0, none⟩) N ws) ∧ Below w.heap.size w W) → ∀ W', Below W.heap.size W W' → (TQ P Q (N : Nat) (K : Nat) (B : Nat) (.slice q0 N c0) (.slice q1 K c1) (.slice q2 t c2) W' ∧ (Bs W' q0 N ws ∧ Bs W' q1 K (Cd.wd K xsm) ∧ Bs W' q4 N ws ∧ Bs W' (some ⟨g, 0, none⟩) N ws) ∧ Below w.heap.size w W') := fun W h W' hb => ⟨h.1.below hb, ⟨h.2.1.1.below hb, h.2.1.2.1.below hb, h.2.1.2.2.1.below hb, h.2.1.2.2.2.below hb⟩, h.2.2.trans (hb.mono h.2.2.size)⟩
      have K1 : Hid (∀ W, (TQ P Q (N : Nat) (K : Nat) (B : Nat) (.slice q0 N c0) (.slice q1 K c1) (.slice q2 t c2) W ∧ (Bs W q0 N ws ∧ Bs W q1 K (Cd.wd K xsm) ∧ Bs W q4 N ws ∧ Bs W (some ⟨g, 0, none⟩) N ws) ∧ Below w.heap.size w W) → Calls Tryz.prog 16 #[] W fun e w' => e = .returned (.bool true) ∧ (TQ P Q (N : Nat) (K : Nat) (B : Nat) (.slice q0 N c0) (.slice q1 K c1) (.slice q2 t c2) w' ∧ (Bs w' q0 N ws ∧ Bs w' q1 K (Cd.wd K xsm) ∧ Bs w' q4 N ws ∧ Bs w' (some ⟨g, 0, none⟩) N ws) ∧ Below w.heap.size w w')) := fun W hW => (known13_calls W).mono fun _ w' ⟨he, hb⟩ => ⟨he, TBd W hW w' hb⟩
      have K2 : Hid (∀ W, (TQ P Q (N : Nat) (K : Nat) (B : Nat) (.slice q0 N c0) (.slice q1 K c1) (.slice q2 t c2) W ∧ (Bs W q0 N ws ∧ Bs W q1 K (Cd.wd K xsm) ∧ Bs W q4 N ws ∧ Bs W (some ⟨g, 0, none⟩) N ws) ∧ Below w.heap.size w W) → Calls Tryz.prog 17 #[.slice q0 N c0, .slice q4 N c4] W fun e w' => e = .returned (.bool true) ∧ (TQ P Q (N : Nat) (K : Nat) (B : Nat) (.slice q0 N c0) (.slice q1 K c1) (.slice q2 t c2) w' ∧ (Bs w' q0 N ws ∧ Bs w' q1 K (Cd.wd K xsm) ∧ Bs w' q4 N ws ∧ Bs w' (some ⟨g, 0, none⟩) N ws) ∧ Below w.heap.size w w')) := fun W hW => (same_calls q0 q4 N c0 c4 ws W hW.2.1.1 hW.2.1.2.2.1).mono fun _ w' ⟨he, hb⟩ => ⟨he, TBd W hW w' hb⟩
      have K3 : Hid (∀ W, (TQ P Q (N : Nat) (K : Nat) (B : Nat) (.slice q0 N c0) (.slice q1 K c1) (.slice q2 t c2) W ∧ (Bs W q0 N ws ∧ Bs W q1 K (Cd.wd K xsm) ∧ Bs W q4 N ws ∧ Bs W (some ⟨g, 0, none⟩) N ws) ∧ Below w.heap.size w W) → Calls Tryz.prog 17 #[.slice (some ⟨g, 0, none⟩) N cg, .slice q4 N c4] W fun e w' => e = .returned (.bool true) ∧ (TQ P Q (N : Nat) (K : Nat) (B : Nat) (.slice q0 N c0) (.slice q1 K c1) (.slice q2 t c2) w' ∧ (Bs w' q0 N ws ∧ Bs w' q1 K (Cd.wd K xsm) ∧ Bs w' q4 N ws ∧ Bs w' (some ⟨g, 0, none⟩) N ws) ∧ Below w.heap.size w w')) := fun W hW => (same_calls _ q4 N cg c4 ws W hW.2.1.2.2.2 hW.2.1.2.2.1).mono fun _ w' ⟨he, hb⟩ => ⟨he, TBd W hW w' hb⟩
      have K4 : Hid (∀ W, (TQ P Q (N : Nat) (K : Nat) (B : Nat) (.slice q0 N c0) (.slice q1 K c1) (.slice q2 t c2) W ∧ (Bs W q0 N ws ∧ Bs W q1 K (Cd.wd K xsm) ∧ Bs W q4 N ws ∧ Bs W (some ⟨g, 0, none⟩) N ws) ∧ Below w.heap.size w W) → Calls Tryz.prog 11 #[.agg #[.int .i64 (N : Nat), .int .i64 (K : Nat), .int .i64 (B : Nat)], .slice qm lm cm] W fun e w' => ∃ qa ca, e = .returned (.slice qa K ca) ∧ Hid (Bs w' qa K (Cd.wd K xsm)) ∧ (TQ P Q (N : Nat) (K : Nat) (B : Nat) (.slice q0 N c0) (.slice q1 K c1) (.slice q2 t c2) w' ∧ (Bs w' q0 N ws ∧ Bs w' q1 K (Cd.wd K xsm) ∧ Bs w' q4 N ws ∧ Bs w' (some ⟨g, 0, none⟩) N ws) ∧ Below w.heap.size w w')) := fun W hW => (lmsg_calls K lm cm N B qm xsm (by have := HM.out.2.2.1; have := HM.out.1.n; omega) W (HS.out.1.below hW.2.2)).mono fun e w' ⟨v, he, hO, hb⟩ => by
        obtain ⟨qa, ca, rfl, Sa, -, -⟩ := hO.tell (n := K) (Cd.wd_byt HS.out.1.byte K) (Cd.wd_length K xsm)
        exact ⟨qa, ca, he, Sa, TBd W hW w' hb⟩
      have K5 : Hid (∀ qa ca W, (TQ P Q (N : Nat) (K : Nat) (B : Nat) (.slice q0 N c0) (.slice q1 K c1) (.slice q2 t c2) W ∧ (Bs W q0 N ws ∧ Bs W q1 K (Cd.wd K xsm) ∧ Bs W q4 N ws ∧ Bs W (some ⟨g, 0, none⟩) N ws) ∧ Below w.heap.size w W) → Hid (Bs W qa K (Cd.wd K xsm)) → Calls Tryz.prog 17 #[.slice q1 K c1, .slice qa K ca] W fun e w' => e = .returned (.bool true) ∧ (TQ P Q (N : Nat) (K : Nat) (B : Nat) (.slice q0 N c0) (.slice q1 K c1) (.slice q2 t c2) w' ∧ (Bs w' q0 N ws ∧ Bs w' q1 K (Cd.wd K xsm) ∧ Bs w' q4 N ws ∧ Bs w' (some ⟨g, 0, none⟩) N ws) ∧ Below w.heap.size w w')) := fun qa ca W hW hA => (same_calls q1 qa K c1 ca (Cd.wd K xsm) W hW.2.1.2.1 hA.out).mono fun _ w' ⟨he, hb⟩ => ⟨he, TBd W hW w' hb⟩
      have z0 := HBw.out.2.1.a0
      have z1 := HBw.out.2.1.a1
      have hC := HBw.out.2.1.cb
      have u0 := (hC).c0
      have u1 := (hC).c1
      have u2 := (hC).c2
      clear hC TBd hbw hOb S9 HR HBw hlt
      go_wp2
      go_region_held3 (fun w' => w'.cell? ⟨P, 0, none⟩ = some (.int .i64 (N : Nat)) ∧ w'.cell? ⟨P, 1, none⟩ = some (.int .i64 (K : Nat)) ∧ w'.cell? ⟨P, 2, none⟩ = some (.int .i64 (B : Nat)) ∧ w'.cell? ⟨Q, 0, none⟩ = some (.slice q0 N c0) ∧ w'.cell? ⟨Q, 1, none⟩ = some (.slice q1 K c1))
        (first | (with_reducible exact ⟨hT5.1.cb.c0, hT5.1.cb.c1, hT5.1.cb.c2, hT5.1.a0, hT5.1.a1⟩) | (with_reducible exact ⟨hT4.1.cb.c0, hT4.1.cb.c1, hT4.1.cb.c2, hT4.1.a0, hT4.1.a1⟩) | (with_reducible exact ⟨hT3.1.cb.c0, hT3.1.cb.c1, hT3.1.cb.c2, hT3.1.a0, hT3.1.a1⟩) | (with_reducible exact ⟨hT2.1.cb.c0, hT2.1.cb.c1, hT2.1.cb.c2, hT2.1.a0, hT2.1.a1⟩) | (with_reducible exact ⟨hT1.1.cb.c0, hT1.1.cb.c1, hT1.1.cb.c2, hT1.1.a0, hT1.1.a1⟩) | (with_reducible exact ⟨hT0.1.cb.c0, hT0.1.cb.c1, hT0.1.cb.c2, hT0.1.a0, hT0.1.a1⟩))
        (first
          | (go_at_call 16; with_reducible refine (K1.out _ hT0).mono ?_; rintro e x1 ⟨rfl, hT1⟩)
          | (go_at_call 17; with_reducible refine (K2.out _ hT1).mono ?_; rintro e x2 ⟨rfl, hT2⟩)
          | (go_at_call 17; with_reducible refine (K3.out _ hT2).mono ?_; rintro e x3 ⟨rfl, hT3⟩)
          | (go_at_call 11; with_reducible refine (K4.out _ hT3).mono ?_; rintro e x4 ⟨qa, ca, rfl, hA, hT4⟩)
          | (go_at_call 17; with_reducible refine (K5.out _ _ _ hT4 hA).mono ?_; rintro e x5 ⟨rfl, hT5⟩))
      go_wp2
      go_ret
      exact ⟨rfl, hT5.2.2⟩
theorem own : ownKnob Tryz.prog.godebug = none := by kernel_rfl
theorem laidOut : laidOutB Tryz.prog = true := by kernel_rfl
set_option maxRecDepth 100000 in
theorem lifted (os : Os) (started : os.Started) (H : Type) (enc : TypeId × Value → H) :
    ReturnsInHanded {} Tryz.checked os 6 .any (Rows.checkAnswerSpec.pre6 enc Tryz.prog Tryz.f6 Rows.checkAnswerRow.domain false) (Rows.checkAnswerSpec.post enc Tryz.prog Tryz.f6 false true false false) := by
  refine returnsInHanded_of_change_sized (C := Tryz.checked) own started (by kernel_rfl) Tryz.func6
    (ChangeSpec.witness6 (enc := enc) (C := Tryz.checked) false ⟨#[], #[.int .u8 0, .int .u8 0, .int .u8 0, .slice none 0 0, .slice none 0 0, .slice none 0 0], []⟩ 8 (by kernel_rfl) (by kernel_rfl) (by kernel_rfl) (by kernel_rfl)) ?_
  intro W base args ds gs before hval0 hW _ hz _
  have hval : ∀ (j : Nat) t v, Tryz.f6.params[j]? = some t → args[j]? = some v → Value.okWide Tryz.prog W .any base t v := hval0
  have hW' := hW
  obtain ⟨p, q, hA0, hV, rfl, _, _⟩ := hW
  have hA : DataW.TrodAll enc Tryz.prog W 0 (fun _ => true) true Tryz.f6.params.toList args.toList ds p := hA0
  rw [Tryz.params6] at hA hval
  obtain ⟨v0, vs0, d0, ds0, p0, q0, hargs, rfl, rfl, h0, r0⟩ := trodAll_cons hA
  obtain ⟨v1, vs1, d1, ds1, p1, q1, rfl, rfl, rfl, h1, r1⟩ := trodAll_cons r0
  obtain ⟨v2, vs2, d2, ds2, p2, q2, rfl, rfl, rfl, h2, r2⟩ := trodAll_cons r1
  obtain ⟨v3, vs3, d3, ds3, p3, q3, rfl, rfl, rfl, h3, r3⟩ := trodAll_cons r2
  obtain ⟨v4, vs4, d4, ds4, p4, q4, rfl, rfl, rfl, h4, r4⟩ := trodAll_cons r3
  obtain ⟨v5, vs5, d5, ds5, p5, q5, rfl, rfl, rfl, h5, r5⟩ := trodAll_cons r4
  obtain ⟨rfl, rfl, rfl⟩ := trodAll_nil r5
  obtain rfl : args = #[v0, v1, v2, v3, v4, v5] := by cases args; simp_all
  obtain ⟨rfl, rfl⟩ := trodVars_none hV
  obtain ⟨a0, rfl, rfl, rfl, w0⟩ := open_int Tryz.underlying5 (hval 0 5 v0 rfl rfl) h0
  obtain ⟨n0, b0, rfl⟩ := nat_of_u8 w0
  obtain ⟨a1, rfl, rfl, rfl, w1⟩ := open_int Tryz.underlying5 (hval 1 5 v1 rfl rfl) h1
  obtain ⟨n1, b1, rfl⟩ := nat_of_u8 w1
  obtain ⟨a2, rfl, rfl, rfl, w2⟩ := open_int Tryz.underlying5 (hval 2 5 v2 rfl rfl) h2
  obtain ⟨n2, b2, rfl⟩ := nat_of_u8 w2
  have k3 := h3
  obtain ⟨q3, n3, c3, xs3, rfl, w3, m3⟩ := open_bytes_sz Tryz.underlying22 Tryz.underlying5 (by kernel_rfl) (hval 3 22 v3 rfl rfl) h3
  have y3 : n3 ≤ c3 ∧ c3 ≤ 140737488351232 := ⟨m3.1, m3.2 _ fun el sp hd => by have := sized_slice (j := 3) (t := 22) (e := 5) (elems := el) (spare := sp) hz (by kernel_rfl) (by first | (rw [← hd]; done) | (rw [← hd]; rfl)) Tryz.underlying22; have hbe : Tryz.checked.prog.bytesOf 5 = 1 := (by kernel_rfl); have hre : reachBytes = 140737488351232 := rfl; rw [hbe, hre] at this; omega⟩
  have k4 := h4
  obtain ⟨q4, n4, c4, xs4, rfl, w4, m4⟩ := open_bytes_sz Tryz.underlying22 Tryz.underlying5 (by kernel_rfl) (hval 4 22 v4 rfl rfl) h4
  have y4 : n4 ≤ c4 ∧ c4 ≤ 140737488351232 := ⟨m4.1, m4.2 _ fun el sp hd => by have := sized_slice (j := 4) (t := 22) (e := 5) (elems := el) (spare := sp) hz (by kernel_rfl) (by first | (rw [← hd]; done) | (rw [← hd]; rfl)) Tryz.underlying22; have hbe : Tryz.checked.prog.bytesOf 5 = 1 := (by kernel_rfl); have hre : reachBytes = 140737488351232 := rfl; rw [hbe, hre] at this; omega⟩
  have k5 := h5
  obtain ⟨q5, n5, c5, xs5, rfl, w5, m5⟩ := open_bytes_sz Tryz.underlying22 Tryz.underlying5 (by kernel_rfl) (hval 5 22 v5 rfl rfl) h5
  have y5 : n5 ≤ c5 ∧ c5 ≤ 140737488351232 := ⟨m5.1, m5.2 _ fun el sp hd => by have := sized_slice (j := 5) (t := 22) (e := 5) (elems := el) (spare := sp) hz (by kernel_rfl) (by first | (rw [← hd]; done) | (rw [← hd]; rfl)) Tryz.underlying22; have hbe : Tryz.checked.prog.bytesOf 5 = 1 := (by kernel_rfl); have hre : reachBytes = 140737488351232 := rfl; rw [hbe, hre] at this; omega⟩
  clear hA0 hval0
  simp only [List.append_nil] at hW'
  refine (walk (w := W) n0 n1 n2 q3 n3 c3 xs3 q4 n4 c4 xs4 q5 n5 c5 xs5 b0 b1 b2 w3 y3 w4 y4 w5 y5).mono fun e W' ⟨he, bel⟩ => ?_
  subst he
  exact ⟨_, rfl, _, _, _, [], _, [], hW', trodAll_mk1 (shut_bool Tryz.underlying4 _), (trodAll_cons_mk (shut_int Tryz.underlying5 w0) (trodAll_cons_mk (shut_int Tryz.underlying5 w1) (trodAll_cons_mk (shut_int Tryz.underlying5 w2) (trodAll_cons_mk (shut_same laidOut (by kernel_rfl) (of_decide_eq_true (by kernel_rfl)) k3 bel) (trodAll_cons_mk (shut_same laidOut (by kernel_rfl) (of_decide_eq_true (by kernel_rfl)) k4 bel) (trodAll_cons_mk (shut_same laidOut (by kernel_rfl) (of_decide_eq_true (by kernel_rfl)) k5 bel) trodAll_mk0)))))), rfl, bel.frame _, fun h => by cases h⟩
theorem over : Rows.checkAnswerRow.holds Tryz.pinned (OpenSpec.ofChange Rows.checkAnswerSpec) :=
  OpenClaim.holds_of_wide 6 Tryz.f6 rfl rfl rfl rfl rfl rfl rfl ⟨rfl, rfl, rfl, rfl, rfl⟩ rfl rfl rfl rfl rfl (by kernel_rfl) Tryz.func6 (by kernel_rfl)
    (of_decide_eq_true (by kernel_rfl)) (by unfold Func.isWrapper; first | (rw [if_pos (by decide +kernel)]; kernel_rfl) | (rw [if_neg (by decide +kernel)]; exact ⟨rfl, rfl⟩))
    (fun os started H enc _ => lifted os started H enc)
theorem proved : Rows.CheckAnswerSaid := over
#print axioms proved
end Go.Proofs.YtjnkkokhkooegaaGreat.checkAnswer
