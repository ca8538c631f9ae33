/-
  OUR OWN TEXT. The program's Agenda.
-/
import Derived.Test.YtofflfaineodmaaGreatZx
import Derived.Test.YtofflfaineodmaaGreatZn
import Derived.Deep.DeepCutAuto
namespace Go.Proofs.YtofflfaineodmaaGreat
open Go.RowKit
attribute [local go_sem ↓] Go.wp_at_zero Go.wp_at_succ

/-- Instantiations that lie in memory, each with a row of tags that is there. -/
def InsS (w : World) (a : Option Addr) (xs : List In) : Prop :=
  ∀ (i : Nat) (x : In), xs[i]? = some x → ∃ b o bt ot ct, a = some ⟨b, o, none⟩ ∧ w.cell? ⟨b, o + i * 2, none⟩ = some (.int .i64 x.rule) ∧ w.cell? ⟨b, o + i * 2 + 1, none⟩ = some (.slice (some ⟨bt, ot, none⟩) x.tags.length ct) ∧ IntsAt none w (some ⟨bt, ot, none⟩) x.tags
theorem InsS.below {w w' : World} {a : Option Addr} {xs : List In} (h : InsS w a xs) (hb : Below w.heap.size w w') : InsS w' a xs := by
  intro i x hx
  obtain ⟨b, o, bt, ot, ct, e, h0, h1, hi⟩ := h i x hx
  exact ⟨b, o, bt, ot, ct, e, cell_below hb h0, cell_below hb h1, hi.below hb⟩
def itIn (x : It) : In := ⟨x.rule, x.tags⟩
theorem upto_fn (L : List EnX) : upto (fn L) L.length = L.map Prod.fst := by
  have h := congrArg (List.map Prod.fst) (upto_gn L)
  unfold upto at h ⊢
  rw [List.map_map] at h
  exact h
theorem apart_symm {x y : Value} (h : Apart x y) : Apart y x := fun g h1 h2 => h g h2 h1
theorem agM_no {rs : List Ru} {xs : List In} (h : agOk rs xs = false) : agM rs xs = [] := by unfold agM; rw [h]; rfl
theorem agM_yes {rs : List Ru} {xs : List In} (h : agOk rs xs = true) : agM rs xs = agS rs xs := if_pos h
theorem agOk_bad {rs : List Ru} {xs : List In} {x : In} (hx : x ∈ xs) (h : placedI rs x = false) : agOk rs xs = false := by
  unfold agOk
  have : xs.all (placedI rs) = false := by
    rw [List.all_eq_false]
    exact ⟨x, hx, by simp [h]⟩
  simp [this]
theorem Iw.fra {w w' : World} {b1 base bf : Nat} {a : Option Addr} {c : Nat} {L : List ItX} (h : Iw w b1 base a c L) (hf : FrA bf w w') : Iw w' b1 base a c L :=
  h.kept (fun g hg => by
    rcases hg with hg | ⟨x, hx, hg⟩
    · obtain ⟨c, hc⟩ := own_type h.row hg
      exact (hf.cel g c _ _ hc (by decide) (by decide)).trans hc.symm
    · obtain ⟨c, hc⟩ := own_type (h.all x hx).ot hg
      exact (hf.cel g c _ _ hc (by decide) (by decide)).trans hc.symm)
theorem AgB.grown {rs : List Ru} {w w' : World} {base lb : Nat} {L : List EnX} {row : Option Nat} (h : AgB rs w base lb L) (hg : w.grownBy w' row) (ht : ∀ k, row = some k → ∃ c, w.heap[k]? = some (.cells c 47 (0, 0))) : AgB rs w' base lb L := by
  obtain ⟨a, c, h1, h2⟩ := h
  refine ⟨a, c, (hg.block lb (lt_of_block' h1) (fun e => ?_)).trans h1, own_grown h2.row hg ht (by decide), fun x hx => (h2.all x hx).same (fun k c' hk => hg.block k (lt_of_block' hk) (fun e => ?_))⟩
  · obtain ⟨_, h3⟩ := ht lb e.symm
    exact own_far h3 h1 (by decide)
  · obtain ⟨_, h3⟩ := ht k e.symm
    exact own_far h3 hk (by decide)
theorem infoItG : (Tryz.prog.info? 47).map (fun i => (i.zero, i.size, i.bytes)) = some (some (.agg #[.int .i64 0, .slice none 0 0]), 2, 32) := by kernel_rfl
/-- What the first loop holds. -/
def AgI1 (rs : List Ru) (xs : List In) (w : World) (lb k : Nat) (wr : World) : Prop := ∃ LL : List EnX, (LL.map Prod.fst).Perm (xs.take k) ∧ AgB rs wr w.heap.size lb LL ∧ HeapF (befI rs) (fn LL) LL.length ∧ (∀ x ∈ xs.take k, placedI rs x = true) ∧ (LL.map (fun y : EnX => y.2.2)).Pairwise Apart ∧ Below w.heap.size w wr
/-- What the second loop holds. -/
def AgI2 (rs : List Ru) (xs : List In) (w : World) (lb : Nat) (sv : Value) (wr : World) : Prop := ∃ (LL : List EnX) (M : List ItX) (a : Option Addr) (c : Nat), sv = .slice a M.length c ∧ M.length + LL.length = xs.length ∧ Iw wr w.heap.size w.heap.size a c M ∧ AgB rs wr w.heap.size lb LL ∧ HeapF (befI rs) (fn LL) LL.length ∧ OutF (befI rs) xs (M.map (fun y => itIn y.1)) (fn LL) LL.length ∧ (M.map Prod.snd ++ LL.map (fun y : EnX => y.2.2)).Pairwise Apart ∧ Below w.heap.size w wr
def lenV : Value → Nat
  | .slice _ n _ => n
  | _ => 0
theorem take_snoc' {α : Type} {l : List α} {j : Nat} {x : α} (h : l[j]? = some x) : l.take (j + 1) = l.take j ++ [x] := by
  rw [List.take_add_one, h]
  rfl
set_option maxRecDepth 100000 in
set_option maxHeartbeats 6400000 in
theorem iAgenda_any (rs : List Ru) (xs : List In) (a : Option Addr) (c : Nat) (xa : Option Addr) (xc : Nat) {q : Option Nat} (w : World) (hv : RusAt q w a rs) (hc : rs.length ≤ c) (hle : ListLe Ru.le 1048576 rs) (ho : ∀ x ∈ rs, OpsOk x.exprs) (hx : InsS w xa xs) (hlx : xs.length ≤ 1048576) (hts : ∀ x ∈ xs, x.tags.length ≤ 1048576) :
    Calls Tryz.prog 9 #[.slice a rs.length c, .slice xa xs.length xc] w (AgPost ((agM rs xs).map inIt) w) := by
  have hl : rs.length ≤ 1048576 := hle.1
  have HCK := hidA (iCheckRules_any a c rs w hv hc hle ho)
  have HV := hidA hv
  have HX := hidA hx
  have HTS := hidA hts
  unfold ckV at HCK
  obtain ⟨p0, hp0⟩ : ∃ z, z = (chk rs).1 := ⟨_, rfl⟩
  rw [← hp0] at HCK
  generalize (chk rs).2.1 = p1 at HCK
  generalize (chk rs).2.2 = p2 at HCK
  have hfd : ∀ w : World, (Instr.field 59 (.agg #[.int .i64 p0, .int .i64 p1, .int .i64 p2]) 0).run Tryz.prog w = .ok (.int .i64 p0) w := fun _ => by kernel_rfl
  have HP0 := hidA hp0
  clear hv hx hle ho hts hp0
  by_cases hz : p0 = 0
  · subst hz
    by_cases h1000 : xs.length ≤ 1000
    · have hcmp : ¬ (1000 : Int) < (xs.length : Int) := by omega
      have HOK := hidA (show (∀ x ∈ xs, placedI rs x = true) → agM rs xs = agS rs xs from fun h => agM_yes (by unfold agOk; rw [← HP0.out]; simp [h1000]; exact h))
      go_enter Tryz.func9, Tryz.ntmps9
      go_wp2_with fail
      refine HCK.out.mono ?_
      rintro e w1 ⟨rfl, hb1⟩
      have B1 := hidA hb1
      clear hb1 HCK
      go_upto_region 4 with fail
      refine lift_alloc ?_
      intro w2 hW2 hq2
      obtain ⟨lb, hlb⟩ : ∃ b, b = w1.heap.size := ⟨_, rfl⟩
      rw [← hlb] at hq2 ⊢
      have B2 := hidA (B1.out.trans (hW2.mono B1.out.size))
      have hbl : w.heap.size ≤ lb := by have := B1.out.size; omega
      have I0 := hidA (show AgI1 rs xs w lb 0 w2 from ⟨[], by simp, ⟨none, 0, hq2, AgO.nil _ _ _⟩, fun k hk => by simp at hk, by simp, List.Pairwise.nil, B2.out⟩)
      clear hW2 hq2 hlb hfd B1 B2
      go_wp2_with fail
      go_loopw [20] (fun iv wr => ∃ k : Nat, iv = .int .i64 (k : Int) ∧ k ≤ xs.length ∧ AgI1 rs xs w lb k wr) (fun iv _ => xs.length - (intOf iv).toNat)
      case atStart => exact ⟨0, rfl, Nat.zero_le _, I0.out⟩
      case round =>
        obtain ⟨k, rfl, hkl, LL, hP, hB, hH, hpl, hap, hb⟩ := hrel
        have PP := hidA hP
        have BB := hidA hB
        have HH := hidA hH
        have PL := hidA hpl
        have AP := hidA hap
        have WB := hidA hb
        have hLL : LL.length ≤ 1000 := by have := hP.length_eq; rw [List.length_map, List.length_take] at this; omega
        clear hP hB hH hpl hap hb I0
        by_cases hk : k < xs.length
        · obtain ⟨x, hx⟩ : ∃ x, xs[k]? = some x := ⟨xs[k], by simp [hk]⟩
          obtain ⟨b, o, bt, ot, ct, rfl, c0, c1, hi⟩ := (HX.out.below WB.out) k x hx
          have hxm := List.mem_of_getElem? hx
          have hxt := HTS.out x hxm
          have HI := hidA hi
          have HTK := hidA (take_snoc' hx)
          have HXM := hidA hxm
          have z0 : (0 : Int) ≤ (k : Int) := by omega
          have z1 : (k : Int) < (xs.length : Int) := by omega
          clear hx hi hxm
          go_upto_region 7 with fail
          refine lift_alloc ?_
          intro w3 hW3 hq3
          obtain ⟨tb, htb⟩ : ∃ b, b = wr.heap.size := ⟨_, rfl⟩
          rw [← htb] at hq3 ⊢
          have d0 : w3.cell? ⟨tb, 0, none⟩ = some (.int .i64 x.rule) := by simp [World.cell?, hq3]
          have d1 : w3.cell? ⟨tb, 1, none⟩ = some (.slice (some ⟨bt, ot, none⟩) x.tags.length ct) := by simp [World.cell?, hq3]
          have B3 := hidA (BB.out.bel hW3)
          have W3 := hidA (WB.out.trans (hW3.mono WB.out.size))
          have I3 := hidA (HI.out.below hW3)
          have HPL := hidA (placed_any rs a c x (some ⟨bt, ot, none⟩) ct w3 hl hxt)
          clear hW3 hq3 htb c0 c1
          cases hp : placedI rs x
          · rw [hp] at HPL
            have HN := hidA (show (agM rs xs).map inIt = [] by rw [agM_no (agOk_bad HXM.out hp)]; rfl)
            clear hp
            go_wp2_with fail
            refine HPL.out.mono ?_
            rintro e w4 ⟨rfl, hb4⟩
            have W4 := hidA (W3.out.trans (hb4.mono W3.out.size))
            clear hb4 HPL
            go_wp2_with fail
            go_ret
            exact AgPost.nil HN.out W4.out
          · rw [hp] at HPL
            have HPX := hidA hp
            clear hp
            go_wp2_with fail
            refine HPL.out.mono ?_
            rintro e w4 ⟨rfl, hb4⟩
            have W4 := hidA (W3.out.trans (hb4.mono W3.out.size))
            have B4 := hidA (B3.out.bel hb4)
            have e0 := cell_below hb4 d0
            have e1 := cell_below hb4 d1
            have HNE := hidA (newEntry_own rs a c x bt ot ct w4 (HV.out.below W4.out) (I3.out.below hb4) HPX.out hl)
            have hs4 := W4.out.size
            clear hb4 HPL d0 d1 B3 W3 I3
            go_wp2_with fail
            refine HNE.out.mono ?_
            rintro e w5 ⟨⟨a1, c1, a2, c2, rfl, o1, o2⟩, hb5⟩
            have W5 := hidA (W4.out.trans (hb5.mono W4.out.size))
            have B5 := hidA (B4.out.bel hb5)
            have E5 := hidA (show EnP rs w5 w.heap.size (x, .slice a1 (recA x.tags).length c1, .slice a2 x.tags.length c2) from ⟨HPX.out, ⟨a1, c1, rfl⟩, owns_base o1 hs4, ⟨a2, c2, rfl⟩, owns_base o2 hs4⟩)
            have NEW := hidA (show ∀ y ∈ LL, Apart y.2.2 (.slice a2 x.tags.length c2) from fun y hy g g1 g2 => by
              obtain ⟨_, _, _, hA⟩ := B4.out
              have i1 := ((hA.all y hy).to.lt g g1).2
              have i2 := (o2.lt g g2).1
              omega)
            have HPU := hidA (heapPush_any rs LL w.heap.size lb x a1 a2 c1 c2 w5 B5.out HH.out E5.out hbl (by omega))
            have hs5 := W5.out.size
            unfold agI at HPU
            clear o1 o2 hb5 HNE e0 e1 B4 W4
            go_wp2_with fail
            refine HPU.out.mono ?_
            rintro e w6 ⟨⟨v6, rfl⟩, ⟨L', hB6, hp6, hh6⟩, hf6⟩
            have J6 := hidA (show AgI1 rs xs w lb (k + 1) w6 from ⟨L', by
                rw [HTK.out]
                have h1 := hp6.map Prod.fst
                rw [List.map_append] at h1
                exact h1.trans (PP.out.append_right _), hB6, hh6, fun y hy => by
                rw [HTK.out] at hy
                rcases List.mem_append.1 hy with hy | hy
                · exact PL.out y hy
                · rw [List.mem_singleton.1 hy]
                  exact HPX.out, by
                have h1 := hp6.map (fun y : EnX => y.2.2)
                rw [List.map_append] at h1
                refine (List.Perm.pairwise_iff (fun h => apart_symm h) h1).2 ?_
                rw [List.pairwise_append]
                refine ⟨AP.out, by simp, fun u hu v hv => ?_⟩
                obtain ⟨y, hy, rfl⟩ := List.mem_map.1 hu
                obtain rfl := List.mem_singleton.1 hv
                exact NEW.out y hy, W5.out.trans hf6.bel⟩)
            clear hB6 hp6 hh6 hf6 HPU
            go_wp2_with fail
            go_roundw
            case rel => exact ⟨k + 1, by go_num, by omega, J6.out⟩
            case measure => (simp [intOf]; omega)
        · have hke : k = xs.length := by omega
          have hy : ¬ (k : Int) < (xs.length : Int) := by omega
          have HAL := hidA (show ∀ x ∈ xs, placedI rs x = true from fun x hx => PL.out x (by rw [hke, List.take_length]; exact hx))
          have J0 := hidA (show AgI2 rs xs w lb (.slice none 0 0) wr from ⟨LL, [], none, 0, rfl, by
              have := PP.out.length_eq
              rw [List.length_map, hke, List.take_length] at this
              simpa using this, Iw.nil _ _ _, BB.out, HH.out, ⟨by
              rw [upto_fn]
              have := PP.out
              rw [hke, List.take_length] at this
              simpa using this, List.Pairwise.nil, by simp⟩, by simpa using AP.out, WB.out⟩)
          have HFIN := hidA (HOK.out HAL.out)
          clear hke PP BB HH PL AP WB HOK
          go_wp2_with fail
          go_loopw [8] (fun sv wr => AgI2 rs xs w lb sv wr) (fun sv _ => xs.length - lenV sv)
          case atStart => exact J0.out
          case round =>
            obtain ⟨LL, M, oa, oc, rfl, hlen, hIO, hB, hH, hO, hap, hb⟩ := hrel
            obtain ⟨la, lc, hbx, hA⟩ := hB
            have k0 : wr.cell? ⟨lb, 0, none⟩ = some (.slice la LL.length lc) := by simp [World.cell?, hbx]
            have BB := hidA (show AgB rs wr w.heap.size lb LL from ⟨la, lc, hbx, hA⟩)
            have II := hidA hIO
            have HH := hidA hH
            have OO := hidA hO
            have AP := hidA hap
            have WB := hidA hb
            have HA := hidA hA
            have hsr := hb.size
            clear hbx hA hIO hH hO hap hb J0
            by_cases h0 : LL.length = 0
            · have hg : ¬ (0 : Int) < (LL.length : Int) := by omega
              have HF := hidA (show M.map Prod.fst = (agM rs xs).map inIt by
                have h1 := OO.out
                rw [h0] at h1
                have h2 := h1.end
                rw [HFIN.out, ← agS_eq h2.1 h2.2, List.map_map]
                exact List.map_congr_left (fun y _ => rfl))
              have HPW := hidA (show M.Pairwise (fun x y => Apart x.2 y.2) from List.pairwise_map.1 (List.pairwise_append.1 AP.out).1)
              clear h0
              go_wp2_with fail
              refine (agLen_any la LL.length lc wr).mono ?_
              rintro e w7 ⟨rfl, rfl⟩
              go_wp2_with fail
              go_ret
              exact ⟨⟨oa, oc, M, rfl, II.out, HF.out, HPW.out⟩, WB.out⟩
            · obtain ⟨n, hn⟩ : ∃ n, LL.length = n + 1 := ⟨LL.length - 1, by omega⟩
              have hg : (0 : Int) < (LL.length : Int) := by omega
              have hM1 : M.length ≤ 1000 := by omega
              have HN := hidA hn
              have hLN : LL.length ≤ 1000000 := by omega
              have HNX := hidA (next_any rs LL n w.heap.size lb wr BB.out hn HH.out hbl hLN)
              clear h0 hn
              go_wp2_with fail
              refine (agLen_any la LL.length lc wr).mono ?_
              rintro e w7 ⟨rfl, rfl⟩
              clear k0
              go_wp2_with fail
              refine HNX.out.mono ?_
              rintro e w8 ⟨x, L', rfl, hB8, hl8, hp8, hx8, hh8, hf8⟩
              have hxm : x ∈ LL := hp8.mem_iff.1 (by simp)
              have hE8 : EnP rs w8 w.heap.size x := (HA.out.all x hxm).same (fun k c hk => (hf8.cel k c _ _ hk (by decide) (by decide)).trans hk.symm)
              obtain ⟨a2, b2, e2⟩ := hE8.t
              have IT8 := hidA (show ItP w8 w.heap.size (inIt x.1, x.2.2) from ⟨hE8.t, hE8.to⟩)
              have I8 := hidA (II.out.fra hf8)
              have B8 := hidA hB8
              have H8 := hidA hh8
              have L8 := hidA hl8
              have P8 := hidA hp8
              have X8 := hidA hx8
              have W8 := hidA (WB.out.trans hf8.bel)
              have HW8 := hidA (fun o' => (Below.refl _ _).alloc (Nat.le_refl _) o' : ∀ o', Below w8.heap.size w8 (w8.alloc o'))
              have hs8 := W8.out.size
              have E2 := hidA e2
              rw [e2]
              clear hB8 hl8 hp8 hx8 hh8 hf8 HNX hE8 e2 hxm
              go_wp2_with (first | (at_builtin; refine wpList_append_any (by rfl) (.tmp 38) (.tmp 40) 26 (by rfl) w.heap.size 47 _ 2 32 Tryz.underlying26 infoItG (by rfl) (by omega) _ M.length _ (by rfl) (own_bel I8.out.row (HW8.out _)) (some ⟨_, 0, none⟩) 1 1 (by rfl) (itCells (inIt x.1, .slice a2 x.1.tags.length b2)) (by rfl) (fun e => by cases e) (news_new _ _ _ _ (by first | rfl | simp)) (by intro u hu; simp [itCells] at hu; rcases hu with rfl | rfl <;> rfl) (by unfold maxLen; omega) (by omega) (by simp; omega) ?_; intro a9 c9 w9 ho9 hg9 hl9) | fail)
              have J9 := hidA (show AgI2 rs xs w lb (.slice a9 (M.length + 1) c9) w9 from ⟨L', M ++ [(inIt x.1, x.2.2)], a9, c9, by simp, by
                  have h1 := L8.out
                  have h2 := HN.out
                  simp
                  omega, Iw.snoc (I8.out.bel (HW8.out _)) (IT8.out.bel (HW8.out _)) (by rw [E2.out]; exact ho9.out) hg9.out, (B8.out.bel (HW8.out _)).grown hg9.out (fun k hk => own_type (own_bel I8.out.row (HW8.out _)) hk), by rw [L8.out]; exact H8.out, by
                  rw [List.map_append, L8.out]
                  have h1 := OO.out
                  rw [HN.out] at h1
                  have hx0 : x.1 = fn LL 0 := by rw [X8.out]; rfl
                  have h2 : OutF (befI rs) xs (M.map (fun y => itIn y.1) ++ [fn LL 0]) (fn L') n := h1.next (by rw [← HN.out]; exact HH.out.root (bef_strict rs)) (by
                    have h3 := upto_fn L'
                    rw [L8.out] at h3
                    have h4 := upto_fn LL
                    rw [HN.out] at h4
                    rw [h3, h4, ← hx0]
                    have h5 := P8.out.map Prod.fst
                    rw [List.map_append] at h5
                    exact h5)
                  rw [← hx0] at h2
                  exact h2, by
                  rw [List.map_append]
                  refine (List.Perm.pairwise_iff (fun h => apart_symm h) ?_).2 AP.out
                  rw [List.append_assoc]
                  refine List.Perm.append_left _ ?_
                  have h5 := P8.out.map (fun y : EnX => y.2.2)
                  rw [List.map_append] at h5
                  exact (List.perm_append_comm).trans h5, (W8.out.trans ((HW8.out _).mono (by omega))).grown hg9.out (by simp; omega) (fun g hg => (I8.out.row.lt g hg).1)⟩)
              clear ho9 hg9 hl9
              go_roundw
              case rel => exact J9.out
              case measure => (simp [lenV]; omega)
    · have hcmp : (1000 : Int) < (xs.length : Int) := by omega
      have HN := hidA (show (agM rs xs).map inIt = [] by rw [agM_no (by unfold agOk; simp [h1000])]; rfl)
      go_enter Tryz.func9, Tryz.ntmps9
      go_wp2_with fail
      refine HCK.out.mono ?_
      rintro e w1 ⟨rfl, hb1⟩
      have B1 := hidA hb1
      clear hb1 HCK
      go_wp2_with fail
      go_ret
      exact AgPost.nil HN.out B1.out
  · have HN := hidA (show (agM rs xs).map inIt = [] by rw [agM_no (by unfold agOk; rw [← HP0.out]; simp [hz])]; rfl)
    have hne : (p0 != 0) = true := by simpa using hz
    go_enter Tryz.func9, Tryz.ntmps9
    go_wp2_with fail
    refine HCK.out.mono ?_
    rintro e w1 ⟨rfl, hb1⟩
    have B1 := hidA hb1
    clear hb1 HCK
    go_wp2_with fail
    go_ret
    exact AgPost.nil HN.out B1.out
end Go.Proofs.YtofflfaineodmaaGreat
