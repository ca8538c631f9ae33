/-
  OUR OWN TEXT. Am1, Am2, Am3, one behind the other.
-/
import Derived.Test.YtofmgaebgojonaaLl
import Derived.Test.YtofmgaebgojonaaAp3
import Derived.Test.YtofmgaebgojonaaAp4
namespace Go.Proofs.Ytofmgaebgojonaa
open Go.RowKit
attribute [local go_sem ↓] Go.wp_at_zero Go.wp_at_succ

def memOf (x : Al) (fs : List F) : List Int := (fs.filter (passes x)).map F.tag
def mems (xs : List Al) (fs : List F) : List (List Int) := if gFacts fs then xs.map (fun x => memOf x fs) else []
theorem memOf_snoc {x : Al} {fs : List F} {k : Nat} {f : F} (h : fs[k]? = some f) : memOf x (fs.take (k + 1)) = memOf x (fs.take k) ++ (if passes x f then [f.tag] else []) := by
  unfold memOf
  rw [take_succ' fs k f h, List.filter_append, List.map_append]
  cases hp : passes x f <;> simp [hp]
theorem memOf_len (x : Al) (fs : List F) : (memOf x fs).length ≤ fs.length := by
  unfold memOf
  rw [List.length_map]
  exact List.length_filter_le _ _
theorem infoInt : (Try.prog.info? 3).map (fun i => (i.zero, i.size, i.bytes)) = some (some (.int .i64 0), 1, 8) := by kernel_rfl
theorem infoLI : (Try.prog.info? 140).map (fun i => (i.zero, i.size, i.bytes)) = some (some (.slice none 0 0), 1, 24) := by kernel_rfl
theorem news_allocL (w : World) (L : List Value) (t : TypeId) (b : Nat) (hb : b = w.heap.size) (ad : Addr) (e : some (⟨b, 0, none⟩ : Addr) = some ad) (j : Nat) (u : Value) (h : L[j]? = some u) : (w.alloc (.cells L.toArray t)).cell? (ad.add j) = some u := by
  subst hb
  cases e
  rw [Addr.add_mid, Nat.zero_add]
  have hb := heap_alloc_new w (.cells L.toArray t)
  simp only [World.cell?, hb]
  simpa using h
theorem ownsB {w w' : World} {base : Nat} {t : TypeId} {m : Nat} {v : Value} {n : Nat} {xs : List Value} (h : w.ownsRow base t m v n xs) (hb : Below w.heap.size w w') : w'.ownsRow base t m v n xs :=
  owns_of_block h (fun g hg => hb.block g (h.lt g hg).2)

set_option maxHeartbeats 1600000 in
theorem tags_any (x : Al) (a_tests : Option Addr) (c_tests : Nat) (a : Option Addr) (c : Nat) (fs : List F) {q : Option Nat} (w : World) (ht : TtsAt q w a_tests x.tests) (hv : FactsAt w a fs) (hl : x.tests.length ≤ 1048576) (hf : fs.length ≤ 1048576) :
    Calls Try.prog 109 #[.agg #[.string x.cls, .int .i64 x.arity, .slice a_tests x.tests.length c_tests], .slice a fs.length c] w fun e w' =>
      (∃ a' c', e = .returned (.slice a' (memOf x fs).length c') ∧ w'.ownsRow w.heap.size 3 1 (.slice a' (memOf x fs).length c') (memOf x fs).length (icells (memOf x fs))) ∧ Below w.heap.size w w' := by
  have B0 : ∀ o, Below w.heap.size w (w.alloc o) := fun o => (Below.refl _ _).alloc (Nat.le_refl _) _
  go_enter Try.func109, Try.ntmps109
  go_wp2
  go_loopw [5, 10] (fun v i wr => ∃ (k : Nat) (a' : Option Addr) (c' : Nat), k ≤ fs.length ∧ i = .int .i64 k ∧ v = .slice a' (memOf x (fs.take k)).length c' ∧ wr.ownsRow (w.heap.size + 1) 3 1 (.slice a' (memOf x (fs.take k)).length c') (memOf x (fs.take k)).length (icells (memOf x (fs.take k))) ∧ (wr.cell? ⟨w.heap.size, 0, none⟩ = some (.string x.cls) ∧ wr.cell? ⟨w.heap.size, 1, none⟩ = some (.int .i64 x.arity) ∧ wr.cell? ⟨w.heap.size, 2, none⟩ = some (.slice a_tests x.tests.length c_tests)) ∧ w.heap.size < wr.heap.size ∧ Below w.heap.size w wr) (fun _ i _ => fs.length - (intOf i).toNat)
  case atStart => exact ⟨0, none, 0, by omega, rfl, rfl, World.ownsRow_nil _ _ _ _, ⟨by simp [go_sem], by simp [go_sem], by simp [go_sem]⟩, by simp, B0 _⟩
  case round =>
    obtain ⟨k, a', c', hk, rfl, rfl, hown, hbx, hws, hb⟩ := hrel
    have HO := hidA hown
    have HBX := hidA hbx
    clear hown
    by_cases hkl : k < fs.length
    · obtain ⟨f, hfk⟩ : ∃ f, fs[k]? = some f := ⟨fs[k], by simp [hkl]⟩
      obtain ⟨b, o, ea, d0, d1, a2, c2, d2, hvs⟩ := (FactsAt.below hv hb) k f hfk
      subst ea
      have HS := hidA (memOf_snoc (x := x) hfk)
      have hml := memOf_len x (fs.take k)
      have hml2 : (memOf x (fs.take k)).length ≤ k := by have h : (fs.take k).length ≤ k := by simp; omega
                                                         omega
      have R1 : ∀ o, Below wr.heap.size wr (wr.alloc o) := fun o => (Below.refl _ _).alloc (Nat.le_refl _) _
      have q0 := fun o => cell_below (R1 o) hbx.1
      have q1 := fun o => cell_below (R1 o) hbx.2.1
      have q2 := fun o => cell_below (R1 o) hbx.2.2
      have hP := hidA (fun w' h1 h2 => iPass_any x a_tests c_tests f a2 c2 (q := q) w' h1 h2 hl)
      have HTA := hidA (fun o => (ht.below hb).below (R1 o))
      have HVA := hidA (fun o => hvs.below (R1 o))
      clear hbx
      cases hp : passes x f
      · rw [hp] at hP
        have HN : Hid (memOf x (fs.take (k + 1)) = memOf x (fs.take k)) := show memOf x (fs.take (k + 1)) = _ from by rw [HS.out, hp]; simp
        go_wp2_with (go_at_call 50; refine (hP.out _ (HTA.out _) (HVA.out _)).mono ?_; rintro e w1 ⟨rfl, hb1⟩)
        have hW : Below wr.heap.size wr w1 := (R1 _).trans (hb1.mono (by simp))
        go_roundw
        case rel => exact ⟨k + 1, a', c', by omega, by go_num, by rw [HN.out], by rw [HN.out]; exact ownsB HO.out hW, ⟨cell_below hW HBX.out.1, cell_below hW HBX.out.2.1, cell_below hW HBX.out.2.2⟩, Nat.lt_of_lt_of_le hws hW.size, hb.trans (hW.mono hb.size)⟩
        case measure => simp [intOf]; omega
      · rw [hp] at hP
        have HN : Hid (memOf x (fs.take (k + 1)) = memOf x (fs.take k) ++ [f.tag]) := show memOf x (fs.take (k + 1)) = _ from by rw [HS.out, hp]; simp
        go_wp2_with (first | (go_at_call 50; refine (hP.out _ (HTA.out _) (HVA.out _)).mono ?_; rintro e w1 ⟨rfl, hb1⟩; have hW : Below wr.heap.size wr w1 := (R1 _).trans (hb1.mono (by simp)); have f0 : w1.cell? ⟨wr.heap.size, 0, none⟩ = some (.int .i64 f.tag) := cell_below hb1 (by simp [go_sem])) | (at_builtin; refine wpList_append_any (by rfl) (.tmp 17) (.tmp 20) 140 (by rfl) (w.heap.size + 1) 3 _ 1 8 Try.underlying140 infoInt (by rfl) (by omega) _ (memOf x (fs.take k)).length _ (by rfl) ((ownsB HO.out hW).alloc _) (some ⟨_, 0, none⟩) 1 1 (by rfl) [.int .i64 f.tag] (by rfl) (fun e => by cases e) (news_allocL _ _ _ _ (by simp)) (by simp [Value.oneCell']) (by unfold maxLen; omega) (by omega) (by have := hW.size; simp; omega) ?_; intro a3 c3' w3 ho3 hg3 hl3))
        have hW3 : Below (w.heap.size + 1) wr w3 := ((hW.alloc (by have := hW.size; omega) _).mono (by omega)).grown hg3.out (by have := hW.size; simp; omega) (fun g hg => (HO.out.lt g hg).1)
        have hb3 : ∀ j, w3.cell? ⟨w.heap.size, j, none⟩ = wr.cell? ⟨w.heap.size, j, none⟩ := fun j => hW3.cell (p := ⟨w.heap.size, j, none⟩) (by simp)
        have ho3' : w3.ownsRow (w.heap.size + 1) 3 1 (.slice a3 (memOf x (fs.take (k + 1))).length c3') (memOf x (fs.take (k + 1))).length (icells (memOf x (fs.take (k + 1)))) := by
          have := ho3.out
          rw [HN.out]
          simpa [icells] using this
        have hlen : (memOf x (fs.take (k + 1))).length = (memOf x (fs.take k)).length + 1 := by rw [HN.out]; simp
        have HB3 := hidA hb3
        clear hb3
        go_roundw
        case rel => exact ⟨k + 1, a3, c3', by omega, by go_num, by rw [hlen], ho3', ⟨(HB3.out 0).trans HBX.out.1, (HB3.out 1).trans HBX.out.2.1, (HB3.out 2).trans HBX.out.2.2⟩, Nat.lt_of_lt_of_le hws hW3.size, hb.trans (hW3.mono (by omega))⟩
        case measure => simp [intOf]; omega
    · go_wp2
      go_ret
      have h := HO.out
      rw [List.take_of_length_le (by omega)] at h ⊢
      exact ⟨⟨a', c', rfl, owns_base h (by omega)⟩, hb⟩
end Go.Proofs.Ytofmgaebgojonaa

namespace Go.Proofs.Ytofmgaebgojonaa
open Go.RowKit
attribute [local go_sem ↓] Go.wp_at_zero Go.wp_at_succ

/-- What is asked of the question whether facts are good. -/
def GfC (K : Nat) (a : Option Addr) (c : Nat) (fs : List F) (w : World) : Prop := Calls Try.prog K #[.slice a fs.length c] w fun e w' => e = .returned (.bool (gFacts fs)) ∧ Below w.heap.size w w'

/-- One more memory: a list of numbers that was just made. -/
theorem OLL.more {w w2 w3 : World} {base B : Nat} {v v' : Value} {n : Nat} {xss : List (List Int)} {vs : List Value} {xs : List Int} {a2 : Option Addr} {c2 : Nat} (o : Obj) (h : OLL w base v n xss vs) (hb : Below w.heap.size w w2) (hB : w.heap.size ≤ B) (hbase : base ≤ w.heap.size) (hx : w2.ownsRow B 3 1 (.slice a2 xs.length c2) xs.length (icells xs))
    (ho : w3.ownsRow base 140 1 v' (n + 1) (vs ++ [.slice a2 xs.length c2])) (hg : (w2.alloc o).grownBy w3 v.ownBlock) (hl : v'.ownBlock = v.ownBlock ∨ v'.ownBlock = some (w2.alloc o).heap.size) : OLL w3 base v' (n + 1) (xss ++ [xs]) (vs ++ [.slice a2 xs.length c2]) := by
  have A1 : Below w2.heap.size w2 (w2.alloc o) := (Below.refl _ _).alloc (Nat.le_refl _) _
  refine OLL.snoc ((h.below hb).below A1) ⟨⟨a2, c2, rfl⟩, owns_base (ownsB hx A1) (by omega)⟩ ?_ ?_ ho hg hl
  · intro g h1 h2
    have := (h.range (.inl h1)).2
    have := (hx.lt g h2).1
    omega
  · intro y hy g h1 h2
    have := (h.range (.inr ⟨y, hy, h1⟩)).2
    have := (hx.lt g h2).1
    omega

set_option maxHeartbeats 1600000 in
theorem iMems_any (xs : List Al) (a_al : Option Addr) (c_al : Nat) (a_of : Option Addr) (n_of c_of : Nat) (a : Option Addr) (c : Nat) (fs : List F) {q : Option Nat} (w : World) (ha : AlsAt q w a_al xs) (hv : FactsAt w a fs) (hxs : ∀ x ∈ xs, x.tests.length ≤ 1048576) (hl : xs.length ≤ 1048576) (hf : fs.length ≤ 1048576)
    (hG : ∀ w', Below w.heap.size w w' → GfC 108 a c fs w') :
    Calls Try.prog 57 #[.agg #[.slice a_al xs.length c_al, .slice a_of n_of c_of], .slice a fs.length c] w fun e w' =>
      (∃ a' c' vs, e = .returned (.slice a' (mems xs fs).length c') ∧ OLL w' w.heap.size (.slice a' (mems xs fs).length c') (mems xs fs).length (mems xs fs) vs) ∧ Below w.heap.size w w' := by
  have B0 : ∀ o, Below w.heap.size w (w.alloc o) := fun o => (Below.refl _ _).alloc (Nat.le_refl _) _
  have HG := hidA hG
  clear hG
  cases hg : gFacts fs
  · have HM : Hid (mems xs fs = []) := show mems xs fs = [] from by simp [mems, hg]
    go_enter Try.func57, Try.ntmps57
    go_wp2_with (go_at_call 108; refine (HG.out _ (B0 _)).mono ?_; rintro e w1 ⟨rfl, hb1⟩; simp only [hg])
    go_ret
    exact ⟨⟨none, 0, [], by rw [HM.out]; rfl, by rw [HM.out]; exact OLL.nil _ _⟩, (B0 _).trans (hb1.mono (by simp))⟩
  · have HM : Hid (mems xs fs = xs.map (fun x => memOf x fs)) := show mems xs fs = _ from by simp [mems, hg]
    go_enter Try.func57, Try.ntmps57
    go_wp2_with (go_at_call 108; refine (HG.out _ (B0 _)).mono ?_; rintro e w1 ⟨rfl, hb1⟩; simp only [hg]; have n0 : w1.cell? ⟨w.heap.size, 0, none⟩ = some (.slice a_al xs.length c_al) := cell_below hb1 (by simp [go_sem]))
    have hB1 : Below w.heap.size w w1 := (B0 _).trans (hb1.mono (by simp))
    clear n0 hb1 hg HG
    go_loopw [5, 14] (fun v i wr => ∃ (k : Nat) (a' : Option Addr) (c' : Nat) (vs : List Value), k ≤ xs.length ∧ i = .int .i64 k ∧ v = .slice a' k c' ∧ OLL wr w.heap.size (.slice a' k c') k ((xs.take k).map (fun x => memOf x fs)) vs ∧ Below w.heap.size w wr) (fun _ i _ => xs.length - (intOf i).toNat)
    case atStart => exact ⟨0, none, 0, [], by omega, rfl, rfl, OLL.nil _ _, hB1⟩
    case round =>
      obtain ⟨k, a', c', vs, hk, rfl, rfl, ho, hb⟩ := hrel
      have HO := hidA ho
      clear ho
      by_cases hkl : k < xs.length
      · obtain ⟨x, hxk⟩ : ∃ x, xs[k]? = some x := ⟨xs[k], by simp [hkl]⟩
        obtain ⟨b, o, a_t, c_t, ea, hq, d0, d1, d2, htt⟩ := (ha.below hb).get hxk
        subst ea
        have hxl := hxs x (List.mem_of_getElem? hxk)
        have HT : Hid ((xs.take (k + 1)).map (fun x => memOf x fs) = (xs.take k).map (fun x => memOf x fs) ++ [memOf x fs]) := show _ = _ from by rw [take_succ' xs k x hxk]; simp
        have R1 : ∀ o, Below wr.heap.size wr (wr.alloc o) := fun o => (Below.refl _ _).alloc (Nat.le_refl _) _
        have hTG := hidA (fun w' h1 h2 => tags_any x a_t c_t a c fs (q := q) w' h1 h2 hxl hf)
        have HTA := hidA (fun o => htt.below (R1 o))
        have HFA := hidA (fun o => (hv.below hb).below (R1 o))
        go_wp2_with (first | (go_at_call 109; refine (hTG.out _ (HTA.out _) (HFA.out _)).mono ?_; rintro e w2 ⟨⟨a2, c2, rfl, ow2⟩, hb2⟩; have hW : Below wr.heap.size wr w2 := (R1 _).trans (hb2.mono (by simp)); have OW2 := hidA ow2; clear ow2) | (at_builtin; refine wpList_append_any (by rfl) (.tmp 18) (.tmp 22) 92 (by rfl) w.heap.size 140 _ 1 24 Try.underlying92 infoLI (by rfl) (by omega) _ k _ (by rfl) ((HO.out.below hW).own.alloc _) (some ⟨_, 0, none⟩) 1 1 (by rfl) [.slice a2 (memOf x fs).length c2] (by rfl) (fun e => by cases e) (news_allocL _ _ _ _ (by simp)) (by simp [Value.oneCell']) (by unfold maxLen; omega) (by omega) (by have := hW.size; have := hb.size; simp; omega) ?_; intro a3 c3' w3 ho3 hg3 hl3))
        have hOL := OLL.more (.cells #[.slice a2 (memOf x fs).length c2] 140) HO.out hW (by simp) hb.size OW2.out ho3.out hg3.out hl3.out
        have hb3 : Below w.heap.size w w3 := ((hb.trans (hW.mono hb.size)).alloc (by have := hb.size; have := hW.size; omega) _).grown hg3.out (by have := hb.size; have := hW.size; simp; omega) (fun g hg => (HO.out.range (.inl hg)).1)
        have HOL := hidA hOL
        clear hOL
        go_roundw
        case rel => exact ⟨k + 1, a3, c3', vs ++ [.slice a2 (memOf x fs).length c2], by omega, by go_num, rfl, by rw [HT.out]; exact HOL.out, hb3⟩
        case measure => simp [intOf]; omega
      · have hkk : k = xs.length := by omega
        subst hkk
        go_wp2
        go_ret
        have h := HO.out
        rw [List.take_of_length_le (Nat.le_refl _)] at h
        have hml : (mems xs fs).length = xs.length := by rw [HM.out]; simp
        refine ⟨⟨a', c', vs, by rw [hml]; rfl, ?_⟩, hb⟩
        rw [hml, HM.out]
        exact h
end Go.Proofs.Ytofmgaebgojonaa

namespace Go.Proofs.Ytofmgaebgojonaa
open Go.RowKit
attribute [local go_sem ↓] Go.wp_at_zero Go.wp_at_succ

set_option maxHeartbeats 3200000 in
theorem sMems_any (xs : List Al) (a_al : Option Addr) (c_al : Nat) (a_of : Option Addr) (n_of c_of : Nat) (a : Option Addr) (c : Nat) (fs : List F) {q : Option Nat} (w : World) (ha : AlsAt q w a_al xs) (hv : FactsAt w a fs) (hxs : ∀ x ∈ xs, x.tests.length ≤ 1048576) (hl : xs.length ≤ 1048576) (hf : fs.length ≤ 1048576)
    (hG : ∀ w', Below w.heap.size w w' → GfC 65 a c fs w') :
    Calls Try.prog 54 #[.agg #[.slice a_al xs.length c_al, .slice a_of n_of c_of], .slice a fs.length c] w fun e w' =>
      (∃ a' c' vs, e = .returned (.slice a' (mems xs fs).length c') ∧ OLL w' w.heap.size (.slice a' (mems xs fs).length c') (mems xs fs).length (mems xs fs) vs) ∧ Below w.heap.size w w' := by
  have B0 : ∀ o, Below w.heap.size w (w.alloc o) := fun o => (Below.refl _ _).alloc (Nat.le_refl _) _
  have HG := hidA hG
  clear hG
  cases hg : gFacts fs
  · have HM : Hid (mems xs fs = []) := show mems xs fs = [] from by simp [mems, hg]
    go_enter Try.func54, Try.ntmps54
    go_wp2_with (go_at_call 65; refine (HG.out _ (B0 _)).mono ?_; rintro e w1 ⟨rfl, hb1⟩; simp only [hg])
    go_ret
    exact ⟨⟨none, 0, [], by rw [HM.out]; rfl, by rw [HM.out]; exact OLL.nil _ _⟩, (B0 _).trans (hb1.mono (by simp))⟩
  · have HM : Hid (mems xs fs = xs.map (fun x => memOf x fs)) := show mems xs fs = _ from by simp [mems, hg]
    go_enter Try.func54, Try.ntmps54
    go_wp2_with (go_at_call 65; refine (HG.out _ (B0 _)).mono ?_; rintro e w1 ⟨rfl, hb1⟩; simp only [hg]; have n0 : w1.cell? ⟨w.heap.size, 0, none⟩ = some (.slice a_al xs.length c_al) := cell_below hb1 (by simp [go_sem]))
    have hB1 : Below w.heap.size w w1 := (B0 _).trans (hb1.mono (by simp))
    clear n0 hb1 hg HG
    go_loopw [5, 17] (fun v i wr => ∃ (k : Nat) (a' : Option Addr) (c' : Nat) (vs : List Value), k ≤ xs.length ∧ i = .int .i64 k ∧ v = .slice a' k c' ∧ OLL wr w.heap.size (.slice a' k c') k ((xs.take k).map (fun x => memOf x fs)) vs ∧ Below w.heap.size w wr) (fun _ i _ => xs.length - (intOf i).toNat)
    case atStart => exact ⟨0, none, 0, [], by omega, rfl, rfl, OLL.nil _ _, hB1⟩
    case round =>
      obtain ⟨k, a', c', vs, hk, rfl, rfl, ho, hb⟩ := hrel
      have HO := hidA ho
      clear ho
      by_cases hkl : k < xs.length
      · obtain ⟨x, hxk⟩ : ∃ x, xs[k]? = some x := ⟨xs[k], by simp [hkl]⟩
        obtain ⟨b, o, a_t, c_t, ea, hq, d0, d1, d2, htt⟩ := (ha.below hb).get hxk
        subst ea
        have hxl := hxs x (List.mem_of_getElem? hxk)
        have HT : Hid ((xs.take (k + 1)).map (fun x => memOf x fs) = (xs.take k).map (fun x => memOf x fs) ++ [memOf x fs]) := show _ = _ from by rw [take_succ' xs k x hxk]; simp
        have HTT := hidA htt
        obtain ⟨wo, rfl⟩ : ∃ u, u = wr := ⟨wr, rfl⟩
        have B1 : ∀ o, Below wo.heap.size wo (wo.alloc o) := fun o => (Below.refl _ _).alloc (Nat.le_refl _) _
        clear htt
        go_wp2
        clear d0 d1 d2 hq
        go_loopw [8, 23] (fun v i wr => ∃ (m : Nat) (a2 : Option Addr) (c2 : Nat), m ≤ fs.length ∧ i = .int .i64 m ∧ v = .slice a2 (memOf x (fs.take m)).length c2 ∧ wr.ownsRow (wo.heap.size + 1) 3 1 (.slice a2 (memOf x (fs.take m)).length c2) (memOf x (fs.take m)).length (icells (memOf x (fs.take m))) ∧ Below (wo.heap.size + 1) (wo.alloc (.cells #[.string x.cls, .int .i64 x.arity, .slice a_t x.tests.length c_t] 66)) wr) (fun _ i _ => fs.length - (intOf i).toNat)
        case atStart => exact ⟨0, none, 0, by omega, rfl, rfl, World.ownsRow_nil _ _ _ _, (Below.refl _ _)⟩
        case round =>
          obtain ⟨m, a2, c2, hm, rfl, rfl, how, hbW⟩ := hrel
          have HOW := hidA how
          clear how
          have hBo : Below wo.heap.size wo wr := (B1 _).trans (hbW.mono (by omega))
          have hBw : Below w.heap.size w wr := hb.trans (hBo.mono hb.size)
          have hsz : wo.heap.size + 1 ≤ wr.heap.size := by have := hbW.size; simpa using this
          by_cases hml : m < fs.length
          · obtain ⟨f, hfk⟩ : ∃ f, fs[m]? = some f := ⟨fs[m], by simp [hml]⟩
            obtain ⟨b2, o2, ea, e0, e1, a3, c3, e2, hvs⟩ := (FactsAt.below hv hBw) m f hfk
            subst ea
            have HS := hidA (memOf_snoc (x := x) hfk)
            have hml1 := memOf_len x (fs.take m)
            have hml2 : (memOf x (fs.take m)).length ≤ m := by have h : (fs.take m).length ≤ m := by simp; omega
                                                               omega
            have R1 : ∀ o, Below wr.heap.size wr (wr.alloc o) := fun o => (Below.refl _ _).alloc (Nat.le_refl _) _
            have q0 : ∀ o, (wr.alloc o).cell? ⟨wo.heap.size, 0, none⟩ = some (.string x.cls) := fun o => cell_below (R1 o) ((hbW.cell (p := ⟨wo.heap.size, 0, none⟩) (by simp)).trans (by simp [go_sem]))
            have q1 : ∀ o, (wr.alloc o).cell? ⟨wo.heap.size, 1, none⟩ = some (.int .i64 x.arity) := fun o => cell_below (R1 o) ((hbW.cell (p := ⟨wo.heap.size, 1, none⟩) (by simp)).trans (by simp [go_sem]))
            have q2 : ∀ o, (wr.alloc o).cell? ⟨wo.heap.size, 2, none⟩ = some (.slice a_t x.tests.length c_t) := fun o => cell_below (R1 o) ((hbW.cell (p := ⟨wo.heap.size, 2, none⟩) (by simp)).trans (by simp [go_sem]))
            have hP := hidA (fun w' h1 h2 => sPass_any x a_t c_t f a3 c3 (q := q) w' h1 h2 hxl)
            have HTA := hidA (fun o => (HTT.out.below hBo).below (R1 o))
            have HVA := hidA (fun o => hvs.below (R1 o))
            cases hp : passes x f
            · rw [hp] at hP
              have HN : Hid (memOf x (fs.take (m + 1)) = memOf x (fs.take m)) := show memOf x (fs.take (m + 1)) = _ from by rw [HS.out, hp]; simp
              go_wp2_with (go_at_call 47; refine (hP.out _ (HTA.out _) (HVA.out _)).mono ?_; rintro e w1 ⟨rfl, hb1⟩)
              have hW : Below wr.heap.size wr w1 := (R1 _).trans (hb1.mono (by simp))
              go_roundw
              case rel => exact ⟨m + 1, a2, c2, by omega, by go_num, by rw [HN.out], by rw [HN.out]; exact ownsB HOW.out hW, hbW.trans (hW.mono hsz)⟩
              case measure => simp [intOf]; omega
            · rw [hp] at hP
              have HN : Hid (memOf x (fs.take (m + 1)) = memOf x (fs.take m) ++ [f.tag]) := show memOf x (fs.take (m + 1)) = _ from by rw [HS.out, hp]; simp
              go_wp2_with (first | (go_at_call 47; refine (hP.out _ (HTA.out _) (HVA.out _)).mono ?_; rintro e w1 ⟨rfl, hb1⟩; have hW : Below wr.heap.size wr w1 := (R1 _).trans (hb1.mono (by simp)); have f0 : w1.cell? ⟨wr.heap.size, 0, none⟩ = some (.int .i64 f.tag) := cell_below hb1 (by simp [go_sem])) | (at_builtin; refine wpList_append_any (by rfl) (.tmp 30) (.tmp 33) 140 (by rfl) (wo.heap.size + 1) 3 _ 1 8 Try.underlying140 infoInt (by rfl) (by omega) _ (memOf x (fs.take m)).length _ (by rfl) ((ownsB HOW.out hW).alloc _) (some ⟨_, 0, none⟩) 1 1 (by rfl) [.int .i64 f.tag] (by rfl) (fun e => by cases e) (news_allocL _ _ _ _ (by simp)) (by simp [Value.oneCell']) (by unfold maxLen; omega) (by omega) (by have := hW.size; simp; omega) ?_; intro a4 c4 w3 ho3 hg3 hl3))
              have hW3 : Below (wo.heap.size + 1) wr w3 := ((hW.alloc (by have := hW.size; omega) _).mono (by omega)).grown hg3.out (by have := hW.size; simp; omega) (fun g hg => (HOW.out.lt g hg).1)
              have ho3' : w3.ownsRow (wo.heap.size + 1) 3 1 (.slice a4 (memOf x (fs.take (m + 1))).length c4) (memOf x (fs.take (m + 1))).length (icells (memOf x (fs.take (m + 1)))) := by
                have := ho3.out
                rw [HN.out]
                simpa [icells] using this
              have hlen : (memOf x (fs.take (m + 1))).length = (memOf x (fs.take m)).length + 1 := by rw [HN.out]; simp
              go_roundw
              case rel => exact ⟨m + 1, a4, c4, by omega, by go_num, by rw [hlen], ho3', hbW.trans hW3⟩
              case measure => simp [intOf]; omega
          · have hfull : fs.take m = fs := List.take_of_length_le (by omega)
            have OW2 : Hid (wr.ownsRow (wo.heap.size + 1) 3 1 (.slice a2 (memOf x fs).length c2) (memOf x fs).length (icells (memOf x fs))) := by
              have := HOW.out
              rw [hfull] at this
              exact this
            rw [hfull]
            clear hfull HOW
            go_wp2_with (at_builtin; refine wpList_append_any (by rfl) (.tmp 36) (.tmp 38) 92 (by rfl) w.heap.size 140 _ 1 24 Try.underlying92 infoLI (by rfl) (by omega) _ k _ (by rfl) ((HO.out.below hBo).own.alloc _) (some ⟨_, 0, none⟩) 1 1 (by rfl) [.slice a2 (memOf x fs).length c2] (by rfl) (fun e => by cases e) (news_allocL _ _ _ _ (by simp)) (by simp [Value.oneCell']) (by unfold maxLen; omega) (by omega) (by have := hBw.size; simp; omega) ?_; intro a3 c3' w3 ho3 hg3 hl3)
            have hOL := OLL.more (.cells #[.slice a2 (memOf x fs).length c2] 140) HO.out hBo (by omega) hb.size OW2.out ho3.out hg3.out hl3.out
            have hb3 : Below w.heap.size w w3 := (hBw.alloc hBw.size _).grown hg3.out (by have := hBw.size; simp; omega) (fun g hg => (HO.out.range (.inl hg)).1)
            have HOL := hidA hOL
            clear hOL
            go_roundw
            case rel => exact ⟨k + 1, a3, c3', vs ++ [.slice a2 (memOf x fs).length c2], by omega, by go_num, rfl, by rw [HT.out]; exact HOL.out, hb3⟩
            case measure => simp [intOf]; omega
      · have hkk : k = xs.length := by omega
        subst hkk
        go_wp2
        go_ret
        have h := HO.out
        rw [List.take_of_length_le (Nat.le_refl _)] at h
        have hml : (mems xs fs).length = xs.length := by rw [HM.out]; simp
        refine ⟨⟨a', c', vs, by rw [hml]; rfl, ?_⟩, hb⟩
        rw [hml, HM.out]
        exact h
end Go.Proofs.Ytofmgaebgojonaa
