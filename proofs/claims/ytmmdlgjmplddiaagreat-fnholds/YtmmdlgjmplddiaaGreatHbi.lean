/-
  OUR OWN TEXT. Ic5, Ic8, Bx, Ic9, Ic9b, one behind the other.
-/
import Derived.Test.YtmmdlgjmplddiaaGreatHam
import Derived.StringKeys
import Derived.Maps.Own
import Derived.Maps.Views
import Derived.Maps.Keyed
import Derived.Test.YtmmdlgjmplddiaaGreatHaa
import Derived.Shelf.SlMaps.Clone
namespace Go.Proofs.YtmmdlgjmplddiaaGreat
open Go.RowKit
attribute [local go_sem ↓] Go.wp_at_zero Go.wp_at_succ
set_option maxHeartbeats 800000 in
theorem zbu (x:Ru) (a_pats:Option Addr) (c_pats:Nat) (a_exprs:Option Addr) (c_exprs:Nat) (a_acts:Option Addr) (c_acts:Nat) {q:Option Nat} (w:World) (h_pats:zbY q w a_pats x.pats) (hl:x.pats.length≤1048576) :
  Calls Tryz.prog 61 #[.agg #[.string x.name,.int .i64 x.sal,.slice a_pats x.pats.length c_pats,.slice a_exprs x.exprs.length c_exprs,.slice a_acts x.acts.length c_acts]] w fun e w'=>
   e=.returned (.int .i64 (positives x.pats:Int))∧Below w.heap.size w w':=by
 go_enter Tryz.func61,Tryz.ntmps61
 go_wp2
 go_loopw [3,9] (fun l i wr=>∃ (k:Nat),k≤x.pats.length∧i=.int .i64 k∧l=.int .i64 (positives (x.pats.take k):Int)∧Below w.heap.size w wr) (fun _ i _=>x.pats.length - (intOf i).toNat)
 case atStart=>exact ⟨0,by omega,rfl,by simp [positives],(Below.refl _ _).alloc (Nat.le_refl _) _⟩
 case round=>
  obtain ⟨k,hk,rfl,rfl,hb⟩:=hrel
  have hp:positives (x.pats.take k)≤x.pats.length:=Nat.le_trans List.countP_le_length (by simp;omega)
  by_cases hkl:k<x.pats.length
  ·obtain ⟨p,hpk⟩:∃ p,x.pats[k]?=some p:=⟨x.pats[k],by simp [hkl]⟩
   obtain ⟨b,o,a_terms,c_terms,rfl,hq,c0,c1,c2,h_terms⟩:=(h_pats.below hb).get hpk
   have HT:Hid (x.pats.take (k+1)=x.pats.take k ++ [p]):=zbV _ _ _ hpk
   have B1:∀ o,Below w.heap.size w (wr.alloc o):=fun o=>hb.alloc hb.size _
   cases hn:p.neg
   all_goals
    rw [hn] at c0
    go_wp2
    go_roundw
    case rel=>exact ⟨k+1,by omega,by go_num,by rw [HT.out];simp [positives,pos1,hn],B1 _⟩
    case measure=>simp [intOf];omega
  ·go_wp2
   go_ret
   rw [List.take_of_length_le (by omega)]
   exact ⟨rfl,hb⟩
theorem zaA {α:Type} (f:α→Bool) (x:α) (r:List α) (k:Nat):zaD f (x :: r) k=if f x then zaD f r (k+1) else some k:=rfl
def item0:Option Nat→Int
 | none=>0
 | some i=>(i:Int)
set_option maxHeartbeats 800000 in
theorem zhO (x:Ru) (a_pats:Option Addr) (c_pats:Nat) (a_exprs:Option Addr) (c_exprs:Nat) (a_acts:Option Addr) (c_acts:Nat) {q:Option Nat} (w:World) (h_pats:zbY q w a_pats x.pats) (h_acts:zcu q w a_acts x.acts) (hl:x.pats.length≤1048576) (hla:x.acts.length≤1048576) :
  Calls Tryz.prog 102 #[.agg #[.string x.name,.int .i64 x.sal,.slice a_pats x.pats.length c_pats,.slice a_exprs x.exprs.length c_exprs,.slice a_acts x.acts.length c_acts]] w fun e w'=>
   e=.returned (.int .i64 (item0 (refs x)))∧Below w.heap.size w w':=by
 have B0:∀ o,Below w.heap.size w (w.alloc o):=fun o=>(Below.refl _ _).alloc (Nat.le_refl _) _
 have hpos:positives x.pats≤x.pats.length:=List.countP_le_length
 go_enter Tryz.func102,Tryz.ntmps102
 go_wp2_with (go_at_call 61;refine (zbu x a_pats c_pats a_exprs c_exprs a_acts c_acts _ (h_pats.below (B0 _)) hl).mono ?_;rintro e w1 ⟨rfl,hb1⟩;have q2:w1.cell? ⟨w.heap.size,2,none⟩=some (.slice a_pats x.pats.length c_pats):=zaa hb1 (by simp [go_sem]);have q4:w1.cell? ⟨w.heap.size,4,none⟩=some (.slice a_acts x.acts.length c_acts):=zaa hb1 (by simp [go_sem]))
 have hB1:Below w.heap.size w w1:=(B0 _).trans (hb1.mono (by simp))
 have hs1:w.heap.size<w1.heap.size:=by have:=hb1.size;simp at this;omega
 clear hb1 q4
 go_loopw [12] (fun i wr=>∃ (k:Nat),k≤x.acts.length∧i=.int .i64 k∧refs x=zaD (zbi (positives x.pats)) (x.acts.drop k) (x.pats.length+1+k)∧wr.cell? ⟨w.heap.size,2,none⟩=some (.slice a_pats x.pats.length c_pats)∧w.heap.size<wr.heap.size∧Below w.heap.size w wr) (fun i _=>x.acts.length - (intOf i).toNat)
 case atStart=>exact ⟨0,by omega,rfl,rfl,q2,hs1,hB1⟩
 case round=>
  obtain ⟨k,hk,rfl,hG,hq2,hws,hb⟩:=hrel
  have HG:Hid (refs x=zaD (zbi (positives x.pats)) (x.acts.drop k) (x.pats.length+1+k)):=hG
  clear hG
  by_cases hkl:k<x.acts.length
  ·obtain ⟨y,hyk⟩:∃ y,x.acts[k]?=some y:=⟨x.acts[k],by simp [hkl]⟩
   obtain ⟨b,o,a_args,c_args,rfl,hq,c0,c1,c2,c3,h_args⟩:=(h_acts.below hb).get hyk
   have HD:Hid (x.acts.drop k=y :: x.acts.drop (k+1)):=zan hyk
   have B1:∀ o,Below w.heap.size w (wr.alloc o):=fun o=>hb.alloc hb.size _
   have hqA:∀ o,(wr.alloc o).cell? ⟨w.heap.size,2,none⟩=some (.slice a_pats x.pats.length c_pats):=fun o=>by
    have:Below wr.heap.size wr (wr.alloc o):=(Below.refl _ _).alloc (Nat.le_refl _) _
    exact zaa this hq2
   have hwA:∀ o,w.heap.size<(wr.alloc o).heap.size:=fun o=>by simp;omega
   have good:zbi (positives x.pats) y=true→refs x=zaD (zbi (positives x.pats)) (x.acts.drop (k+1)) (x.pats.length+1+(k+1)):=fun h=>by
    rw [HG.out,HD.out,zaA,h]
    rfl
   have bad:zbi (positives x.pats) y=false→refs x=some (x.pats.length+1+k):=fun h=>by
    rw [HG.out,HD.out,zaA,h]
    rfl
   obtain ⟨GD⟩:Nonempty (Hid ((zbi (positives x.pats) y=true→refs x=zaD (zbi (positives x.pats)) (x.acts.drop (k+1)) (x.pats.length+1+(k+1)))∧(zbi (positives x.pats) y=false→refs x=some (x.pats.length+1+k)))):=⟨⟨good,bad⟩⟩
   clear good bad
   by_cases k23:y.kind=2∨y.kind=3
   ·by_cases r0:y.k<1
    ·have HB:Hid (refs x=some (x.pats.length+1+k)):=GD.out.2 (by
      rcases k23 with h | h <;> simp [zbi,h] <;> omega)
     rcases k23 with h | h
     all_goals
      go_wp2
      go_ret
      exact ⟨zaX (by rw [HB.out];simp [item0];omega),B1 _⟩
    ·by_cases r1:(positives x.pats:Int)<y.k
     ·have HB:Hid (refs x=some (x.pats.length+1+k)):=GD.out.2 (by
       rcases k23 with h | h <;> simp [zbi,h] <;> omega)
      rcases k23 with h | h
      all_goals
       go_wp2
       go_ret
       exact ⟨zaX (by rw [HB.out];simp [item0];omega),B1 _⟩
     ·have HB:Hid (refs x=zaD (zbi (positives x.pats)) (x.acts.drop (k+1)) (x.pats.length+1+(k+1))):=GD.out.1 (by
       rcases k23 with h | h <;> simp [zbi,h] <;> omega)
      rcases k23 with h | h
      all_goals
       go_wp2
       go_roundw
       case rel=>exact ⟨k+1,by omega,by go_num,HB.out,hqA _,hwA _,B1 _⟩
       case measure=>simp [intOf];omega
   ·have h2:(y.kind==2)=false:=by simp;omega
    have h3:(y.kind==3)=false:=by simp;omega
    have HB:Hid (refs x=zaD (zbi (positives x.pats)) (x.acts.drop (k+1)) (x.pats.length+1+(k+1))):=GD.out.1 (by simp [zbi,h2,h3])
    go_wp2
    go_roundw
    case rel=>exact ⟨k+1,by omega,by go_num,HB.out,hqA _,hwA _,B1 _⟩
    case measure=>simp [intOf];omega
  ·go_wp2
   go_ret
   exact ⟨zaX (by rw [HG.out,List.drop_eq_nil_of_le (by omega)];rfl),hb⟩
end Go.Proofs.YtmmdlgjmplddiaaGreat
namespace Go.Proofs.YtmmdlgjmplddiaaGreat
open Go.RowKit Go.Maps
attribute [local go_sem ↓] Go.wp_at_zero Go.wp_at_succ
def zik (v:Value):Option (DataW Unit × List MemPlace):=
 match v with
 | .agg a=>if a.size=0 then some (.lit (.bool true),[]) else none
 | _=>none
theorem zlb {v:Value}{z:DataW Unit × List MemPlace} (h:zik v=some z):v=.agg #[]:=by
 unfold zik at h
 split at h
 ·rename_i a
  split at h
  ·rename_i h0
   rw [Array.eq_empty_of_size_eq_zero h0]
  ·cases h
 ·cases h
theorem lawS:Keyed Tryz.prog 9:=string_keyed Tryz.underlying9
def NInv (known:List ByteArray) (D:DataW Unit):Prop:=∀ s:ByteArray,s.size≤maxLen→has D (.string s.data.toList)=memB s known
theorem NInv.start:NInv [] (.map []):=fun _ _=>rfl
theorem zlw (s v:ByteArray) (known:List ByteArray):memB s (known ++ [v])=(memB s known || decide (v=s)):=by
 simp [memB,List.any_append]
theorem NInv.put {known:List ByteArray}{D:DataW Unit}{v:ByteArray} (h:NInv known D) (hm:IsMap D) (d:DataW Unit):NInv (known ++ [v]) (D.put (.string v.data.toList) d):=by
 intro s hs
 rw [zlw]
 by_cases he:v=s
 ·subst he
  rw [has_put_same hm (k:=.string v.data.toList) trivial d,decide_eq_true rfl,Bool.or_true]
 ·rw [has_put_other (fun e=>he (by injection e with e;exact (Go.WideShapes.bytes_inj e).symm)) d,h s hs,decide_eq_false he,Bool.or_false]
abbrev NMap (w:World) (b n:Nat) (D:DataW Unit):Prop:=w.ownsMap Tryz.prog 9 zik b n D
theorem zoi (w:World):(zeroValue 250).run Tryz.prog w=.ok (.agg #[]) w:=by kernel_rfl
theorem zkO {w:World}{b n:Nat}{D:DataW Unit}{known:List ByteArray} (h:NMap w b n D) (hI:NInv known D) {s:ByteArray} (hs:s.size≤maxLen) :
  (Instr.lookup 226 (.map (some b)) (.string s) true).run Tryz.prog w=.ok (.tuple #[.agg #[],.bool (memB s known)]) w:=by
 obtain ⟨v,ps,hrun,hv⟩:=h.look_ok lawS (t:=226) Tryz.underlying226 (zoi w) (show zik (.agg #[])=some (.lit (.bool true),[]) from rfl) (Go.WideMaps.keyOf_string_mk Tryz.underlying9 hs)
 rw [hrun,hI s hs,zlb hv]
set_option maxHeartbeats 400000 in
theorem zmf (b n:Nat) (D:DataW Unit) (known:List ByteArray) (s:ByteArray) (w:World) (h:NMap w b n D) (hI:NInv known D) (hs:s.size≤maxLen) :
  Calls Tryz.prog 154 #[.map (some b),.string s] w fun e w'=>e=.returned (.bool (memB s known))∧Below w.heap.size w w':=by
 have hl:=zkO h hI hs
 go_enter Tryz.func154,Tryz.ntmps154
 go_wp2
 go_ret
 exact ⟨rfl,(Below.refl _ _).alloc (Nat.le_refl _) _⟩
theorem zgM (b n:Nat) (D:DataW Unit) (known:List ByteArray) (s:ByteArray) (hI:NInv known D) (hs:s.size≤maxLen):Hid (∀ w,NMap w b n D→Calls Tryz.prog 154 #[.map (some b),.string s] w fun e w'=>e=.returned (.bool (memB s known))∧Below w.heap.size w w'):=
 fun w h=>zmf b n D known s w h hI hs
set_option maxHeartbeats 800000 in
theorem zlv (b n:Nat) (D:DataW Unit) (known:List ByteArray) (a:Option Addr) (c:Nat) (es:List Ex) (w:World) {q:Option Nat} (h:NMap w b n D) (hI:NInv known D) (hv:za8 q w a es) (hl:es.length≤1048576) (hs:∀ e∈es,e.var.size≤maxLen) :
  Calls Tryz.prog 133 #[.map (some b),.slice a es.length c] w fun e w'=>e=.returned (.bool (es.all (zbc known)))∧Below w.heap.size w w':=by
 go_enter Tryz.func133,Tryz.ntmps133
 go_wp2
 go_loopw [9] (fun i wr=>∃ (k:Nat),k≤es.length∧i=.int .i64 k∧es.all (zbc known)=(es.drop k).all (zbc known)∧Below w.heap.size w wr) (fun i _=>es.length - (intOf i).toNat)
 case atStart=>exact ⟨0,by omega,rfl,rfl,Below.refl _ _⟩
 case round=>
  obtain ⟨k,hk,rfl,hG,hb⟩:=hrel
  have HG:Hid (es.all (zbc known)=(es.drop k).all (zbc known)):=hG
  clear hG
  by_cases hkl:k<es.length
  ·obtain ⟨e,hek⟩:∃ e,es[k]?=some e:=⟨es[k],by simp [hkl]⟩
   obtain ⟨b',o,rfl,hq,c0,c1,c2,c3,c4,c5,c6,c7⟩:=(hv.below hb).get hek
   have HD:Hid (es.drop k=e :: es.drop (k+1)):=zan hek
   have hse:=hs e (List.mem_of_getElem? hek)
   have hbl:=h.lt
   have HM:Hid (NMap wr b n D):=show NMap wr b n D from by
    obtain ⟨m1,m2,m3,m4⟩:=h
    exact ⟨m1,m2,(hb.block b hbl).trans m3,m4⟩
   have B1:∀ o,Below w.heap.size w (wr.alloc o):=fun o=>hb.alloc hb.size _
   cases k1:(e.kind==1)
   ·have HK:Hid (zbc known e=true):=show zbc known e=true from by simp [zbc,k1]
    go_wp2
    go_roundw
    case rel=>exact ⟨k+1,by omega,by go_num,by rw [HG.out,HD.out,List.all_cons,HK.out];rfl,B1 _⟩
    case measure=>simp [intOf];omega
   ·have HK:Hid (zbc known e=memB e.var known):=show zbc known e=_ from by simp [zbc,k1]
    cases hm:memB e.var known
    all_goals
     have hH:=zgM b n D known e.var hI hse
     rw [hm] at hH
     go_wp2_with (go_at_call 154;refine (hH.out _ (HM.out.alloc _)).mono ?_;rintro e' w1 ⟨rfl,hb1⟩)
    ·go_ret
     exact ⟨zac (by rw [HG.out,HD.out,List.all_cons,HK.out,hm];rfl),(B1 _).trans (hb1.mono (B1 _).size)⟩
    ·go_roundw
     case rel=>exact ⟨k+1,by omega,by go_num,by rw [HG.out,HD.out,List.all_cons,HK.out,hm];rfl,(B1 _).trans (hb1.mono (B1 _).size)⟩
     case measure=>simp [intOf];omega
  ·go_wp2
   go_ret
   exact ⟨zac (by rw [HG.out,List.drop_eq_nil_of_le (by omega)];rfl),hb⟩
end Go.Proofs.YtmmdlgjmplddiaaGreat
namespace Go.Proofs.YtmmdlgjmplddiaaGreat
open Go.RowKit
theorem zbs.mono {α:Type}{le:Nat→α→Prop}{N M:Nat} (h:N≤M) (hm:∀ x,le N x→le M x) {xs:List α} (hx:zbs le N xs):zbs le M xs:=⟨Nat.le_trans hx.1 h,fun x hm'=>hm x (hx.2 x hm')⟩
theorem Tm.mono {N M:Nat} (h:N≤M) (x:Tm) (hx:x.le N):x.le M:=⟨Nat.le_trans hx.1 h,Nat.le_trans hx.2 h⟩
theorem Pt.mono {N M:Nat} (h:N≤M) (x:Pt) (hx:x.le N):x.le M:=⟨Nat.le_trans hx.1 h,hx.2.mono h (Tm.mono h)⟩
theorem Ex.mono {N M:Nat} (h:N≤M) (x:Ex) (hx:x.le N):x.le M:=⟨Nat.le_trans hx.1 h,Nat.le_trans hx.2 h⟩
theorem Ac.mono {N M:Nat} (h:N≤M) (x:Ac) (hx:x.le N):x.le M:=⟨Nat.le_trans hx.1 h,Nat.le_trans hx.2 h⟩
theorem Ru.mono {N M:Nat} (h:N≤M) (x:Ru) (hx:x.le N):x.le M:=⟨Nat.le_trans hx.1 h,hx.2.1.mono h (Pt.mono h),hx.2.2.1.mono h (Ex.mono h),hx.2.2.2.mono h (Ac.mono h)⟩
theorem zbj:1048576≤maxLen:=by unfold maxLen;omega
def zcf (w:World) (b:Nat) (x:Ru) (a_pats:Option Addr) (c_pats:Nat) (a_exprs:Option Addr) (c_exprs:Nat) (a_acts:Option Addr) (c_acts:Nat):Prop:=
 w.cell? ⟨b,0,none⟩=some (.string x.name)∧w.cell? ⟨b,1,none⟩=some (.int .i64 x.sal)∧w.cell? ⟨b,2,none⟩=some (.slice a_pats x.pats.length c_pats)∧w.cell? ⟨b,3,none⟩=some (.slice a_exprs x.exprs.length c_exprs)∧w.cell? ⟨b,4,none⟩=some (.slice a_acts x.acts.length c_acts)
theorem zcf.below {w w':World}{b:Nat}{x:Ru}{a_pats:Option Addr}{c_pats:Nat}{a_exprs:Option Addr}{c_exprs:Nat}{a_acts:Option Addr}{c_acts:Nat} (h:zcf w b x a_pats c_pats a_exprs c_exprs a_acts c_acts) (hb:Below w.heap.size w w'):zcf w' b x a_pats c_pats a_exprs c_exprs a_acts c_acts:=
 ⟨zaa hb h.1,zaa hb h.2.1,zaa hb h.2.2.1,zaa hb h.2.2.2.1,zaa hb h.2.2.2.2⟩
theorem zcf.made (w:World) (t:TypeId) (x:Ru) (a_pats:Option Addr) (c_pats:Nat) (a_exprs:Option Addr) (c_exprs:Nat) (a_acts:Option Addr) (c_acts:Nat):zcf (w.alloc (.cells #[.string x.name,.int .i64 x.sal,.slice a_pats x.pats.length c_pats,.slice a_exprs x.exprs.length c_exprs,.slice a_acts x.acts.length c_acts] t)) w.heap.size x a_pats c_pats a_exprs c_exprs a_acts c_acts:=by
 refine ⟨?_,?_,?_,?_,?_⟩ <;> simp [go_sem]
end Go.Proofs.YtmmdlgjmplddiaaGreat
namespace Go.Proofs.YtmmdlgjmplddiaaGreat
open Go.RowKit Go.Maps
attribute [local go_sem ↓] Go.wp_at_zero Go.wp_at_succ
set_option maxHeartbeats 800000 in
set_option maxRecDepth 100000 in
theorem zkz (b n:Nat) (D:DataW Unit) (w:World) (h:NMap w b n D) :
  Calls Tryz.prog 153 #[.map (some b)] w fun e w'=>e=.returned (.map (some w.heap.size))∧NMap w' w.heap.size n D∧Below w.heap.size w w':=by
 obtain ⟨es,clock,hb,F,hs,hD⟩:=h
 have hq:=fun w=>run_eql_map_nil_sl (P:=Tryz.prog) w 226 _ _ (some b) Tryz.underlying226
 go_enter Tryz.func153,Tryz.ntmps153
 go_wp2
 rw [run_callFunc_extern Tryz.func169 (by kernel_rfl) (by kernel_rfl) (by kernel_rfl) (e:=Extern.MapsClone.clone) (by kernel_rfl),run_maps_clone_sl w 226 hb]
 simp only [Result.andThen]
 rw [Oper.upon_value]
 go_wp2
 rw [run_typeAssert_map_sl _ 226 _ _ _ _ Tryz.underlying226]
 simp only [Result.andThen]
 rw [Oper.upon_value]
 go_wp2
 go_ret
 exact ⟨rfl,⟨es,clock,(MapKept.heap_alloc w _).1,F,hs,hD⟩,(Below.refl _ w).alloc (Nat.le_refl _) _⟩
theorem za2 (t:Tm) (r:List Tm) (here:List ByteArray):zap (t :: r) here=if asks t && !memB t.var here then none else zap r (if t.kind==2 then here ++ [t.var] else here):=rfl
theorem zaW {p:Prop} (h:p):Hid p:=h
theorem zme {w w':World}{b n:Nat}{D:DataW Unit} (h:NMap w b n D) (hb:Below w.heap.size w w'):NMap w' b n D:=by
 have hl:=h.lt
 obtain ⟨es,clock,h1,h2⟩:=h
 exact ⟨es,clock,(hb.block b hl).trans h1,h2⟩
theorem zgl {w w':World}{m b o:Nat} (h:w.grownBy w' (some m)) (hne:b≠m) (hl:b<w.heap.size):w'.cell? ⟨b,o,none⟩=w.cell? ⟨b,o,none⟩:=by
 unfold World.cell?
 rw [h.block b hl (by intro e;first | exact hne e | (injection e with e;first | exact hne e | exact hne e.symm))]
set_option maxHeartbeats 3200000 in
theorem zkY (x:Pt) (a:Option Addr) (c b n:Nat) (D:DataW Unit) (known:List ByteArray) {q:Option Nat} (w0 w:World) (hb0:Below w0.heap.size w0 w) (hv:zch q w0 a x.terms) (hs:zbs Tm.le maxLen x.terms) (hl:x.terms.length≤1048576) (hown0:NMap w b n D) (hI:NInv known D) (hb1:w0.heap.size≤b) (hn:n≤1048576) (hneg:x.neg=false) :
  Calls Tryz.prog 132 #[.agg #[.bool x.neg,.string x.cls,.slice a x.terms.length c],.map (some b)] w fun e w'=>
   e=.returned (.bool (zap x.terms known).isSome)∧Below b w w'∧∀ here,zap x.terms known=some here→∃ n' D',n'≤n+x.terms.length∧NMap w' b n' D'∧NInv here D':=by
 have hbw:=hown0.lt
 rw [hneg]
 go_enter Tryz.func132,Tryz.ntmps132
 go_wp2
 go_loopw [14] (fun i wr=>∃ (k n':Nat) (here:List ByteArray) (D':DataW Unit),k≤x.terms.length∧i=.int .i64 k∧zap x.terms known=zap (x.terms.drop k) here∧n'≤n+k∧NMap wr (b) n' D'∧NInv here D'∧Below (b) w wr) (fun i _=>x.terms.length - (intOf i).toNat)
 case atStart=>exact ⟨0,n,known,D,by omega,rfl,rfl,by omega,hown0.alloc _,hI,(Below.refl _ _).alloc (by omega) _⟩
 case round=>
  obtain ⟨k,n',here,D',hk,rfl,hG,hn',hown,hI',hb⟩:=hrel
  have HG:=zaW hG
  clear hG
  have hbl:=hown.lt
  by_cases hkl:k<x.terms.length
  ·obtain ⟨t,htk⟩:∃ t,x.terms[k]?=some t:=⟨x.terms[k],by simp [hkl]⟩
   obtain ⟨b',o,rfl,hq,c0,c1,c2,c3,c4,c5⟩:=(hv.below (hb0.trans (hb.mono (by omega)))).get htk
   have hst:=(hs.2 t (List.mem_of_getElem? htk)).1
   have HD:Hid (x.terms.drop k=t :: x.terms.drop (k+1)):=zan htk
   have hBa:∀ o,Below (b) w (wr.alloc o):=fun o=>hb.alloc (by have:=hb.size;omega) _
   have hOa:∀ o,NMap (wr.alloc o) (b) n' D':=fun o=>hown.alloc o
   by_cases k2:t.kind=2
   ·have HN:Hid (zap x.terms known=zap (x.terms.drop (k+1)) (here ++ [t.var])):=show zap x.terms known=_ from by rw [HG.out,HD.out,za2];simp [asks,k2]
    have hI2:=hI'.put (v:=t.var) hown.isMap (.lit (.bool true))
    obtain ⟨w2,hrun,ho2,hg2⟩:=(hown.alloc (.cells #[.int .i64 2,.int .i64 t.op,.string t.var,.int .i64 t.val.kind,.int .i64 t.val.num,.string t.val.sym] 115)).update lawS (t:=226) Tryz.underlying226 (by unfold maxLen;omega) (Go.WideMaps.keyOf_string_mk Tryz.underlying9 hst) (show zik (.agg #[])=some (.lit (.bool true),[]) from rfl)
    have HO2:=zaW ho2
    have HG2:=zaW hg2
    have d0:w2.cell? ⟨wr.heap.size,0,none⟩=some (.int .i64 2):=by
     rw [zgl hg2 (by omega) (by simp)]
     simp [go_sem]
    have hBb:=hBa (.cells #[.int .i64 2,.int .i64 t.op,.string t.var,.int .i64 t.val.kind,.int .i64 t.val.num,.string t.val.sym] 115)
    have hB2:Below (b) w w2:=hBb.grown hg2 (by have:=hb.size;simp;omega) (fun j hj=>by cases hj;omega)
    clear ho2 hg2 hOa hBa
    rw [k2] at c0
    go_wp2
    clear hrun
    go_roundw
    case rel=>exact ⟨k+1,n'+1,_,_,by omega,by go_num,HN.out,by omega,HO2.out,hI2,hB2⟩
    case measure=>simp [intOf];omega
   ·by_cases k3:t.kind=3∧t.var.toList.isEmpty=false
    ·obtain ⟨k3,v0⟩:=k3
     have hH:=zgM (b) n' D' here t.var hI' hst
     cases hm:memB t.var here
     all_goals
      rw [hm] at hH
      go_wp2_with (go_at_call 154;refine (hH.out _ (hOa _)).mono ?_;rintro e' w1 ⟨rfl,hb1⟩)
     ·have HN:Hid (zap x.terms known=none):=show zap x.terms known=none from by rw [HG.out,HD.out,za2];simp [asks,k3,isE,hm];intro h;simp [h] at v0
      go_ret
      exact ⟨zac (by rw [HN.out];rfl),(hBa _).trans (hb1.mono (by simp;omega)),fun h e=>(by rw [HN.out] at e;cases e)⟩
     ·have HN:Hid (zap x.terms known=zap (x.terms.drop (k+1)) here):=show zap x.terms known=_ from by rw [HG.out,HD.out,za2];simp [k3,hm]
      go_roundw
      case rel=>exact ⟨k+1,n',_,_,by omega,by go_num,HN.out,by omega,zme (hOa _) hb1,hI',(hBa _).trans (hb1.mono (by have:=(hBa default).size;have:=hb.size;simp;omega))⟩
      case measure=>simp [intOf];omega
    ·have HN:Hid (zap x.terms known=zap (x.terms.drop (k+1)) here):=show zap x.terms known=_ from by
      have ha:asks t=false:=by
       unfold asks isE
       by_cases h3:t.kind=3
       ·have:t.var.toList.isEmpty=true:=by cases h:t.var.toList.isEmpty <;> simp_all
        simp [this]
       ·simp [h3]
      rw [HG.out,HD.out,za2,ha]
      simp [k2]
     by_cases h3:t.kind=3
     ·have hve:t.var.toList.isEmpty=true:=by cases h:t.var.toList.isEmpty <;> simp_all
      clear k3
      go_wp2
      go_roundw
      case rel=>exact ⟨k+1,n',_,_,by omega,by go_num,HN.out,by omega,hOa _,hI',hBa _⟩
      case measure=>simp [intOf];omega
     ·clear k3
      go_wp2
      go_roundw
      case rel=>exact ⟨k+1,n',_,_,by omega,by go_num,HN.out,by omega,hOa _,hI',hBa _⟩
      case measure=>simp [intOf];omega
  ·have HN:Hid (zap x.terms known=some here):=show zap x.terms known=_ from by
    rw [HG.out,List.drop_eq_nil_of_le (by omega)]
    rfl
   go_wp2
   go_ret
   exact ⟨zac (by rw [HN.out];rfl),hb,fun h e=>(by rw [HN.out] at e;injection e with e;subst e;exact ⟨n',D',by omega,hown,hI'⟩)⟩
end Go.Proofs.YtmmdlgjmplddiaaGreat
namespace Go.Proofs.YtmmdlgjmplddiaaGreat
open Go.RowKit Go.Maps
attribute [local go_sem ↓] Go.wp_at_zero Go.wp_at_succ
set_option maxHeartbeats 3200000 in
theorem zkM (x:Pt) (a:Option Addr) (c b n:Nat) (D:DataW Unit) (known:List ByteArray) {q:Option Nat} (w0 w:World) (hb0:Below w0.heap.size w0 w) (hv:zch q w0 a x.terms) (hs:zbs Tm.le maxLen x.terms) (hl:x.terms.length≤1048576) (hown0:NMap w b n D) (hI:NInv known D) (hn:n≤1048576) (hneg:x.neg=true) :
  Calls Tryz.prog 132 #[.agg #[.bool x.neg,.string x.cls,.slice a x.terms.length c],.map (some b)] w fun e w'=>
   e=.returned (.bool (zap x.terms known).isSome)∧Below w.heap.size w w':=by
 have hbw:=hown0.lt
 rw [hneg]
 go_enter Tryz.func132,Tryz.ntmps132
 have hw0:=hb0.size
 go_wp2_with (go_at_call 153;refine (zkz b n D _ (hown0.alloc _)).mono ?_;rintro e w1 ⟨rfl,hoc,hbc⟩;have q2:w1.cell? ⟨w.heap.size,2,none⟩=some (.slice a x.terms.length c):=zaa hbc (by simp [go_sem]))
 have hoc':NMap w1 (w.heap.size+1) n D:=by simpa using hoc
 have hB1:Below w.heap.size w w1:=((Below.refl _ _).alloc (Nat.le_refl _) _).trans (hbc.mono (by simp))
 clear hoc hbc q2 hbw hown0
 go_loopw [14] (fun i wr=>∃ (k n':Nat) (here:List ByteArray) (D':DataW Unit),k≤x.terms.length∧i=.int .i64 k∧zap x.terms known=zap (x.terms.drop k) here∧n'≤n+k∧NMap wr (w.heap.size+1) n' D'∧NInv here D'∧Below (w.heap.size) w wr) (fun i _=>x.terms.length - (intOf i).toNat)
 case atStart=>exact ⟨0,n,known,D,by omega,rfl,rfl,by omega,hoc',hI,hB1⟩
 case round=>
  obtain ⟨k,n',here,D',hk,rfl,hG,hn',hown,hI',hb⟩:=hrel
  have HG:=zaW hG
  clear hG
  have hbl:=hown.lt
  by_cases hkl:k<x.terms.length
  ·obtain ⟨t,htk⟩:∃ t,x.terms[k]?=some t:=⟨x.terms[k],by simp [hkl]⟩
   obtain ⟨b',o,rfl,hq,c0,c1,c2,c3,c4,c5⟩:=(hv.below (hb0.trans (hb.mono (by omega)))).get htk
   have hst:=(hs.2 t (List.mem_of_getElem? htk)).1
   have HD:Hid (x.terms.drop k=t :: x.terms.drop (k+1)):=zan htk
   have hBa:∀ o,Below (w.heap.size) w (wr.alloc o):=fun o=>hb.alloc (by have:=hb.size;omega) _
   have hOa:∀ o,NMap (wr.alloc o) (w.heap.size+1) n' D':=fun o=>hown.alloc o
   by_cases k2:t.kind=2
   ·have HN:Hid (zap x.terms known=zap (x.terms.drop (k+1)) (here ++ [t.var])):=show zap x.terms known=_ from by rw [HG.out,HD.out,za2];simp [asks,k2]
    have hI2:=hI'.put (v:=t.var) hown.isMap (.lit (.bool true))
    obtain ⟨w2,hrun,ho2,hg2⟩:=(hown.alloc (.cells #[.int .i64 2,.int .i64 t.op,.string t.var,.int .i64 t.val.kind,.int .i64 t.val.num,.string t.val.sym] 115)).update lawS (t:=226) Tryz.underlying226 (by unfold maxLen;omega) (Go.WideMaps.keyOf_string_mk Tryz.underlying9 hst) (show zik (.agg #[])=some (.lit (.bool true),[]) from rfl)
    have HO2:=zaW ho2
    have HG2:=zaW hg2
    have d0:w2.cell? ⟨wr.heap.size,0,none⟩=some (.int .i64 2):=by
     rw [zgl hg2 (by omega) (by simp)]
     simp [go_sem]
    have hBb:=hBa (.cells #[.int .i64 2,.int .i64 t.op,.string t.var,.int .i64 t.val.kind,.int .i64 t.val.num,.string t.val.sym] 115)
    have hB2:Below (w.heap.size) w w2:=hBb.grown hg2 (by have:=hb.size;simp;omega) (fun j hj=>by cases hj;omega)
    clear ho2 hg2 hOa hBa
    rw [k2] at c0
    go_wp2
    clear hrun
    go_roundw
    case rel=>exact ⟨k+1,n'+1,_,_,by omega,by go_num,HN.out,by omega,HO2.out,hI2,hB2⟩
    case measure=>simp [intOf];omega
   ·by_cases k3:t.kind=3∧t.var.toList.isEmpty=false
    ·obtain ⟨k3,v0⟩:=k3
     have hH:=zgM (w.heap.size+1) n' D' here t.var hI' hst
     cases hm:memB t.var here
     all_goals
      rw [hm] at hH
      go_wp2_with (go_at_call 154;refine (hH.out _ (hOa _)).mono ?_;rintro e' w1 ⟨rfl,hb1⟩)
     ·have HN:Hid (zap x.terms known=none):=show zap x.terms known=none from by rw [HG.out,HD.out,za2];simp [asks,k3,isE,hm];intro h;simp [h] at v0
      go_ret
      exact ⟨zac (by rw [HN.out];rfl),(hBa _).trans (hb1.mono (by simp;omega))⟩
     ·have HN:Hid (zap x.terms known=zap (x.terms.drop (k+1)) here):=show zap x.terms known=_ from by rw [HG.out,HD.out,za2];simp [k3,hm]
      go_roundw
      case rel=>exact ⟨k+1,n',_,_,by omega,by go_num,HN.out,by omega,zme (hOa _) hb1,hI',(hBa _).trans (hb1.mono (by have:=(hBa default).size;have:=hb.size;simp;omega))⟩
      case measure=>simp [intOf];omega
    ·have HN:Hid (zap x.terms known=zap (x.terms.drop (k+1)) here):=show zap x.terms known=_ from by
      have ha:asks t=false:=by
       unfold asks isE
       by_cases h3:t.kind=3
       ·have:t.var.toList.isEmpty=true:=by cases h:t.var.toList.isEmpty <;> simp_all
        simp [this]
       ·simp [h3]
      rw [HG.out,HD.out,za2,ha]
      simp [k2]
     by_cases h3:t.kind=3
     ·have hve:t.var.toList.isEmpty=true:=by cases h:t.var.toList.isEmpty <;> simp_all
      clear k3
      go_wp2
      go_roundw
      case rel=>exact ⟨k+1,n',_,_,by omega,by go_num,HN.out,by omega,hOa _,hI',hBa _⟩
      case measure=>simp [intOf];omega
     ·clear k3
      go_wp2
      go_roundw
      case rel=>exact ⟨k+1,n',_,_,by omega,by go_num,HN.out,by omega,hOa _,hI',hBa _⟩
      case measure=>simp [intOf];omega
  ·have HN:Hid (zap x.terms known=some here):=show zap x.terms known=_ from by
    rw [HG.out,List.drop_eq_nil_of_le (by omega)]
    rfl
   go_wp2
   go_ret
   exact ⟨zac (by rw [HN.out];rfl),hb⟩
end Go.Proofs.YtmmdlgjmplddiaaGreat
