/-
  OUR OWN TEXT. Tx3, Tx12, Tx2, Tx4, Sx1, Sx2, Sc4h, Sc4o6, one behind the other.
-/
import Derived.Test.YtjjjagepnnbebaaGreatDoorKah
import Derived.Test.YtjjjagepnnbebaaGreatDoorKac
import Derived.Lib.ItoaMem
import Derived.Laws.BytesArg
import Derived.Test.YtjjjagepnnbebaaGreatDoorKai
import Derived.Test.YtjjjagepnnbebaaGreatDoorHwm
import Derived.Lib.ParseIntB
import Derived.Deep.DeepCutAuto
import Derived.Test.YtjjjagepnnbebaaGreatDoorSc1m
import Derived.Test.YtjjjagepnnbebaaGreatDoorSc2m
import Derived.Deep.RegionHeld3
import Derived.Deep.DrawnRows
import Derived.BigQuiet
set_option maxHeartbeats 3200000
namespace Go.Proofs.YtjjjagepnnbebaaGreatDoor
open Go.RowKit
attribute [local go_sem ↓] Go.wp_at_zero Go.wp_at_succ
theorem hidX{p:Prop}(h:p):Hid p:=h
theorem zcW(c:Int)(w:World)(b:Nat)(h:w.cell? ⟨b,0,none⟩=some (.int .u8 c)):(convert 22 9 (.slice (some ⟨b,0,none⟩) 1 1)).run Tryz.prog w=.ok (.string (mkS [UInt8.ofNat c.toNat])) w:=
 run_convert_bytes_arg (P:=Tryz.prog) _ 22 5 Tryz.underlying22 Tryz.underlying5 b 0 1 1 [c] rfl (fun i hi=>by
  obtain rfl:i=0:=by omega
  simpa using h) 9 Tryz.underlying9
def zcQ(m:Nat)(f:Bool):Bs:=if m=0/\f=false then [] else Lib.decDigits m
theorem zd9{m:Nat}{f:Bool}(h:0<m∨f=true)(acc:Bs):zcQ m f ++ acc=zcQ (m / 10) false ++ (UInt8.ofNat (48+m % 10) :: acc):=by
 have E:zcQ m f=Lib.decDigits m:=by
  unfold zcQ;rw[if_neg];rintro ⟨rfl,rfl⟩;rcases h with h | h
  ·omega
  cases h
 rw[E];by_cases hm:m<10
 ·have h1:m / 10=0:=by omega
  have h2:m % 10=m:=by omega
  rw[Lib.decDigits,dif_pos hm,h1,h2];rfl
 have h1:zcQ (m / 10) false=Lib.decDigits (m / 10):=by
  unfold zcQ;rw[if_neg];rintro ⟨h,_⟩;omega
 rw[Lib.decDigits,dif_neg hm,h1];simp
theorem zgi(acc:Bs):zcQ 0 false ++ acc=acc:=rfl
theorem zjq(m:Nat):zcQ m true=Lib.decDigits m:=by
 unfold zcQ;rw[if_neg];rintro ⟨_,h⟩
 cases h
theorem zb6{a b:Bs}(h:a=b):Ending.returned (.string (mkS a))=.returned (.string (mkS b)):=by rw[h]
theorem zoF(s:ByteArray)(acc:Bs)(h1:s.size<=100000000000)(h:acc.length<=100000000000):¬ 9223372036854775807<s.size+(mkS acc).size:=by
 rw[zad];omega
theorem zlm(x:UInt8)(acc:Bs)(h:acc.length<=100000000000):¬ 9223372036854775807<(mkS [x]).size+(mkS acc).size:=by
 rw[zad,zad];simp only[List.length_cons,List.length_nil];omega
theorem zdK{m n:Nat}{f:Bool}{acc:Bs}(h:zcQ m f ++ acc=Lib.decDigits n)(hn:n<=9223372036854775808):acc.length<=100000000000:=by
 have h1:=congrArg List.length h;rw[List.length_append,Lib.decDigits_length]at h1;have h2:=Lib.nDigits_le20 n (by omega);omega
theorem ziq(m:Nat):(48:UInt8)+UInt8.ofNat (m % 10)=UInt8.ofNat (48+m % 10):=by
 rw[UInt8.ofNat_add];rfl
theorem zmz(n:Nat)(w:World)(hn:n<=9223372036854775807):Calls Tryz.prog 61 #[.int .i64 (n:Int)] w fun e w'=>e=.returned (.string (mkS (Lib.decDigits n)))/\Below w.heap.size w w':=by
 have Z:¬ (n:Int)<0:=by omega
 have HC:=hidX zcW;go_enter Tryz.func61,Tryz.ntmps61;go_wp2
 go_loopw [0,4,5] (fun I sv E wr=>∃ (m:Nat) (acc:Bs) (f:Bool),m<=n/\I=.int .i64 (m:Int)/\sv=.string (mkS acc)/\E=.bool f/\zcQ m f ++ acc=Lib.decDigits n/\Below w.heap.size w wr) (fun I _ E _=>(intOf I).toNat * 2+(match E with | .bool true=>1 | _=>0))
 case atStart=>exact ⟨n,[],true,Nat.le_refl _,rfl,rfl,rfl,by rw[zjq,List.append_nil],Below.refl _ _⟩
 case round=>
  obtain ⟨m,acc,f,hm,rfl,rfl,rfl,hd,hb⟩:=hrel;have G:=hidX hd;have X:∀ x:UInt8,¬ 9223372036854775807<(mkS [x]).size+(mkS acc).size:=fun x=>zlm x acc (zdK hd (by omega));clear hd;have ab:=HC.out;have U:∀ o,Below w.heap.size w (wr.alloc o):=fun o=>hb.alloc hb.size _
  cases f
  ·by_cases h0:0<m
   ·have O:(0:Int)<(m:Int):=by omega
    go_wp2;refine ⟨⟨m / 10,UInt8.ofNat (48+m % 10) :: acc,false,by omega,by go_num,by rw[zaV,ziq];rfl,rfl,by rw[<- zd9 (.inl h0)];exact G.out,U _⟩,?_⟩;simp[intOf];omega
   have O:¬ (0:Int)<(m:Int):=by omega
   obtain rfl:m=0:=by omega
   go_wp2;go_ret;exact ⟨zb6 (by rw[<- G.out,zgi]),hb⟩
  go_wp2;refine ⟨⟨m / 10,UInt8.ofNat (48+m % 10) :: acc,false,by omega,by go_num,by rw[zaV,ziq];rfl,rfl,by rw[<- zd9 (.inr rfl)];exact G.out,U _⟩,?_⟩;simp[intOf];omega
theorem zmO(n:Nat)(w:World)(h1:1<=n)(hn:n<=9223372036854775808):Calls Tryz.prog 61 #[.int .i64 (-(n:Int))] w fun e w'=>e=.returned (.string (mkS (45 :: Lib.decDigits n)))/\Below w.heap.size w w':=by
 have U:-(n:Int)<0:=by omega
 have HC:=hidX zcW;go_enter Tryz.func61,Tryz.ntmps61;go_wp2
 go_loopw [0,3] (fun E X wr=>∃ (m:Nat) (acc:Bs),m<=n/\E=.int .i64 (-(m:Int))/\X=.string (mkS acc)/\zcQ m false ++ acc=Lib.decDigits n/\Below w.heap.size w wr) (fun E _ _=>(-(intOf E)).toNat)
 case atStart=>exact ⟨n,[],Nat.le_refl _,rfl,rfl,by rw[List.append_nil];unfold zcQ;rw[if_neg (by omega)],Below.refl _ _⟩
 case round=>
  obtain ⟨m,acc,hm,rfl,rfl,hd,hb⟩:=hrel;have I:=hidX hd;have O:∀ x:UInt8,¬ 9223372036854775807<(mkS [x]).size+(mkS acc).size:=fun x=>zlm x acc (zdK hd (by omega));have ab:¬ 9223372036854775807<({ data:=#[45] }:ByteArray).size+(mkS acc).size:=zoF _ acc (by decide) (zdK hd (by omega));clear hd;have ad:=HC.out;have hA:∀ o,Below w.heap.size w (wr.alloc o):=fun o=>hb.alloc hb.size _;by_cases Z:0<m
  ·have G:-(m:Int)<0:=by omega
   go_wp2;refine ⟨⟨m / 10,UInt8.ofNat (48+m % 10) :: acc,by omega,by go_num,by rw[zaV,ziq];rfl,by rw[<- zd9 (.inl Z)];exact I.out,hA _⟩,?_⟩;simp[intOf];omega
  have G:¬ -(m:Int)<0:=by omega
  obtain rfl:m=0:=by omega
  go_wp2;go_ret;refine ⟨?_,hb⟩;rw[<- I.out,zgi];exact congrArg (fun x=>Ending.returned (.string x)) (zaV [45] acc)
theorem zdB(n:Int)(w:World)(hn:zbr n):Calls Tryz.prog 61 #[.int .i64 n] w fun e w'=>e=.returned (.string (mkS (Lib.itoa n)))/\Below w.heap.size w w':=by
 obtain ⟨E,h1⟩:=hn;by_cases h:n<0
 ·obtain ⟨u,rfl⟩:∃ u:Nat,n = -(u:Int):=⟨n.natAbs,by omega⟩
  rw[Lib.itoa_neg u (by omega)];exact zmO u w (by omega) (by omega)
 obtain ⟨u,rfl⟩:∃ u:Nat,n=(u:Int):=⟨n.natAbs,by omega⟩
 rw[Lib.itoa_nonneg u];exact zmz u w (by omega)
theorem zfi(v:V)(w:World)(hn:zbr v.num):Calls Tryz.prog 110 #[.agg #[.int .i64 v.kind,.int .i64 v.num,.string v.sym]] w fun e w'=>e=.returned (.string (mkS (txV v)))/\Below w.heap.size w w':=by
 have E:=zHB w;by_cases hk:v.kind=1
 ·have G:Hid (v.sym=mkS (txV v)):=show v.sym=mkS (txV v) from by unfold txV;rw[if_pos hk,zb2]
  go_enter Tryz.func110,Tryz.ntmps110;go_wp2;go_ret;refine ⟨?_,E _⟩;rw[<- G.out];rfl
 have G:Hid (Lib.itoa v.num=txV v):=show Lib.itoa v.num=txV v from by unfold txV;rw[if_neg hk]
 go_enter Tryz.func110,Tryz.ntmps110;go_wp2_with (go_at_call 61;refine (zdB v.num _ hn).mono ?_;rintro e O ⟨rfl,I⟩);go_ret;refine ⟨zb6 G.out,(E _).trans (I.mono (E _).size)⟩
def zbZ(w:World)(a:Option Addr)(l:Bs):Prop:=∀ (j:Nat) x,l[j]?=some x->∃ b o,a=some ⟨b,o,none⟩/\b<w.heap.size/\w.cell? ⟨b,o+j,none⟩=some (.int .u8 (x.toNat:Int))
theorem zbZ.below{w w':World}{a:Option Addr}{l:Bs}(h:zbZ w a l)(hb:Below w.heap.size w w'):zbZ w' a l:=fun j x hx=>by
 obtain ⟨b,o,e,hl,E⟩:=h j x hx;exact ⟨b,o,e,Nat.lt_of_lt_of_le hl hb.size,zaa hb E⟩
def byV(l:Bs):List Value:=l.map fun x=>Value.int .u8 (x.toNat:Int)
theorem zf3(l:Bs):(byV l).length=l.length:=List.length_map _
theorem zbZ.owns{w:World}{base n:Nat}{a:Option Addr}{c:Nat}{l:Bs}(h:w.ownsRow base 5 1 (.slice a n c) n (byV l)):zbZ w a l:=fun j x hx=>by
 obtain ⟨g,hg,_,E,_⟩:=zbE h (j:=j) (x:=.int .u8 (x.toNat:Int)) (by simp[byV,hx]);exact ⟨g,0,hg,World.block_lt_of_cell? _ _ E,by rw[Nat.zero_add];exact E⟩
end Go.Proofs.YtjjjagepnnbebaaGreatDoor
namespace Go.Proofs.YtjjjagepnnbebaaGreatDoor
def RuN(r:Ru):Prop:=zbr r.sal/\(∀ p∈r.pats,∀ t∈p.terms,zbr t.val.num)/\∀ e∈r.exprs,zbr e.val.num
def ExT(es:List Ex)(S:List Sp):Prop:=es.length<=60/\Spans es S/\S.length=es.length/\∀ e∈es,zbr e.val.num
def AcT(es:List Ex)(a:Ac):Prop:=zav a=true/\a.args.length<=6/\∀ v∈a.args,0<=v/\v<(es.length:Int)
def PtT(p:Pt):Prop:=gPt p=true/\∀ t∈p.terms,zbr t.val.num
def RuT(r:Ru):Prop:=r.name.size<=20/\zbr r.sal/\r.pats.length<=6/\(∀ p∈r.pats,PtT p)/\r.acts.length<=8/\(∃ S,ExT r.exprs S)/\∀ a∈r.acts,AcT r.exprs a
theorem zi5{S:List Sp}:∀ {l:List Int}{nx n:Nat},zaT S l nx=some n->∀ v∈l,0<=v/\v<(S.length:Int)
 | [],_,_,_,v,hv=>by simp at hv
 | x :: r,nx,n,h,v,hv=>by
  unfold zaT at h
  split at h
  ·rename_i E
   simp only[Bool.and_eq_true,decide_eq_true_eq]at E
   rcases List.mem_cons.1 hv with rfl | hm
   ·exact ⟨E.1,E.2.1⟩
   ·exact zi5 h v hm
  cases h
theorem zgL{S:List Sp}:∀ {l:List Ac}{nx k:Nat},zbP S l nx k=none->∀ y∈l,zav y=true/\y.args.length<=6/\∀ v∈y.args,0<=v/\v<(S.length:Int)
 | [],_,_,_,y,hy=>by simp at hy
 | a :: r,nx,k,h,y,hy=>by
  unfold zbP at h
  cases hg:gAc S a nx with
  | none=>rw[hg]at h;cases h
  | some G=>
   rw[hg]at h
   rcases List.mem_cons.1 hy with rfl | hm
   ·unfold gAc at hg
    split at hg
    ·rename_i E
     simp only[Bool.and_eq_true,decide_eq_true_eq]at E
     exact ⟨E.1,E.2,zi5 hg⟩
    cases hg
   exact zgL h y hm
theorem RuT.of{r:Ru}(h:shape r=none)(hn:RuN r):RuT r:=by
 obtain ⟨O,I⟩:=zgc h;unfold shape at h;split at h
 ·rename_i G;simp only[zck,Bool.and_eq_true,decide_eq_true_eq]at G;split at h
  ·cases h
  ·split at h
   ·cases h
   ·rename_i U;have hS:=(zb0 (es:=r.exprs) (l:=r.exprs) (Spans.nil _) rfl).1;have E:(zat [] r.exprs).length=r.exprs.length:=by have:=hS.1;omega
    have hf:=zgL h;refine ⟨zdm G.1,hn.1,O,fun p hp=>⟨I p hp,hn.2.1 p hp⟩,G.2.2.1,⟨_,G.2.2.2,hS,E,hn.2.2⟩,fun a ha=>⟨(hf a ha).1,(hf a ha).2.1,fun v hv=>?_⟩⟩;have:=(hf a ha).2.2 v hv;rw[E]at this;exact this
 cases h
theorem zlS{S:List Sp}{e:Ex}{s:Sp}(h:zaJ S e=some s)(hk:e.kind≠2):(e.kind=0/\gVal e.val=true)∨(e.kind=1/\gSym e.var.data.toList=true):=by
 unfold zaJ at h;by_cases E:e.kind=0
 ·simp[E]at h;exact .inl ⟨E,h.1.2.2⟩
 by_cases G:e.kind=1
 ·simp[G]at h;exact .inr ⟨G,h.1.2.1⟩
 simp[E,G,hk]at h
theorem zpX{S:List Sp}{e:Ex}{s:Sp}(h:zaJ S e=some s)(hk:e.kind=2):isAr e.op=true:=by
 unfold zaJ at h;simp only[hk]at h;rw[if_neg (by decide),if_neg (by decide),if_pos (by decide)]at h;split at h
 ·rename_i ho;simp only[opOk,Bool.and_eq_true]at ho;exact ho.1
 cases h
theorem ExT.kind{es:List Ex}{S:List Sp}(h:ExT es S){i:Nat}{e:Ex}(he:es[i]?=some e):(e.kind=0/\gVal e.val=true)∨(e.kind=1/\gSym e.var.data.toList=true)∨(e.kind=2/\isAr e.op=true/\∃ a b:Nat,e.a=(a:Int)/\e.b=(b:Int)/\a<i/\b<i):=by
 have hi:i<S.length:=by rw[h.2.2.1];exact (List.getElem?_eq_some_iff.1 he).1
 obtain ⟨s,hs⟩:∃ s,S[i]?=some s:=⟨S[i],by simp[hi]⟩
 by_cases hk:e.kind=2
 ·obtain ⟨a,b,sa,sb,ha,hb,h1,h2,_⟩:=h.2.1.op hs he hk;exact .inr (.inr ⟨hk,zpX (h.2.1.2 i s e hs he) hk,a,b,ha,hb,by omega,by omega⟩)
 rcases zlS (h.2.1.2 i s e hs he) hk with h | h
 ·exact .inl h
 exact .inr (.inl h)
theorem zmI{es:List Ex}{S:List Sp}(h:ExT es S):∀ (n i:Nat) (s:Sp),S[i]?=some s->(txE n es i).length+5<=40 * 2 ^ s.2
 | 0,i,s,_=>by
  have:0<2 ^ s.2:=Nat.two_pow_pos _
  simp[txE]
  omega
 | n+1,i,s,hs=>by
  have hi:i<es.length:=by rw[<- h.2.2.1];exact (List.getElem?_eq_some_iff.1 hs).1
  obtain ⟨e,he⟩:∃ e,es[i]?=some e:=⟨es[i],by simp[hi]⟩
  have hp:0<2 ^ s.2:=Nat.two_pow_pos _
  rw[zfW n es i e he]
  by_cases hk:e.kind=2
  ·obtain ⟨a,b,sa,sb,ha,hb,h1,h2,h3,E,rfl⟩:=h.2.1.op hs he hk
   rw[if_neg (by omega),if_pos hk,ha,hb]
   have e1:=zmI h n a sa h3
   have e2:=zmI h n b sb E
   have G:2 ^ sa.2<=2 ^ max sa.2 sb.2:=Nat.pow_le_pow_right (by omega) (by omega)
   have I:2 ^ sb.2<=2 ^ max sa.2 sb.2:=Nat.pow_le_pow_right (by omega) (by omega)
   have O:2 ^ (1+max sa.2 sb.2)=2 * 2 ^ max sa.2 sb.2:=by rw[Nat.add_comm,Nat.pow_succ,Nat.mul_comm]
   simp only[List.length_cons,List.length_append,List.length_nil,Int.toNat_natCast]
   omega
  rcases h.kind he with ⟨k,hv⟩ | ⟨k,hv⟩ | ⟨k,_⟩
  ·rw[if_neg (by omega),if_neg hk]
   have:=zn0 hv (h.2.2.2 e (List.mem_of_getElem? he))
   omega
  ·rw[if_pos k]
   have:=zdm hv
   simp only[List.length_cons,zaF]
   omega
  exact absurd k hk
theorem zcH{es:List Ex}{S:List Sp}(h:ExT es S)(n i:Nat)(hi:i<es.length):(txE n es i).length<=41943040:=by
 have E:i<S.length:=by rw[h.2.2.1];exact hi
 have hs:S[i]?=some S[i]:=by simp[E]
 have h1:=zmI h n i _ hs;have h2:=h.2.1.depth_le i _ hs;have h3:2 ^ (S[i]).2<=2 ^ 20:=Nat.pow_le_pow_right (by omega) h2;omega
theorem zfT{α:Type}{f:α->Bs}{N:Nat}:∀ {l:List α},(∀ x∈l,(f x).length<=N)->(l.flatMap f).length<=N * l.length
 | [],_=>by simp
 | x :: r,h=>by
  have h1:=zfT (l:=r) (fun y hy=>h y (by simp[hy]))
  have h2:=h x (by simp)
  rw[List.flatMap_cons,List.length_append,List.length_cons,Nat.mul_succ]
  omega
theorem zg4{es:List Ex}{S:List Sp}(h:ExT es S){l:List Int}(hl:l.length<=6)(hv:∀ v∈l,0<=v/\v<(es.length:Int)):(zaG es l).length<=300000000:=by
 have:=zfT (f:=fun x:Int=>32 :: txE 60 es x.toNat) (N:=41943041) (l:=l) (fun x hx=>by
  have h1:=hv x hx;have:=zcH h 60 x.toNat (by omega);simp only[List.length_cons];omega)
 unfold zaG;omega
theorem zn8{k:Int}(h:kOk k=true):zbr k:=by
 simp only[kOk,Bool.and_eq_true,decide_eq_true_eq]at h;exact ⟨by omega,by omega⟩
theorem zou{s:ByteArray}(h:gCls s=true):s.size<=20:=by
 simp only[gCls,Bool.and_eq_true]at h;exact zdm h.1
theorem AcT.cases{es:List Ex}{a:Ac}(h:AcT es a):(a.kind=1/\a.cls.size<=20)∨(a.kind=2/\zbr a.k/\a.args=[])∨(a.kind=3/\zbr a.k)∨(a.kind=4/\a.args=[]):=by
 have hf:=h.1;unfold zav at hf;by_cases G:a.kind=1
 ·simp[G]at hf;exact .inl ⟨G,zou hf.1⟩
 by_cases I:a.kind=2
 ·simp[I]at hf;exact .inr (.inl ⟨I,zn8 hf.1.2,hf.2⟩)
 by_cases E:a.kind=3
 ·simp[E]at hf;exact .inr (.inr (.inl ⟨E,zn8 hf.2⟩))
 by_cases O:a.kind=4
 ·simp[O]at hf;exact .inr (.inr (.inr ⟨O,hf.2.2⟩))
 simp[G,I,E,O]at hf
theorem zi6{es:List Ex}{a:Ac}(h:AcT es a):(zbe a).length<=30:=by
 unfold zbe;rcases h.cases with ⟨k,hs⟩ | ⟨k,hk,_⟩ | ⟨k,hk⟩ | ⟨k,_⟩
 ·simp[k,addB,zaF];omega
 ·have:=Lib.itoa_length_le _ hk.1 hk.2;simp[k,zeO];omega
 ·have:=Lib.itoa_length_le _ hk.1 hk.2;simp[k,modB];omega
 simp[k,zg6]
theorem zp3{es:List Ex}{S:List Sp}(h:ExT es S){a:Ac}(ha:AcT es a):(txA es a).length<=300000040:=by
 have h1:=zi6 ha;have h2:=zg4 h ha.2.1 ha.2.2;unfold txA;simp only[List.length_cons,List.length_append,List.length_nil];omega
theorem znv{l:List Tm}(hl:l.length<=6)(h:∀ t∈l,gTm t=true/\zbr t.val.num):(txTs l).length<=200:=by
 have:=zfT (f:=fun t:Tm=>32 :: txT t) (N:=31) (l:=l) (fun x hx=>by
  have:=znL (h x hx).1 (h x hx).2;simp only[List.length_cons];omega)
 unfold txTs;omega
theorem PtT.get{p:Pt}(h:PtT p):p.cls.size<=20/\p.terms.length<=6/\∀ t∈p.terms,gTm t=true/\zbr t.val.num:=by
 have hg:=h.1;simp only[gPt,Bool.and_eq_true,decide_eq_true_eq,List.all_eq_true]at hg;exact ⟨zou hg.1,hg.2.1,fun t ht=>⟨hg.2.2 t ht,h.2 t ht⟩⟩
theorem zoy{p:Pt}(h:PtT p):(txP p).length<=240:=by
 obtain ⟨h1,h2,h3⟩:=h.get;have:=znv h2 h3;unfold txP;simp only[List.length_cons,List.length_append,List.length_nil,zaF];split
 ·simp[notX];omega
 simp;omega
theorem zmB{l:List Pt}(hl:l.length<=6)(h:∀ p∈l,PtT p):(txPs l).length<=2000:=by
 have:=zfT (f:=fun p:Pt=>zbJ ++ txP p) (N:=243) (l:=l) (fun x hx=>by
  have:=zoy (h x hx);simp only[List.length_append,zbJ,List.length_cons,List.length_nil];omega)
 unfold txPs;omega
theorem zmM{es:List Ex}{S:List Sp}(h:ExT es S){l:List Ac}(hl:l.length<=8)(ha:∀ a∈l,AcT es a):(txAs es l).length<=2500000000:=by
 have:=zfT (f:=fun a:Ac=>zbJ ++ txA es a) (N:=300000043) (l:=l) (fun x hx=>by
  have:=zp3 h (ha x hx);simp only[List.length_append,zbJ,List.length_cons,List.length_nil];omega)
 unfold txAs;omega
theorem zmJ{r:Ru}(h:RuT r):(txHd r).length<=60:=by
 have:=Lib.itoa_length_le _ h.2.1.1 h.2.1.2;have:=h.1;unfold txHd;simp only[List.length_append,List.length_cons,zhk,List.length_nil,zaF];omega
theorem zp7{r:Ru}(h:RuT r):(txR r).length<=2600000000:=by
 have h1:=zmJ h;obtain ⟨_,_,h2,h3,E,⟨S,I⟩,G⟩:=h;have:=zmB h2 h3;have:=zmM I E G;unfold txR;simp only[List.length_append,List.length_cons,zbJ,zcz,List.length_nil];omega
theorem znF{l:List Ru}(hl:l.length<=16)(h:∀ r∈l,RuT r):(txRs l).length<=42000000000:=by
 have:=zfT (f:=txR) (N:=2600000000) (l:=l) (fun x hx=>zp7 (h x hx));unfold txRs;omega
theorem zcP{α:Type}(f:α->Bs){l:List α}{k:Nat}{x:α}(h:l[k]?=some x):(l.take (k+1)).flatMap f=(l.take k).flatMap f ++ f x:=by
 rw[List.take_add_one,h,List.flatMap_append];simp
theorem zsC{rs:List Ru}(h:(chk rs).1=0)(hn:∀ r∈rs,RuN r):rs.length<=16/\∀ r∈rs,RuT r:=by
 obtain ⟨h1,h2⟩:=zgB h;exact ⟨h1,fun r hr=>RuT.of (h2 r hr).1 (hn r hr)⟩
end Go.Proofs.YtjjjagepnnbebaaGreatDoor
namespace Go.Proofs.YtjjjagepnnbebaaGreatDoor
open Go.RowKit
attribute [local go_sem ↓] Go.wp_at_zero Go.wp_at_succ
def zcu(w:World)(g o:Nat):Prop:=∀ k,k<6->w.cell? ⟨g,o+k,none⟩=some (.string (mkS (opTx.getD k [])))
theorem zcu.below{w w':World}{g o:Nat}(h:zcu w g o)(hb:Below w.heap.size w w'):zcu w' g o:=fun k hk=>zaa hb (h k hk)
theorem zce(w:World):Calls Tryz.prog 103 #[] w fun e w'=>e=.returned (.slice (some ⟨w.heap.size,0,none⟩) 6 6)/\zcu w' w.heap.size 0/\Below w.heap.size w w':=by
 have E:=zHB w;go_enter Tryz.func103,Tryz.ntmps103;go_wp2;go_ret;refine ⟨rfl,?_,E _⟩;intro k hk;rcases (show k=0∨k=1∨k=2∨k=3∨k=4∨k=5 by omega) with rfl | rfl | rfl | rfl | rfl | rfl <;> simp[go_sem] <;> rfl
theorem zev(n:Int)(E:0<=n)(h1:n<1000):IntKind.i64.wrap n=n:=by
 rw[IntKind.wrap_i64];omega
theorem cat5(a b:Bs):({ data:=#[40] }:ByteArray) ++ mkS a ++ { data:=#[32] } ++ mkS b ++ { data:=#[41] }=mkS (40 :: (a ++ 32 :: (b ++ [41]))):=by
 have e:∀ x:UInt8,({ data:=#[x] }:ByteArray)=mkS [x]:=fun _=>rfl;rw[e,e,e,zaV,zaV,zaV,zaV];simp
theorem zaC(x:UInt8):({ data:=#[x] }:ByteArray).size=1:=rfl
theorem zh4(t:Tm)(w:World)(hg:gTm t=true)(hn:zbr t.val.num):Calls Tryz.prog 62 #[.agg #[.int .i64 t.kind,.int .i64 t.op,.string t.var,.int .i64 t.val.kind,.int .i64 t.val.num,.string t.val.sym]] w fun e w'=>e=.returned (.string (mkS (txT t)))/\Below w.heap.size w w':=by
 have hA:=zHB w;by_cases k1:t.kind=1
 ·have X:Hid (txV t.val=txT t):=show txV t.val=txT t from by unfold txT;rw[if_pos k1]
  go_enter Tryz.func62,Tryz.ntmps62;go_wp2_with (go_at_call 110;refine (zfi t.val _ hn).mono ?_;rintro e O ⟨rfl,G⟩);go_ret;exact ⟨zb6 X.out,(hA _).trans (G.mono (hA _).size)⟩
 by_cases k2:t.kind=2
 ·have X:Hid (63 :: bsOf t.var=txT t):=show _=txT t from by unfold txT;rw[if_neg k1,if_pos k2]
  have hv:t.var.size<=20:=by
   simp[gTm,k2]at hg;exact zdm hg.2.1
  have hs:¬ 9223372036854775807<({ data:=#[63] }:ByteArray).size+t.var.size:=by
   have:({ data:=#[63] }:ByteArray).size=1:=rfl;omega
  go_enter Tryz.func62,Tryz.ntmps62;go_wp2;go_ret;refine ⟨?_,hA _⟩;rw[<- X.out];exact congrArg (fun x=>Ending.returned (.string x)) (zez t.var [63])
 by_cases k3:t.kind=3
 ·have hT:1<=t.op/\t.op<=6/\zbo t=true:=by
   simp[gTm,k3]at hg;exact hg
  obtain ⟨aj,al,ab⟩:=hT;obtain ⟨k,hk⟩:∃ k:Nat,t.op=(k:Int)+1:=⟨(t.op - 1).toNat,by omega⟩
  have af:k<6:=by omega
  have X:Hid (40 :: (opTx.getD k [] ++ 32 :: (txO t ++ [41]))=txT t):=show _=txT t from by unfold txT;rw[if_neg k1,if_neg k2,if_pos k3,hk];simp
  have ag:=zll ab hn;have ah:=zkv k;have ao:=hidX hk;obtain ⟨xo,U⟩:∃ x,x=txO t:=⟨_,rfl⟩
  rw[<- U]at X ag
  cases hv:t.var.toList.isEmpty
  focus
   have hO:mkS xo=({ data:=#[63] }:ByteArray) ++ t.var:=by
    have hb:isE t.var=false:=hv;rw[U,txO,hb];exact (zez t.var [63]).symm
   have hs:¬ 9223372036854775807<({ data:=#[63] }:ByteArray).size+t.var.size:=by
    have:=congrArg ByteArray.size hO;rw[zad,ByteArray.size_append]at this;omega
   have HO:=hidX hO;clear hO U;go_enter Tryz.func62,Tryz.ntmps62;go_wp2_with (go_at_call 110;refine (zfi t.val _ hn).mono ?_;rintro e O ⟨rfl,G⟩;have z1:O.cell? ⟨w.heap.size,1,none⟩=some (.int .i64 ((k:Int)+1)):=zaa G (by simp[go_sem]);have z2:O.cell? ⟨w.heap.size,2,none⟩=some (.string t.var):=zaa G (by simp[go_sem]));rw[<- HO.out];clear z2 hs HO hv
  rotate_left
  focus
   have hb:isE t.var=true:=hv;have hV:∀ w0,Calls Tryz.prog 110 #[.agg #[.int .i64 t.val.kind,.int .i64 t.val.num,.string t.val.sym]] w0 fun e w'=>e=.returned (.string (mkS xo))/\Below w0.heap.size w0 w':=fun w0=>by
    have e:txO t=txV t.val:=by unfold txO;rw[hb];rfl
    rw[U,e];exact zfi t.val w0 hn
   have HV:=hidX hV;clear hV U hb;go_enter Tryz.func62,Tryz.ntmps62;go_wp2_with (go_at_call 110;refine (HV.out _).mono ?_;rintro e O ⟨rfl,G⟩;have z1:O.cell? ⟨w.heap.size,1,none⟩=some (.int .i64 ((k:Int)+1)):=zaa G (by simp[go_sem]);have z2:O.cell? ⟨w.heap.size,2,none⟩=some (.string t.var):=zaa G (by simp[go_sem]));clear z2 hv
  rotate_left
  all_goals
   have z3:∀ w',Below O.heap.size O w'->w'.cell? ⟨w.heap.size,1,none⟩=some (.int .i64 ((k:Int)+1)):=fun w' h=>zaa h z1;have ZZ:=hidX z3;obtain ⟨ob,Z⟩:∃ o,o=opTx.getD k []:=⟨_,rfl⟩
   have ae:=hidX Z;rw[<- Z]at ah;have TA:Hid (∀ w0,w0.heap.size=O.heap.size->Calls Tryz.prog 103 #[] w0 fun e w'=>e=.returned (.slice (some ⟨O.heap.size,0,none⟩) 6 6)/\w'.cell? ⟨O.heap.size,k,none⟩=some (.string (mkS ob))/\Below w0.heap.size w0 w'):=fun w0 h0=>(zce w0).mono fun e w' ⟨h1,h2,h3⟩=>⟨by rw[<- h0];exact h1,by have:=h2 k af;rw[Nat.zero_add,<- ae.out,h0]at this;exact this,h3⟩
   clear Z z3;have i0:(0:Int)<=(k:Int):=by omega
   have i6:(k:Int)<6:=by omega
   have i7:IntKind.i64.wrap ((k:Int)+1 - 1)=(k:Int):=by rw[show (k:Int)+1 - 1=(k:Int) by omega];exact zev _ (by omega) (by omega)
   have i8:IntKind.i64.wrap (k:Int)=(k:Int):=zev _ (by omega) (by omega);refine wp_region_noPanic ?_;refine wp_region_held_drew (S:=(fun w'=>w'.cell? ⟨w.heap.size,1,none⟩=some (.int .i64 ((k:Int)+1)))) (by kernel_rfl) ?_ (fun E=>?_)
   ·(try dsimp only);exact z1
   refine tk 1 E ?_;(try simp only[pA,pZ,pS]);refine tk 2 E ?_;(try simp only[pA,pZ,pS]);refine tk 3 E ?_;(try simp only[pA,pZ,pS]);refine tk 8 E ?_;(try simp only[pA,pZ,pS]);refine r1 0 fun K hK=>?_;go_simp
   go_at_call 103;refine (TA.out _ (by simp)).mono ?_;rintro e' w' ⟨rfl,ak,ad⟩;(try go_wp2_with fail)
   refine hK.out _ _ (by (try dsimp only);exact zaa ad (by assumption)) fun I=>?_;replace E:=I;clear hK K I;(try simp only[pA,pZ,pS,pN]);refine tk 4 E ?_;(try simp only[pA,pZ,pS]);refine r1 5 fun K hK=>?_;go_simp;refine hK.out _ _ (by (try dsimp only);assumption) fun I=>?_;replace E:=I;clear hK K I;(try simp only[pA,pZ,pS,pN]);refine r1 6 fun K hK=>?_;go_simp;(rw[if_neg (by (repeat (first | rw[ByteArray.size_append] | rw[zad] | rw[zaC]));omega)];go_simp);refine hK.out _ _ (by (try dsimp only);assumption) fun I=>?_;replace E:=I;clear hK K I;(try simp only[pA,pZ,pS,pN]);refine r1 7 fun K hK=>?_;go_simp;(rw[if_neg (by (repeat (first | rw[ByteArray.size_append] | rw[zad] | rw[zaC]));omega)];go_simp);refine hK.out _ _ (by (try dsimp only);assumption) fun I=>?_;replace E:=I;clear hK K I;(try simp only[pA,pZ,pS,pN]);refine r1 9 fun K hK=>?_;go_simp;(rw[if_neg (by (repeat (first | rw[ByteArray.size_append] | rw[zad] | rw[zaC]));omega)];go_simp);refine hK.out _ _ (by (try dsimp only);assumption) fun I=>?_;replace E:=I;clear hK K I;(try simp only[pA,pZ,pS,pN]);refine r1 10 fun K hK=>?_;go_simp;(rw[if_neg (by (repeat (first | rw[ByteArray.size_append] | rw[zad] | rw[zaC]));omega)];go_simp);refine hK.out _ _ (by (try dsimp only);assumption) fun I=>?_;replace E:=I;clear hK K I;(try simp only[pA,pZ,pS,pN]);refine tk 11 E ?_;(try simp only[pA,pZ,pS]);refine wpAnyH_done (by kernel_rfl) ?_ _;refine NoPanic.normal ?_;go_wp2;go_ret;refine ⟨?_,(hA _).trans ((G.trans ((Below.refl _ _).drew.trans (ad.mono (by simp))|>.mono G.size)).mono (hA _).size)⟩;rw[<- X.out,<- ae.out];exact congrArg (fun x=>Ending.returned (.string x)) (cat5 ob xo)
 have X:Hid ([95]=txT t):=show _=txT t from by unfold txT;rw[if_neg k1,if_neg k2,if_neg k3]
 go_enter Tryz.func62,Tryz.ntmps62;go_wp2;go_ret;exact ⟨zb6 X.out,hA _⟩
end Go.Proofs.YtjjjagepnnbebaaGreatDoor
namespace Go.Proofs.YtjjjagepnnbebaaGreatDoor
def isDg(b:UInt8):Bool:=decide (48<=b.toNat) && decide (b.toNat<=57)
def zcs(acc:Nat)(l:Bs):Nat:=l.foldl (fun a b=>a * 10+(b.toNat - 48)) acc
def dVal(l:Bs):Nat:=zcs 0 l
def canon(l:Bs):Prop:=l≠[]/\l.all isDg=true/\(l.head?≠some 48∨l=[48])
theorem zga(acc:Nat)(l:Bs)(b:UInt8):zcs acc (l ++ [b])=zcs acc l * 10+(b.toNat - 48):=by simp[zcs]
theorem zfU(acc:Nat)(b:UInt8)(l:Bs):zcs acc (b :: l)=zcs (acc * 10+(b.toNat - 48)) l:=by
 unfold zcs;rw[List.foldl_cons]
theorem zgt{m:Nat}(h:m<10):(UInt8.ofNat (48+m)).toNat=48+m:=by
 rw[UInt8.toNat_ofNat'];exact Nat.mod_eq_of_lt (by omega)
theorem zgE:∀ u:Nat,dVal (Lib.decDigits u)=u:=by
 intro u
 induction u using Nat.strongRecOn with
 | _ u E=>
  rw[Lib.decDigits];by_cases h:u<10
  ·rw[dif_pos h];unfold dVal zcs;rw[List.foldl_cons,List.foldl_nil,zgt h];omega
  rw[dif_neg h,dVal,zga,zgt (by omega)];have:=E (u / 10) (by omega);unfold dVal at this;rw[this];omega
theorem zos{m:Nat}(h:m<10):isDg (UInt8.ofNat (48+m))=true:=by
 unfold isDg;rw[zgt h];simp;omega
theorem zdr:∀ u:Nat,(Lib.decDigits u).all isDg=true:=by
 intro u
 induction u using Nat.strongRecOn with
 | _ u E=>
  rw[Lib.decDigits];by_cases h:u<10
  ·rw[dif_pos h];rw[List.all_cons,zos h];rfl
  rw[dif_neg h,List.all_append,E (u / 10) (by omega)];rw[List.all_cons,zos (by omega)];rfl
theorem zft(u:Nat):Lib.decDigits u≠[]:=by
 intro h;have:=Lib.decDigits_length u;rw[h]at this;have:=Lib.nDigits_pos u;simp at *;omega
theorem zki:∀ u:Nat,0<u->(Lib.decDigits u).head?≠some 48:=by
 intro u
 induction u using Nat.strongRecOn with
 | _ u I=>
  intro O;rw[Lib.decDigits];by_cases h:u<10
  ·rw[dif_pos h];intro e;have E:UInt8.ofNat (48+u)=48:=by simpa using e
   have:=congrArg UInt8.toNat E;rw[zgt h]at this;have G:(48:UInt8).toNat=48:=rfl;omega
  rw[dif_neg h];have h1:=I (u / 10) (by omega) (by omega);have h2:=zft (u / 10)
  cases hd:Lib.decDigits (u / 10) with
  | nil=>exact absurd hd h2
  | cons x r=>
   rw[hd]at h1;simpa using h1
theorem zmF{b:UInt8}(h:isDg b=true):UInt8.ofNat (48+(b.toNat - 48))=b:=by
 unfold isDg at h;simp at h;rw[show 48+(b.toNat - 48)=b.toNat by omega];simp
theorem zqk{b:UInt8}(h:isDg b=true):b.toNat - 48<10:=by
 unfold isDg at h;simp at h;omega
theorem zgw:∀ (l:Bs) (acc:Nat),acc<=zcs acc l
 | [],acc=>Nat.le_refl _
 | b :: l,acc=>by
  rw[zfU]
  have:=zgw l (acc * 10+(b.toNat - 48))
  omega
theorem zkO:∀ (n:Nat) (l:Bs),l.length=n->canon l->Lib.decDigits (dVal l)=l:=by
 intro n
 induction n with
 | zero=>exact fun l h Z=>absurd (List.eq_nil_of_length_eq_zero h) Z.1
 | succ n ih=>
  intro l hl Z;obtain ⟨I,E,U⟩:=Z;obtain ⟨r,b,rfl⟩:∃ r b,l=r ++ [b]:=⟨l.dropLast,l.getLast I,(List.dropLast_concat_getLast I).symm⟩
  have X:r.length=n:=by simpa using hl
  rw[List.all_append]at E;simp at E;obtain ⟨O,hb⟩:=E
  cases r with
  | nil=>
   simp only[List.nil_append,dVal,zcs,List.foldl_cons,List.foldl_nil,Nat.zero_mul,Nat.zero_add];rw[Lib.decDigits,dif_pos (zqk hb)];rw[zmF hb]
  | cons x r=>
   have G:x≠48:=by
    rcases U with U | U
    ·simpa using U
    simp at U
   have ab:canon (x :: r):=⟨by simp,by simpa using O,.inl (by simpa using G)⟩
   have h1:=ih (x :: r) X ab;have ad:0<dVal (x :: r):=by
    have hx:isDg x=true:=O x (by simp);have h2:0<x.toNat - 48:=by
     unfold isDg at hx;simp at hx;have h3:x.toNat≠48:=fun e=>G (UInt8.toNat_inj.1 (by rw[e];rfl));omega
    unfold dVal;rw[zfU];have:=zgw r (0 * 10+(x.toNat - 48));omega
   have hd:=zqk hb;have e:dVal (x :: r ++ [b])=dVal (x :: r) * 10+(b.toNat - 48):=zga _ _ _;rw[e,Lib.decDigits,dif_neg (by omega)];rw[show (dVal (x :: r) * 10+(b.toNat - 48)) / 10=dVal (x :: r) by omega,show (dVal (x :: r) * 10+(b.toNat - 48)) % 10=b.toNat - 48 by omega,h1,zmF hb]
def spell(s:Bs):Int:=match s with
 | []=>0
 | b :: d=>if b=45 then -(dVal d:Int) else (dVal (b :: d):Int)
def zbj(s:Bs):Option Int:=if decide (-9223372036854775808<=spell s) && (decide (spell s<=9223372036854775807) && decide (Lib.itoa (spell s)=s)) then some (spell s) else none
theorem zhR{b:UInt8}(h:isDg b=true):b≠45:=by
 rintro rfl;exact absurd h (by decide)
theorem zjs(u:Nat):spell (Lib.decDigits u)=(u:Int):=by
 have h1:=zft u;have h2:=zdr u;have h3:=zgE u
 cases hd:Lib.decDigits u with
 | nil=>exact absurd hd h1
 | cons b d=>
  rw[hd]at h2 h3;simp at h2;unfold spell;simp only;rw[if_neg (zhR h2.1),h3]
theorem zgb(n:Int):spell (Lib.itoa n)=n:=by
 unfold Lib.itoa;by_cases h:n<0
 ·rw[if_pos h];unfold spell;simp only[if_pos];rw[zgE];omega
 rw[if_neg h,zjs];omega
theorem zeB{n:Int}(hn:zbr n):zbj (Lib.itoa n)=some n:=by
 have e:=zgb n;unfold zbj;rw[e];simp[hn.1,hn.2]
theorem zcf{s:Bs}{n:Int}(h:zbj s=some n):s=Lib.itoa n/\zbr n:=by
 unfold zbj at h;split at h
 ·rename_i E;simp only[Bool.and_eq_true,decide_eq_true_eq]at E;injection h with h;subst h;exact ⟨E.2.2.symm,E.1,E.2.1⟩
 cases h
def zbk(s:Bs):Bs:=if s.head?=some 45 then s.tail else s
theorem ziu:∀ (l:Bs) (acc:Nat),l.all isDg=true->acc<=2 ^ 64 - 1->Lib.parseUintM (2 ^ 64 - 1) acc l=if zcs acc l<=2 ^ 64 - 1 then .ok (zcs acc l) else .range
 | [],acc,_,h=>by
  have e:zcs acc []=acc:=rfl
  rw[e,Lib.parseUintM,if_pos (by omega)]
 | b :: l,acc,ha,h=>by
  simp at ha
  have hb:=ha.1
  have hd:=zqk hb
  unfold isDg at hb
  simp at hb
  rw[Lib.parseUintM,if_pos hb,zfU]
  have E:=zgw l (acc * 10+(b.toNat - 48))
  by_cases h1:1844674407370955162<=acc
  ·rw[if_pos h1,if_neg (by omega)]
  rw[if_neg h1]
  by_cases h2:2 ^ 64 - 1<acc * 10+(b.toNat - 48)
  ·rw[if_pos h2,if_neg (by omega)]
  rw[if_neg h2]
  exact ziu l _ (by simpa using ha.2) (by omega)
theorem ze6{n:Int}(h:¬ n<0):Lib.itoa n=Lib.decDigits n.toNat:=by unfold Lib.itoa;rw[if_neg h]
theorem zgR{n:Int}(h:n<0):Lib.itoa n=45 :: Lib.decDigits n.natAbs:=by unfold Lib.itoa;rw[if_pos h]
theorem zjH(u:Nat):(Lib.decDigits u).head?≠some 45:=by
 have h2:=zdr u
 cases hd:Lib.decDigits u with
 | nil=>simp
 | cons b d=>
  rw[hd]at h2;simp at h2;simpa using zhR h2.1
theorem zf1(n:Int):zbk (Lib.itoa n)=Lib.decDigits n.natAbs:=by
 unfold zbk;by_cases h:n<0
 ·rw[zgR h];simp
 rw[ze6 h,if_neg (zjH _),show n.toNat=n.natAbs by omega]
theorem zlM:zbj [48]=some 0:=by
 have e:Lib.itoa 0=[48]:=by rw[ze6 (by omega),Lib.decDigits];rfl
 have:=zeB (n:=0) ⟨by omega,by omega⟩;rw[e]at this;exact this
theorem zdt{s:Bs}(E:s≠[48])(h:zbk s=[]∨(zbk s).head?=some 48):zbj s=none:=by
 cases hn:zbj s with
 | none=>rfl
 | some n=>
  obtain ⟨rfl,_⟩:=zcf hn;rw[zf1]at h;rcases h with h | h
  ·exact absurd h (zft _)
  by_cases hz:0<n.natAbs
  ·exact absurd h (zki _ hz)
  obtain rfl:n=0:=by omega
  exact absurd (by rw[ze6 (by omega),Lib.decDigits];rfl) E
theorem zh6{s:Bs}(h:(zbk s).all isDg=false):zbj s=none:=by
 cases hn:zbj s with
 | none=>rfl
 | some n=>
  obtain ⟨rfl,_⟩:=zcf hn;rw[zf1,zdr]at h
  cases h
theorem zlW{s:Bs}(h1:zbk s≠[])(h2:(zbk s).head?≠some 48)(h3:(zbk s).all isDg=true):Lib.itoa (spell s)=s:=by
 have G:canon (zbk s):=⟨h1,h3,.inl h2⟩
 have hd:=zkO _ _ rfl G
 cases s with
 | nil=>exact absurd rfl h1
 | cons b d=>
  by_cases hb:b=45
  ·subst hb;have e:zbk (45 :: d)=d:=rfl;rw[e]at hd h1 h2 h3;have E:0<dVal d:=by
    by_cases hz:0<dVal d
    ·exact hz
    have:dVal d=0:=by omega
    rw[this,Lib.decDigits,dif_pos (by omega)]at hd;rw[<- hd]at h2;exact absurd rfl h2
   have e2:spell (45 :: d) = -(dVal d:Int):=rfl;rw[e2,zgR (by omega),show (-(dVal d:Int)).natAbs=dVal d by omega,hd]
  have e:zbk (b :: d)=b :: d:=by unfold zbk;rw[if_neg (by simpa using hb)]
  rw[e]at hd;have e2:spell (b :: d)=(dVal (b :: d):Int):=by unfold spell;simp only[if_neg hb]
  rw[e2,ze6 (by omega),show ((dVal (b :: d):Int)).toNat=dVal (b :: d) by omega,hd]
theorem zrv{s:Bs}(h1:zbk s≠[])(h3:(zbk s).all isDg=true):Lib.parseIntB 64 s=if -9223372036854775808<=spell s/\spell s<=9223372036854775807 then .ok (spell s) else .range:=by
 cases s with
 | nil=>exact absurd rfl h1
 | cons b d=>
  by_cases hb:b=45
  ·subst hb;have e:zbk (45 :: d)=d:=rfl;rw[e]at h1 h3;have X:Lib.parseUintB 64 d=if dVal d<=2 ^ 64 - 1 then .ok (dVal d) else .range:=by
    unfold Lib.parseUintB;rw[if_neg h1];exact ziu d 0 h3 (by omega)
   have e2:spell (45 :: d) = -(dVal d:Int):=rfl;unfold Lib.parseIntB;simp only;have E:(45:UInt8).toNat=45:=rfl;rw[if_pos (Or.inr E),X,e2];by_cases hr:dVal d<=2 ^ 64 - 1
   ·rw[if_pos hr];simp only;rw[if_neg (by rw[E];omega)];by_cases U:2 ^ (64 - 1)<dVal d
    ·rw[if_pos ⟨E,U⟩,if_neg (by omega)]
    rw[if_neg (by omega),if_pos E,if_pos (by omega)]
   rw[if_neg hr];simp only;rw[if_neg (by omega)]
  have e:zbk (b :: d)=b :: d:=by unfold zbk;rw[if_neg (by simpa using hb)]
  rw[e]at h3;have O:isDg b=true:=by simp at h3;exact h3.1
  have I:¬ (b.toNat=43∨b.toNat=45):=by
   unfold isDg at O;simp at O;omega
  have G:¬ b.toNat=45:=fun h=>I (.inr h);have X:Lib.parseUintB 64 (b :: d)=if dVal (b :: d)<=2 ^ 64 - 1 then .ok (dVal (b :: d)) else .range:=by
   unfold Lib.parseUintB;rw[if_neg (by simp)];exact ziu (b :: d) 0 h3 (by omega)
  have e2:spell (b :: d)=(dVal (b :: d):Int):=by unfold spell;simp only[if_neg hb]
  unfold Lib.parseIntB;simp only;rw[if_neg I,X,e2];by_cases hr:dVal (b :: d)<=2 ^ 64 - 1
  ·rw[if_pos hr];simp only;by_cases U:2 ^ (64 - 1)<=dVal (b :: d)
   ·rw[if_pos ⟨G,U⟩,if_neg (by omega)]
   rw[if_neg (fun h=>U h.2),if_neg (fun h=>G h.1),if_neg G,if_pos (by omega)]
  rw[if_neg hr];simp only;rw[if_neg (by omega)]
theorem zmn{s:Bs}(h1:zbk s≠[])(h2:(zbk s).head?≠some 48)(h3:(zbk s).all isDg=true):(∃ v,Lib.parseIntB 64 s=.ok v/\zbj s=some v)∨(Lib.parseIntB 64 s=.range/\zbj s=none):=by
 rw[zrv h1 h3];have hi:=zlW h1 h2 h3;unfold zbj;by_cases hr:-9223372036854775808<=spell s/\spell s<=9223372036854775807
 ·rw[if_pos hr];exact .inl ⟨_,rfl,by rw[if_pos (by simp[hr.1,hr.2,hi])]⟩
 rw[if_neg hr];refine .inr ⟨rfl,?_⟩;rw[if_neg];intro E;simp only[Bool.and_eq_true,decide_eq_true_eq]at E;exact hr ⟨E.1,E.2.1⟩
theorem zks(u:Nat)(h:19<Lib.nDigits u):10 ^ 19<=u:=by
 by_cases hk:10 ^ 19<=u
 ·exact hk
 have I:u<10 ^ 19:=by omega
 have G:∀ (k v:Nat),v<10 ^ (k+1)->Lib.nDigits v<=k+1:=by
  intro k
  induction k with
  | zero=>intro v hv;rw[Lib.nDigits_small (by omega)];omega
  | succ k O=>
   intro v hv;by_cases E:v<10
   ·rw[Lib.nDigits_small E];omega
   rw[Lib.nDigits_big E];have:=O (v / 10) (by rw[Nat.pow_succ]at hv;omega);omega
 have:=G 18 u I;omega
theorem zdw{s:Bs}{n:Int}(h:zbj s=some n):(zbk s).length<=19/\1<=(zbk s).length/\(zbk s).all isDg=true:=by
 obtain ⟨rfl,G,h1⟩:=zcf h;rw[zf1];refine ⟨?_,?_,zdr _⟩
 ·rw[Lib.decDigits_length];have h2:=Lib.lt_pow_nDigits n.natAbs;by_cases hk:Lib.nDigits n.natAbs<=19
  ·exact hk
  have h3:(Lib.decDigits n.natAbs).length=Lib.nDigits n.natAbs:=Lib.decDigits_length _;have E:=zks (n.natAbs) (by omega);omega
 rw[Lib.decDigits_length];exact Lib.nDigits_pos _
end Go.Proofs.YtjjjagepnnbebaaGreatDoor
namespace Go.Proofs.YtjjjagepnnbebaaGreatDoor
open Go.RowKit
attribute [local go_sem ↓] Go.wp_at_zero Go.wp_at_succ
def IPost(s:Bs)(w:World)(e:Ending)(w':World):Prop:=∃ (n:Int) (b:Bool),e=.returned (.tuple #[.int .i64 n,.bool b])/\zbj s=(if b then some n else none)/\Below w.heap.size w w'
theorem IPost.no{s:Bs}{w w':World}{e:Ending}(n:Int)(he:e=.returned (.tuple #[.int .i64 n,.bool false]))(hn:zbj s=none)(hb:Below w.heap.size w w'):IPost s w e w':=⟨n,false,he,by rw[hn];rfl,hb⟩
theorem zey(s:ByteArray)(h:0<s.size):bsOf (s.extract 1 s.size)=(bsOf s).tail:=by
 obtain ⟨⟨l⟩⟩:=s
 cases l with
 | nil=>exact absurd h (Nat.lt_irrefl 0)
 | cons a l=>simp[bsOf,ByteArray.extract,ByteArray.size,ByteArray.copySlice]
theorem zeK(s:ByteArray)(h:0<s.size):(bsOf s).head?=some s[0]:=by
 obtain ⟨⟨l⟩⟩:=s
 cases l with
 | nil=>exact absurd h (Nat.lt_irrefl 0)
 | cons a l=>rfl
theorem byte45{b:UInt8}:((b.toNat:Int)=45) ↔ b=45:=by
 constructor
 ·intro h;exact UInt8.toNat_inj.1 (by have:(45:UInt8).toNat=45:=rfl;omega)
 rintro rfl;rfl
theorem zdQ{l:Bs}{f:UInt8->Bool}{k:Nat}(hk:k<l.length)(h:(l.take k).all f=true)(hb:f l[k]=true):(l.take (k+1)).all f=true:=by
 rw[List.take_add_one,List.getElem?_eq_getElem hk,List.all_append,h];simp[hb]
theorem zgU{l:Bs}{k:Nat}(hk:k<l.length):zcs 0 (l.take (k+1))=zcs 0 (l.take k) * 10+(l[k].toNat - 48):=by
 rw[List.take_add_one,List.getElem?_eq_getElem hk,Option.toList_some,zga]
theorem zf8(x:Int):zbr (wrap64 x):=by
 unfold zbr wrap64;omega
theorem zd0{x:Int}(E:-9223372036854775808<=x)(h1:x<=9223372036854775807):wrap64 x=x:=by
 unfold wrap64;omega
theorem znb(acc:Nat)(a b:Bs):zcs acc (a ++ b)=zcs (zcs acc a) b:=by
 unfold zcs;rw[List.foldl_append]
theorem zfp(l:Bs)(k:Nat):zcs 0 (l.take k)<=zcs 0 l:=by
 have h:zcs 0 l=zcs (zcs 0 (l.take k)) (l.drop k):=by rw[<- znb,List.take_append_drop]
 rw[h];exact zgw _ _
theorem zkp{s:Bs}(h:s.head?=some 45):spell s = -(dVal (zbk s):Int):=by
 cases s with
 | nil=>cases h
 | cons b d=>
  have hb:b=45:=by simpa using h
  subst hb;rfl
theorem ziX{s:Bs}(h:s.head?≠some 45):spell s=(dVal s:Int):=by
 cases s with
 | nil=>rfl
 | cons b d=>
  have hb:b≠45:=by simpa using h
  unfold spell;simp only[if_neg hb]
theorem zmV(s:ByteArray)(w:World)(hs:s.size<=20000):Calls Tryz.prog 102 #[.string s] w (IPost (bsOf s) w):=by
 by_cases h0:0<s.size
 ·have i0:(0:Int)<(s.size:Int):=by omega
  have i1:(1:Int)<=(s.size:Int):=by omega
  by_cases hm:(s[0].toNat:Int)=45
  ·have G:Hid (bsOf (s.extract 1 s.size)=zbk (bsOf s)):=show _=_ from by
    rw[zey s h0];unfold zbk;rw[if_pos (by rw[zeK s h0,byte45.1 hm])]
   have ap:(s.extract 1 s.size).size+1=s.size:=by simp;omega
   go_enter Tryz.func102,Tryz.ntmps102;go_upto_region 4 with fail
   obtain ⟨D,hD⟩:∃ D:ByteArray,D=s.extract 1 s.size:=⟨_,rfl⟩
   rw[<- hD]at G ap ⊢;have au:¬ (D.size:Int)=(s.size:Int):=by omega
   clear hD;by_cases aq:D.size<1
   ·have j1:(D.size:Int)<1:=by omega
    have E:Hid (zbj (bsOf s)=none):=show _=_ from by
     cases hn:zbj (bsOf s) with
     | none=>rfl
     | some n=>have h1:=(zdw hn).2.1;rw[<- G.out,zaF]at h1;omega
    go_wp2
    go_ret2
    exact IPost.no 0 rfl E.out (Below.refl _ _)
   by_cases al:19<D.size
   ·have j1:¬ (D.size:Int)<1:=by omega
    have j2:(19:Int)<(D.size:Int):=by omega
    have E:Hid (zbj (bsOf s)=none):=show _=_ from by
     cases hn:zbj (bsOf s) with
     | none=>rfl
     | some n=>have h1:=(zdw hn).1;rw[<- G.out,zaF]at h1;omega
    go_wp2
    go_ret2
    exact IPost.no 0 rfl E.out (Below.refl _ _)
   have j1:¬ (D.size:Int)<1:=by omega
   have j2:¬ (19:Int)<(D.size:Int):=by omega
   go_wp2
   go_loop [5,6] (fun nv iv=>∃ (k:Nat) (n:Int),k<=D.size/\iv=.int .i64 (k:Int)/\nv=.int .i64 n/\zbr n/\((bsOf D).take k).all isDg=true/\(dVal (bsOf D)<=9223372036854775808->n = -(zcs 0 ((bsOf D).take k):Int))) (fun _ iv=>D.size - (intOf iv).toNat)
   case atStart=>exact ⟨0,0,by omega,rfl,rfl,⟨by omega,by omega⟩,by simp,fun _=>by simp[zcs]⟩
   case round=>
    obtain ⟨k,n,hk,rfl,rfl,ag,U,O⟩:=hrel;have ae:=hidX U;have X:=hidX O;have aj:=hidX ag;clear U O ag;by_cases ah:k<D.size
    ·have k0:(0:Int)<=(k:Int):=by omega
     have k1:(k:Int)<(D.size:Int):=by omega
     have Z:k<(bsOf D).length:=by rw[zaF];exact ah
     have eb:(bsOf D)[k]=D[k]:=zgD D k ah;by_cases hd:isDg D[k]=true
     ·have I:=hd;unfold isDg at I;simp at I;have b0:¬ (D[k].toNat:Int)<48:=by omega
      have b1:¬ (57:Int)<(D[k].toNat:Int):=by omega
      go_wp2;refine ⟨⟨k+1,_,by omega,by go_num,rfl,zf8 _,zdQ Z ae.out (by rw[eb];exact hd),fun h=>?_⟩,?_⟩
      ·have h1:=zgU Z;have h2:=zfp (bsOf D) (k+1);rw[eb]at h1;have h3:=X.out h;have h4:zcs 0 (bsOf D)=dVal (bsOf D):=rfl;have e1:wrap64 (n * 10)=n * 10:=zd0 (by omega) (by omega);rw[e1,zd0 (by omega) (by omega),h1];omega
      simp[intOf];omega
     have E:Hid (zbj (bsOf s)=none):=show _=_ from by
      cases hn:zbj (bsOf s) with
      | none=>rfl
      | some n=>
       have h1:=(zdw hn).2.2;rw[<- G.out]at h1;have h2:=(List.all_eq_true.1 h1) _ (List.getElem_mem Z);rw[eb]at h2;exact absurd h2 hd
     have I:(D[k].toNat:Int)<48∨(57:Int)<(D[k].toNat:Int):=by
      unfold isDg at hd;simp at hd;omega
     rcases I with b0 | b1
     ·go_wp2
      go_ret2
      exact IPost.no 0 rfl E.out (Below.refl _ _)
     have b0:¬ (D[k].toNat:Int)<48:=by omega
     go_wp2
     go_ret2
     exact IPost.no 0 rfl E.out (Below.refl _ _)
    have k1:¬ (k:Int)<(D.size:Int):=by omega
    obtain rfl:k=D.size:=by omega
    have HV:Hid (∀ v,zbj (bsOf s)=some v->v=n):=fun v hv=>by
     have h1:=(zcf hv).2;have h2:v=spell (bsOf s):=by
      obtain ⟨e,_⟩:=zcf hv;rw[e,zgb]
     have h3:spell (bsOf s) = -(dVal (bsOf D):Int):=by rw[G.out];exact zkp (by rw[zeK s h0,byte45.1 hm])
     have h4:=X.out (by have:=h1.1;omega);rw[List.take_of_length_le (by rw[zaF];exact Nat.le_refl _)]at h4;rw[h2,h3,h4];rfl
    have ad:=hidX (zdB n w aj.out);by_cases he:Lib.itoa n=bsOf s
    ·have HS:Hid (mkS (Lib.itoa n)=s):=show _=_ from by rw[he,zb2]
     have E:Hid (zbj (bsOf s)=some n):=show _=_ from by rw[<- he];exact zeB aj.out
     clear he;go_wp2_with (go_at_call 61;refine ad.out.mono ?_;rintro e w1 ⟨rfl,ab⟩;rw[HS.out])
     go_ret2
     exact ⟨n,true,by simp,E.out,ab⟩
    have ar:((mkS (Lib.itoa n)).toList==s.toList)=false:=by
     rw[zb1];simp;intro e;exact he (by rw[<- e];rfl)
    have E:Hid (zbj (bsOf s)=none):=show _=_ from by
     cases hn:zbj (bsOf s) with
     | none=>rfl
     | some v=>
      have:=HV.out v hn;subst this;exact absurd (zcf hn).1.symm he
    clear he;go_wp2_with (go_at_call 61;refine ad.out.mono ?_;rintro e w1 ⟨rfl,ab⟩)
    go_ret2
    exact IPost.no n rfl E.out ab
  have G:Hid (bsOf s=zbk (bsOf s)):=show _=_ from by
   unfold zbk;rw[if_neg (by rw[zeK s h0];intro e;injection e with e;exact hm (byte45.2 e))]
  go_enter Tryz.func102,Tryz.ntmps102;go_upto_region 4 with fail
  by_cases aq:s.size<1
  ·have j1:(s.size:Int)<1:=by omega
   have E:Hid (zbj (bsOf s)=none):=show _=_ from by
    cases hn:zbj (bsOf s) with
    | none=>rfl
    | some n=>have h1:=(zdw hn).2.1;rw[<- G.out,zaF]at h1;omega
   go_wp2
   go_ret2
   exact IPost.no 0 rfl E.out (Below.refl _ _)
  by_cases al:19<s.size
  ·have j1:¬ (s.size:Int)<1:=by omega
   have j2:(19:Int)<(s.size:Int):=by omega
   have E:Hid (zbj (bsOf s)=none):=show _=_ from by
    cases hn:zbj (bsOf s) with
    | none=>rfl
    | some n=>have h1:=(zdw hn).1;rw[<- G.out,zaF]at h1;omega
   go_wp2
   go_ret2
   exact IPost.no 0 rfl E.out (Below.refl _ _)
  have j1:¬ (s.size:Int)<1:=by omega
  have j2:¬ (19:Int)<(s.size:Int):=by omega
  go_wp2
  go_loop [5,6] (fun nv iv=>∃ (k:Nat) (n:Int),k<=s.size/\iv=.int .i64 (k:Int)/\nv=.int .i64 n/\zbr n/\((bsOf s).take k).all isDg=true/\(dVal (bsOf s)<=9223372036854775808->n = -(zcs 0 ((bsOf s).take k):Int))) (fun _ iv=>s.size - (intOf iv).toNat)
  case atStart=>exact ⟨0,0,by omega,rfl,rfl,⟨by omega,by omega⟩,by simp,fun _=>by simp[zcs]⟩
  case round=>
   obtain ⟨k,n,hk,rfl,rfl,ag,U,O⟩:=hrel;have ae:=hidX U;have X:=hidX O;have aj:=hidX ag;clear U O ag;by_cases ah:k<s.size
   ·have k0:(0:Int)<=(k:Int):=by omega
    have k1:(k:Int)<(s.size:Int):=by omega
    have Z:k<(bsOf s).length:=by rw[zaF];exact ah
    have eb:(bsOf s)[k]=s[k]:=zgD s k ah;by_cases hd:isDg s[k]=true
    ·have I:=hd;unfold isDg at I;simp at I;have b0:¬ (s[k].toNat:Int)<48:=by omega
     have b1:¬ (57:Int)<(s[k].toNat:Int):=by omega
     go_wp2;refine ⟨⟨k+1,_,by omega,by go_num,rfl,zf8 _,zdQ Z ae.out (by rw[eb];exact hd),fun h=>?_⟩,?_⟩
     ·have h1:=zgU Z;have h2:=zfp (bsOf s) (k+1);rw[eb]at h1;have h3:=X.out h;have h4:zcs 0 (bsOf s)=dVal (bsOf s):=rfl;have e1:wrap64 (n * 10)=n * 10:=zd0 (by omega) (by omega);rw[e1,zd0 (by omega) (by omega),h1];omega
     simp[intOf];omega
    have E:Hid (zbj (bsOf s)=none):=show _=_ from by
     cases hn:zbj (bsOf s) with
     | none=>rfl
     | some n=>
      have h1:=(zdw hn).2.2;rw[<- G.out]at h1;have h2:=(List.all_eq_true.1 h1) _ (List.getElem_mem Z);rw[eb]at h2;exact absurd h2 hd
    have I:(s[k].toNat:Int)<48∨(57:Int)<(s[k].toNat:Int):=by
     unfold isDg at hd;simp at hd;omega
    rcases I with b0 | b1
    ·go_wp2
     go_ret2
     exact IPost.no 0 rfl E.out (Below.refl _ _)
    have b0:¬ (s[k].toNat:Int)<48:=by omega
    go_wp2
    go_ret2
    exact IPost.no 0 rfl E.out (Below.refl _ _)
   have k1:¬ (k:Int)<(s.size:Int):=by omega
   obtain rfl:k=s.size:=by omega
   obtain ⟨m,af⟩:∃ m,m=wrap64 (-n):=⟨_,rfl⟩
   have ao:Hid (zbr m):=show zbr m from by rw[af];exact zf8 _
   have HV:Hid (∀ v,zbj (bsOf s)=some v->v=m):=fun v hv=>by
    have h1:=(zcf hv).2;have h2:v=spell (bsOf s):=by
     obtain ⟨e,_⟩:=zcf hv;rw[e,zgb]
    have h3:spell (bsOf s)=(dVal (bsOf s):Int):=ziX (by rw[zeK s h0];intro e;injection e with e;exact hm (byte45.2 e));have h4:=X.out (by have:=h1.2;omega);rw[List.take_of_length_le (by rw[zaF];exact Nat.le_refl _)]at h4;have h5:zcs 0 (bsOf s)=dVal (bsOf s):=rfl;have h6:=h1.2;rw[af,zd0 (by omega) (by omega)];omega
   have ad:=hidX (zdB m w ao.out);have ak:=hidX af;by_cases he:Lib.itoa m=bsOf s
   ·have HS:Hid (mkS (Lib.itoa m)=s):=show _=_ from by rw[he,zb2]
    have E:Hid (zbj (bsOf s)=some m):=show _=_ from by rw[<- he];exact zeB ao.out
    clear he af;go_wp2_with (go_at_call 61;(try rw[<- ak.out]);refine ad.out.mono ?_;rintro e w1 ⟨rfl,ab⟩;rw[HS.out])
    go_ret2
    exact ⟨m,true,by simp[ak.out],E.out,ab⟩
   have ar:((mkS (Lib.itoa m)).toList==s.toList)=false:=by
    rw[zb1];simp;intro e;exact he (by rw[<- e];rfl)
   have E:Hid (zbj (bsOf s)=none):=show _=_ from by
    cases hn:zbj (bsOf s) with
    | none=>rfl
    | some v=>
     have:=HV.out v hn;subst this;exact absurd (zcf hn).1.symm he
   clear he af;go_wp2_with (go_at_call 61;(try rw[<- ak.out]);refine ad.out.mono ?_;rintro e w1 ⟨rfl,ab⟩)
   go_ret2
   exact IPost.no _ rfl E.out ab
 have i0:¬ (0:Int)<(s.size:Int):=by omega
 have hz:s.size=0:=by omega
 have hn:zbj (bsOf s)=none:=by
  refine zdt (fun e=>?_) (.inl ?_)
  ·have:=zaF s;rw[e]at this;simp at this;omega
  have:bsOf s=[]:=List.eq_nil_of_length_eq_zero (by rw[zaF];exact hz);rw[this];rfl
 have E:=hidX hn;have i2:(s.size:Int)<1:=by omega
 clear hn hz;go_enter Tryz.func102,Tryz.ntmps102;go_wp2
 go_ret2
 exact IPost.no 0 rfl E.out (Below.refl _ _)
theorem zbK{B n:Nat}{a w:World}(h:Below B a w):Below B a (w.drewN n):=⟨h.os,h.tape,h.output,h.size,h.block⟩
def arB:List ByteArray:=[⟨#[43]⟩,⟨#[45]⟩,⟨#[42]⟩,⟨#[47]⟩,⟨#[37]⟩]
def oneB(c:Int):ByteArray:=strOfNums [c]
theorem zrj{c:Int}(G:0<=c)(h1:c<256):memB (oneB c) arB=isAr c:=by
 have E:∀ n:Fin 256,memB (oneB ((n.val:Nat):Int)) arB=isAr ((n.val:Nat):Int):=by decide +kernel
 obtain ⟨n,rfl⟩:=Int.eq_ofNat_of_zero_le G;exact E ⟨n,by omega⟩
theorem zoe(c:Int)(w:World)(b:Nat)(h:w.cell? ⟨b,0,none⟩=some (.int .u8 c)):(convert 22 9 (.slice (some ⟨b,0,none⟩) 1 1)).run Tryz.prog w=.ok (.string (oneB c)) w:=
 run_convert_bytes_arg (P:=Tryz.prog) _ 22 5 Tryz.underlying22 Tryz.underlying5 b 0 1 1 [c] rfl (fun i hi=>by
  obtain rfl:i=0:=by omega
  simpa using h) 9 Tryz.underlying9
theorem zb9(w:World):Calls Tryz.prog 104 #[] w fun e w'=>e=.returned (.slice (some ⟨w.heap.size,0,none⟩) 5 5)/\w'=w.alloc (.cells #[.string ⟨#[43]⟩,.string ⟨#[45]⟩,.string ⟨#[42]⟩,.string ⟨#[47]⟩,.string ⟨#[37]⟩] 9):=by
 go_enter Tryz.func104,Tryz.ntmps104;go_wp2;go_ret;exact ⟨rfl,rfl⟩
theorem zsw(w:World)(b:Nat)(h:w.heap[b]?=some (.cells #[.string ⟨#[43]⟩,.string ⟨#[45]⟩,.string ⟨#[42]⟩,.string ⟨#[47]⟩,.string ⟨#[37]⟩] 9 (0,0))):zcl none w (some ⟨b,0,none⟩) arB:=by
 intro i x hx;refine ⟨b,0,[.string x],rfl,Qb.bare _ _ _,rfl,?_,rfl⟩;intro j v hj;have E:j=0:=by
  have:=(List.getElem?_eq_some_iff.1 hj).1;simp at this;exact this
 subst E;simp at hj;subst hj;have hi:i<5:=(List.getElem?_eq_some_iff.1 hx).1;simp only[World.cell?,h]
 match i,hi with
 | 0,_=>simp[arB]at hx;simp[hx]
 | 1,_=>simp[arB]at hx;simp[hx]
 | 2,_=>simp[arB]at hx;simp[hx]
 | 3,_=>simp[arB]at hx;simp[hx]
 | 4,_=>simp[arB]at hx;simp[hx]
theorem zqD(c:Int)(E:0<=c)(h1:c<256)(b:Nat)(w:World)(h:w.heap[b]?=some (.cells #[.string ⟨#[43]⟩,.string ⟨#[45]⟩,.string ⟨#[42]⟩,.string ⟨#[47]⟩,.string ⟨#[37]⟩] 9 (0,0))) :
  Calls Tryz.prog 68 #[.string (oneB c),.slice (some ⟨b,0,none⟩) 5 5] w fun e w'=>e=.returned (.bool (isAr c))/\w'=w:=by
 rw[<- zrj E h1];exact zeu (oneB c) _ 5 arB w (zsw w b h) (by decide)
theorem znP(w:World)(o:Obj)(b:Nat)(h:b=w.heap.size):(w.alloc o).drew.heap[b]?=some o:=by
 subst h;exact heap_alloc_new _ _
theorem zol(w:World)(o o':Obj)(b:Nat)(h:b=w.heap.size):((w.alloc o).alloc o').drew.heap[b]?=some o:=by
 subst h;exact (Below.heap_alloc _ _ _ (by simp)).trans (heap_alloc_new _ _)
theorem ziW{p:Prop}(h:p):Hid p:=h
theorem zjB(a:Option Addr)(c:Nat)(es:List Ex)(S:List Sp)(e:Ex)(w:World){q:Option Nat}(hv:zbG q w a es)(hl:es.length<=60)(he:es[S.length]?=some e)(aj:0<=e.op)(ap:e.op<256)(k2:e.kind=2)(ab:isAr e.op=true)(az:e.var.toList.isEmpty=true)(hz:zbm e.val=true)(hS:Spans es S)(bn:Nat)(ao:bn+1=S.length)(U:e.b=(bn:Int))(sb:Sp)(I:S[bn]?=some sb)(aq:¬ e.a<0)(hd:(e.a==(sb.1:Int) - 1)=true)(ea:Nat)(sa:Sp)(ah:e.a=(ea:Int))(ad:S[ea]?=some sa) :
  Calls Tryz.prog 66 #[.slice a es.length c,.int .i64 (S.length:Int)] w fun Z w'=>Z=.returned (.bool (decide (1+max sa.2 sb.2<=20)))/\Below w.heap.size w w':=by
 have aA:S.length<es.length:=(List.getElem?_eq_some_iff.1 he).1;have B1:=zHB w;have B3:∀ o o1 o2,Below w.heap.size w (((w.alloc o).drew.alloc o1).alloc o2):=fun o o1 o2=>((B1 o).drew.alloc (by simp) _).alloc (by simp;omega) _;have X:=hv;obtain ⟨b,o,rfl,hq,c0,c1,c2,c3,c4,c5,c6,c7⟩:=hv.get he;have ay:=zoe e.op;have ae:=ziW (zqD e.op aj ap);rw[ab]at ae;have hZ:=ziW (fun w=>zdx e.val w);rw[hz]at hZ;have aw:(e.b != (S.length:Int) - 1)=false:=by simp[U];omega
 have hw:IntKind.i64.wrap ((S.length:Int) - 1)=(S.length:Int) - 1:=by rw[IntKind.wrap_i64];omega
 have ar:decide (e.b<0)=false:=decide_eq_false (by omega);have au:decide (e.a<0)=false:=decide_eq_false aq;have al:=hS.first_le bn sb I;have ax:IntKind.i64.wrap ((sb.1:Int) - 1)=(sb.1:Int) - 1:=by rw[IntKind.wrap_i64];omega
 have af:∀ w',zbG q w' (some ⟨b,o,none⟩) es->Calls Tryz.prog 69 #[.slice (some ⟨b,o,none⟩) es.length c,.int .i64 e.b] w' fun e ak=>e=.returned (.int .i64 (sb.1:Int))/\ak=w':=fun w' h=>by
  rw[U];exact zcR (some ⟨b,o,none⟩) c es S bn sb w' h hS I
 have hF:=ziW af;clear af;have ag:=ziW (fun w' (h:zbG q w' (some ⟨b,o,none⟩) es)=>zhM (some ⟨b,o,none⟩) c es S.length ea bn sa.2 sb.2 e w' h he k2 ah U (hS.depth_le ea sa ad) (hS.depth_le bn sb I) (zgI (some ⟨b,o,none⟩) c es S w' h hS ea sa ad) (zgI (some ⟨b,o,none⟩) c es S w' h hS bn sb I));clear ah ad;clear U I al ao hS;rw[k2]at c0;clear hq hv;have h1:(e.op==0)=false:=by
  cases h:(e.op==0)
  ·rfl
  have h0:e.op=0:=by simpa using h
  rw[h0]at ab;exact absurd ab (by decide)
 go_enter Tryz.func66,Tryz.ntmps66;go_wp2;clear c0 c1 c2 c3 c4 c5 c6 c7 he;(try clear h3);(try clear h2);clear h1
 refine wp_region_noPanic ?_;refine wp_region_held_drew (S:=(fun w'=>w'.cell? ⟨w.heap.size,0,none⟩=some (.int .i64 2)/\w'.cell? ⟨w.heap.size,1,none⟩=some (.int .u8 e.op)/\w'.cell? ⟨w.heap.size,2,none⟩=some (.string e.var)/\w'.cell? ⟨w.heap.size,3,none⟩=some (.int .i64 e.val.kind)/\w'.cell? ⟨w.heap.size,4,none⟩=some (.int .i64 e.val.num)/\w'.cell? ⟨w.heap.size,5,none⟩=some (.string e.val.sym)/\w'.cell? ⟨w.heap.size,6,none⟩=some (.int .i64 e.a)/\w'.cell? ⟨w.heap.size,7,none⟩=some (.int .i64 e.b))) (by kernel_rfl) ?_ (fun E=>?_)
 ·(try dsimp only);(go_split_ands;refine ⟨?_,?_,?_,?_,?_,?_,?_,?_⟩ <;> first | (simp[go_sem];done) | exact zaa G (by assumption))
 refine tk 0 E ?_;(try simp only[pA,pZ,pS]);refine tk 1 E ?_;(try simp only[pA,pZ,pS]);refine r2 2 4 (fun K hK=>?_) fun K hK=>?_
 ·go_simp;refine hK.out _ _ (by (try dsimp only);(go_split_ands;refine ⟨?_,?_,?_,?_,?_,?_,?_,?_⟩ <;> first | (simp[go_sem];done) | exact zaa G (by assumption))) fun E=>?_;clear hK K;(try simp only[pA,pZ,pS,pN]);refine r2 3 4 (fun K hK=>?_) fun K hK=>?_
  focus
   go_simp;refine hK.out _ _ (by (try dsimp only);(go_split_ands;refine ⟨?_,?_,?_,?_,?_,?_,?_,?_⟩ <;> first | (simp[go_sem];done) | exact zaa G (by assumption))) fun E=>?_;clear hK K;(try simp only[pA,pZ,pS,pN]);refine r1 4 fun K hK=>?_;go_simp;(go_at_call 104;refine (zb9 _).mono ?_;rintro Z w' ⟨rfl,rfl⟩);(try go_wp2_with fail)
  rotate_left
  focus
   go_simp;(go_at_call 104;refine (zb9 _).mono ?_;rintro Z w' ⟨rfl,rfl⟩);(try go_wp2_with fail);refine hK.out _ _ (by (try dsimp only);(go_split_ands;refine ⟨?_,?_,?_,?_,?_,?_,?_,?_⟩ <;> first | (simp[go_sem];done) | exact zaa G (by assumption))) fun E=>?_;clear hK K;(try simp only[pA,pZ,pS,pN]);refine r1 3 fun K hK=>?_;go_simp
  rotate_left
  all_goals
   refine hK.out _ _ (by (try dsimp only);(go_split_ands;refine ⟨?_,?_,?_,?_,?_,?_,?_,?_⟩ <;> first | (simp[go_sem];done) | exact zaa G (by assumption))) fun E=>?_;clear hK K;(try simp only[pA,pZ,pS,pN]);refine r1 5 fun K hK=>?_;go_simp;(go_at_call 68;refine (ae.out _ _ ?_).mono ?_;(first | exact znP _ _ _ (by simp) | exact zol _ _ _ _ (by simp));rintro Z w' ⟨rfl,rfl⟩);(try go_wp2_with fail);refine hK.out _ _ (by (try dsimp only);(go_split_ands;refine ⟨?_,?_,?_,?_,?_,?_,?_,?_⟩ <;> first | (simp[go_sem];done) | exact zaa G (by assumption))) fun E=>?_;clear hK K;(try simp only[pA,pZ,pS,pN]);refine tk 6 E ?_;(try simp only[pA,pZ,pS]);refine tk 7 E ?_;(try simp only[pA,pZ,pS]);refine tk 8 E ?_;(try simp only[pA,pZ,pS]);refine tk 9 E ?_;(try simp only[pA,pZ,pS]);refine tk 10 E ?_;(try simp only[pA,pZ,pS]);refine tk 11 E ?_;(try simp only[pA,pZ,pS]);refine tk 12 E ?_;(try simp only[pA,pZ,pS]);refine tk 13 E ?_;(try simp only[pA,pZ,pS]);refine tk 14 E ?_;(try simp only[pA,pZ,pS]);refine r1 15 fun K hK=>?_;go_simp;(go_at_call 115;refine (hZ.out _).mono ?_;rintro Z w' ⟨rfl,G⟩);(try go_wp2_with fail);refine hK.out _ _ (by (try dsimp only);(go_split_ands;refine ⟨?_,?_,?_,?_,?_,?_,?_,?_⟩ <;> first | (simp[go_sem];done) | exact zaa G (by assumption))) fun E=>?_;clear hK K;(try simp only[pA,pZ,pS,pN]);refine tk 16 E ?_;(try simp only[pA,pZ,pS]);refine tk 17 E ?_;(try simp only[pA,pZ,pS]);refine tk 18 E ?_;(try simp only[pA,pZ,pS]);refine tk 19 E ?_;(try simp only[pA,pZ,pS]);refine tk 20 E ?_;(try simp only[pA,pZ,pS]);refine tk 21 E ?_;(try simp only[pA,pZ,pS]);refine tk 22 E ?_;(try simp only[pA,pZ,pS]);refine tk 23 E ?_;(try simp only[pA,pZ,pS]);refine tk 24 E ?_;(try simp only[pA,pZ,pS]);refine tk 25 E ?_;(try simp only[pA,pZ,pS]);refine tk 26 E ?_;(try simp only[pA,pZ,pS]);refine tk 27 E ?_;(try simp only[pA,pZ,pS]);refine tk 28 E ?_;(try simp only[pA,pZ,pS]);refine tk 29 E ?_;(try simp only[pA,pZ,pS]);refine tk 30 E ?_;(try simp only[pA,pZ,pS]);refine tk 31 E ?_;(try simp only[pA,pZ,pS]);refine tk 32 E ?_;(try simp only[pA,pZ,pS]);refine tk 33 E ?_;(try simp only[pA,pZ,pS]);refine tk 34 E ?_;(try simp only[pA,pZ,pS]);refine wpAnyH_done (by kernel_rfl) ?_ _;refine NoPanic.normal ?_;obtain ⟨y0,y1,y2,y3,y4,y5,y6,y7⟩:=E;have O:Below w.heap.size w w':=(B3 _ _ _).trans (G.mono (by simp;omega));have hE:=ziW (X.below O);clear G X;go_wp2
   go_quiet (first | (go_at_call 69;refine Calls.quiet_of_same (hF.out _ (hE.out.below ?_));exact zbK (Below.refl _ _)) | (go_at_call 116;refine Calls.quiet_of_same (ag.out _ (hE.out.below ?_));exact zbK (Below.refl _ _)))
   go_wp2;go_ret;exact ⟨zah (by simp;omega),zbK O⟩
 go_simp;(go_at_call 104;refine (zb9 _).mono ?_;rintro Z w' ⟨rfl,rfl⟩);(try go_wp2_with fail);refine hK.out _ _ (by (try dsimp only);(go_split_ands;refine ⟨?_,?_,?_,?_,?_,?_,?_,?_⟩ <;> first | (simp[go_sem];done) | exact zaa G (by assumption))) fun E=>?_;clear hK K;(try simp only[pA,pZ,pS,pN]);refine r1 2 fun K hK=>?_;go_simp;refine hK.out _ _ (by (try dsimp only);(go_split_ands;refine ⟨?_,?_,?_,?_,?_,?_,?_,?_⟩ <;> first | (simp[go_sem];done) | exact zaa G (by assumption))) fun E=>?_;clear hK K;(try simp only[pA,pZ,pS,pN]);refine r1 3 fun K hK=>?_;go_simp;refine hK.out _ _ (by (try dsimp only);(go_split_ands;refine ⟨?_,?_,?_,?_,?_,?_,?_,?_⟩ <;> first | (simp[go_sem];done) | exact zaa G (by assumption))) fun E=>?_;clear hK K;(try simp only[pA,pZ,pS,pN]);refine r1 5 fun K hK=>?_;go_simp;(go_at_call 68;refine (ae.out _ _ ?_).mono ?_;(first | exact znP _ _ _ (by simp) | exact zol _ _ _ _ (by simp));rintro Z w' ⟨rfl,rfl⟩);(try go_wp2_with fail);refine hK.out _ _ (by (try dsimp only);(go_split_ands;refine ⟨?_,?_,?_,?_,?_,?_,?_,?_⟩ <;> first | (simp[go_sem];done) | exact zaa G (by assumption))) fun E=>?_;clear hK K;(try simp only[pA,pZ,pS,pN]);refine tk 6 E ?_;(try simp only[pA,pZ,pS]);refine tk 7 E ?_;(try simp only[pA,pZ,pS]);refine tk 8 E ?_;(try simp only[pA,pZ,pS]);refine tk 9 E ?_;(try simp only[pA,pZ,pS]);refine tk 10 E ?_;(try simp only[pA,pZ,pS]);refine tk 11 E ?_;(try simp only[pA,pZ,pS]);refine tk 12 E ?_;(try simp only[pA,pZ,pS]);refine tk 13 E ?_;(try simp only[pA,pZ,pS]);refine tk 14 E ?_;(try simp only[pA,pZ,pS]);refine r1 15 fun K hK=>?_;go_simp;(go_at_call 115;refine (hZ.out _).mono ?_;rintro Z w' ⟨rfl,G⟩);(try go_wp2_with fail);refine hK.out _ _ (by (try dsimp only);(go_split_ands;refine ⟨?_,?_,?_,?_,?_,?_,?_,?_⟩ <;> first | (simp[go_sem];done) | exact zaa G (by assumption))) fun E=>?_;clear hK K;(try simp only[pA,pZ,pS,pN]);refine tk 16 E ?_;(try simp only[pA,pZ,pS]);refine tk 17 E ?_;(try simp only[pA,pZ,pS]);refine tk 18 E ?_;(try simp only[pA,pZ,pS]);refine tk 19 E ?_;(try simp only[pA,pZ,pS]);refine tk 20 E ?_;(try simp only[pA,pZ,pS]);refine tk 21 E ?_;(try simp only[pA,pZ,pS]);refine tk 22 E ?_;(try simp only[pA,pZ,pS]);refine tk 23 E ?_;(try simp only[pA,pZ,pS]);refine tk 24 E ?_;(try simp only[pA,pZ,pS]);refine tk 25 E ?_;(try simp only[pA,pZ,pS]);refine tk 26 E ?_;(try simp only[pA,pZ,pS]);refine tk 27 E ?_;(try simp only[pA,pZ,pS]);refine tk 28 E ?_;(try simp only[pA,pZ,pS]);refine tk 29 E ?_;(try simp only[pA,pZ,pS]);refine tk 30 E ?_;(try simp only[pA,pZ,pS]);refine tk 31 E ?_;(try simp only[pA,pZ,pS]);refine tk 32 E ?_;(try simp only[pA,pZ,pS]);refine tk 33 E ?_;(try simp only[pA,pZ,pS]);refine tk 34 E ?_;(try simp only[pA,pZ,pS]);refine wpAnyH_done (by kernel_rfl) ?_ _;refine NoPanic.normal ?_;obtain ⟨y0,y1,y2,y3,y4,y5,y6,y7⟩:=E;have O:Below w.heap.size w w':=(B3 _ _ _).trans (G.mono (by simp;omega));have hE:=ziW (X.below O);clear G X;go_wp2
 go_quiet (first | (go_at_call 69;refine Calls.quiet_of_same (hF.out _ (hE.out.below ?_));exact zbK (Below.refl _ _)) | (go_at_call 116;refine Calls.quiet_of_same (ag.out _ (hE.out.below ?_));exact zbK (Below.refl _ _)))
 go_wp2;go_ret;exact ⟨zah (by simp;omega),zbK O⟩
end Go.Proofs.YtjjjagepnnbebaaGreatDoor
