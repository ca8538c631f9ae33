/-
  OUR OWN TEXT. Tx11, Tx13, one behind the other.
-/
import Derived.Test.YtjjjagepnnbebaaGreatDoorKaq
import Derived.Test.YtjjjagepnnbebaaGreatDoorKam
import Derived.Test.YtjjjagepnnbebaaGreatDoorKao
import Derived.Lib.AppendStr
set_option maxHeartbeats 6400000
namespace Go.Proofs.YtjjjagepnnbebaaGreatDoor
open Go.RowKit
attribute [local go_sem ↓] Go.wp_at_zero Go.wp_at_succ
theorem zpb(x:Bs)(y:Bs):({ data:=#[40,114,117,108,101,32] }:ByteArray) ++ mkS x ++ { data:=#[32] } ++ mkS y=mkS (zhk ++ (x ++ 32 :: y)):=by
 have e1:({ data:=#[40,114,117,108,101,32] }:ByteArray)=mkS zhk:=rfl;have e2:({ data:=#[32] }:ByteArray)=mkS [32]:=rfl;rw[e1,e2,zaV,zaV,zaV];simp
theorem zqu(x:Bs):mkS x ++ ({ data:=#[41,10] }:ByteArray)=mkS (x ++ [41,10]):=zaV x [41,10]
theorem zpq(r:Ru):Lib.join (txHd r :: (r.pats.map txP ++ zcz :: r.acts.map (txA r.exprs))) zbJ ++ [41,10]=txR r:=by
 rw[zlJ];unfold txR;simp
theorem zok(x:Ru)(a_pats:Option Addr)(c_pats:Nat)(a_exprs:Option Addr)(c_exprs:Nat)(a_acts:Option Addr)(c_acts:Nat)(q:Option Nat)(w:World)(Z:zdv q w a_pats x.pats)(I:zbG q w a_exprs x.exprs)(ab:zdY q w a_acts x.acts)(hx:RuT x)(hV:zcI w) :
  Calls Tryz.prog 13 #[.agg #[.string x.name,.int .i64 x.sal,.slice a_pats x.pats.length c_pats,.slice a_exprs x.exprs.length c_exprs,.slice a_acts x.acts.length c_acts]] w fun e w'=>e=.returned (.string (mkS (txR x)))/\Below w.heap.size w w':=by
 have au:=zpq x;have bl:=zp7 hx;obtain ⟨aF,af,bI,aM,bN,⟨S,hT⟩,aR⟩:=hx;obtain ⟨nb,aq⟩:∃ nb,x.name=mkS nb:=⟨bsOf x.name,(zb2 _).symm⟩
 have bC:=Lib.itoa_length_le _ af.1 af.2;obtain ⟨hd,aG⟩:∃ hd,hd=txHd x:=⟨_,rfl⟩
 have bi:Hid (zhk ++ (nb ++ 32 :: Lib.itoa x.sal)=hd):=show _=_ from by rw[aG];unfold txHd;rw[aq,zbX]
 rw[<- aG]at au;have bK:nb.length<=20:=by rw[aq,zad]at aF;exact aF
 have HX:=hidX au;have bB:=hidX (show (Lib.join (hd :: (x.pats.map txP ++ zcz :: x.acts.map (txA x.exprs))) zbJ).length<=100000000000 by have h1:=congrArg List.length au;simp only[List.length_append]at h1 ⊢;omega);have HP:=hidX Z;have HE:=hidX I;have HC:=hidX ab;have HV:=hidX hV;have bs:=hidX aM;have a7:=hidX aR;rw[aq];clear Z I ab hV aM aR au bl aq aG aF;go_enter Tryz.func13,Tryz.ntmps13;go_upto_region 1 with fail
 refine zaf ?_;intro G ad ae;have bc:w.heap.size<G.heap.size:=zab ae;have br:=hidX ae;have c0:G.cell? ⟨w.heap.size,0,none⟩=some (.string (mkS nb)):=by simp[World.cell?,ae]
 have c1:G.cell? ⟨w.heap.size,1,none⟩=some (.int .i64 x.sal):=by simp[World.cell?,ae]
 clear ae;have a1:=hidX (HV.out.below ad);refine wp_region_noPanic ?_;refine wp_region_held_drew (S:=(fun w'=>w'.cell? ⟨w.heap.size,0,none⟩=some (.string (mkS nb))/\w'.cell? ⟨w.heap.size,1,none⟩=some (.int .i64 x.sal))) (by kernel_rfl) ?_ (fun E=>?_)
 ·(try dsimp only);exact ⟨c0,c1⟩
 refine tk 0 E ?_;(try simp only[pA,pZ,pS]);refine tk 1 E ?_;(try simp only[pA,pZ,pS]);refine tk 2 E ?_ (hy:=fun w' _=>by go_simp;rw[if_neg (by (repeat (first | rw[ByteArray.size_append] | rw[zad] | rw[zaC]));omega)]);(try simp only[pA,pZ,pS]);refine tk 3 E ?_ (hy:=fun w' _=>by go_simp;rw[if_neg (by (repeat (first | rw[ByteArray.size_append] | rw[zad] | rw[zaC]));omega)]);(try simp only[pA,pZ,pS]);refine tk 4 E ?_;(try simp only[pA,pZ,pS]);refine tk 5 E ?_;(try simp only[pA,pZ,pS]);refine wpAnyH_ready (rs:=[6]) (by kernel_rfl) (by simp) ?_;refine AllReadyH.cons (List.getElem?_toArray.trans rfl) (fun K hK=>?_) AllReadyH.nil;go_simp
 go_at_call 31;refine (zhY x.sal _ (a1.out.below (Below.refl _ _).drew) af).mono ?_;rintro e' w1 ⟨rfl,ak⟩
 (try go_wp2_with fail);refine hK.out _ _ (by (try dsimp only);exact ⟨zaa ak E.1,zaa ak E.2⟩) fun hQ=>?_;replace E:=hQ;clear hK K hQ;(try simp only[pA,pZ,pS,pN]);refine tk 7 E ?_ (hy:=fun w' _=>by go_simp;rw[if_neg (by (repeat (first | rw[ByteArray.size_append] | rw[zad] | rw[zaC]));omega)]);(try simp only[pA,pZ,pS]);rw[zpb,bi.out];have aE:=zHB w1;have aC:=hidX (show Below G.heap.size G w1 from (Below.refl G.heap.size G).drew.trans (ak.mono (by simp)));refine wpAnyH_ready (rs:=[8]) (by kernel_rfl) (by simp) ?_;refine AllReadyH.cons (List.getElem?_toArray.trans rfl) (fun K hK=>?_) AllReadyH.nil;go_simp;refine hK.out _ _ (by (try dsimp only);exact ⟨zaa (aE _) E.1,zaa (aE _) E.2⟩) fun hQ=>?_;replace E:=hQ;clear hK K hQ;(try simp only[pA,pZ,pS,pN]);refine tk 9 E ?_;(try simp only[pA,pZ,pS]);refine wpAnyH_done (by kernel_rfl) ?_ _;refine NoPanic.normal ?_;refine zaf ?_;intro w2 aS aV;have aN:=hidX (show w2.ownsRow G.heap.size 9 1 (.slice (some ⟨w1.heap.size,0,none⟩) 1 1) 1 (strV [hd]) from zgG (L:=strV [hd]) aV aC.out.size (by simp[strV]));have ar:=hidX (aC.out.trans (aS.mono aC.out.size));have ba:=ar.out.size;clear aS aV c0 c1 E aE ak;have ay:=hidX (fun w' (h:Below G.heap.size G w')=>(h.block _ bc).trans br.out);have hq:=ay.out w2 ar.out;have c2:w2.cell? ⟨w.heap.size,2,none⟩=some (.slice a_pats x.pats.length c_pats):=by simp[World.cell?,hq]
 clear hq;go_wp2
 go_loopw [3,20] (fun sv iv wr=>∃ (k:Nat) (a':Option Addr) (c':Nat),k<=x.pats.length/\iv=.int .i64 (k:Int)/\sv=.slice a' (1+k) c'/\wr.ownsRow G.heap.size 9 1 (.slice a' (1+k) c') (1+k) (strV (hd :: (x.pats.take k).map txP))/\Below G.heap.size G wr) (fun _ iv _=>x.pats.length - (intOf iv).toNat)
 case atStart=>exact ⟨0,_,_,Nat.zero_le _,rfl,rfl,aN.out,ar.out⟩
 case round=>
  obtain ⟨k,a',c',hk,rfl,rfl,hown,hb⟩:=hrel;have HR:=hidX hown;have HB:=hidX hb;have hsz:=hb.size;have HW:=hidX (ad.trans (hb.mono ad.size));clear hown hb c2 ba aN ar;by_cases aD:k<x.pats.length
  ·obtain ⟨p,hp⟩:∃ p,x.pats[k]?=some p:=⟨x.pats[k],by simp[aD]⟩
   have aY:=bs.out p (List.mem_of_getElem? hp);obtain ⟨b,o,aZ,bp,rfl,_,t0,t1,t2,ag⟩:=(HP.out.below HW.out).get hp;have aB:=hidX ag;have i0:(0:Int)<=(k:Int):=by omega
   have i1:(k:Int)<(x.pats.length:Int):=by omega
   have az:Hid (hd :: (x.pats.take (k+1)).map txP=(hd :: (x.pats.take k).map txP) ++ [txP p]):=show _=_ from by rw[List.take_add_one,hp];simp
   have HA:=zHA wr;have aA:=hidX (fun o=>(HV.out.below HW.out).below (HA.out o));clear hp ag;go_wp2_with (go_at_call 32;refine (zoc p aZ bp aY q _ (aB.out.below (HA.out _)) (aA.out _)).mono ?_;rintro e w3 ⟨rfl,aP⟩;refine Hid.out ?_);refine hidX ?_;have O:=(HA.out _).trans (aP.mono (HA.out _).size);have aQ:=hidX (zao HR.out O);have bm:=hidX (HB.out.trans (O.mono hsz));have bL:=O.size;clear aP O t0 t1 t2;go_wp2_with (at_builtin;refine zag (by rfl) (.tmp 24) (.tmp 27) 75 (by rfl) G.heap.size 9 _ 1 16 Tryz.underlying75 zfe (by rfl) (by omega) _ (1+k) _ (by rfl) (zao aQ.out ((Below.refl _ _).alloc (Nat.le_refl _) _)) (some ⟨w3.heap.size,0,none⟩) 1 1 (by rfl) [.string (mkS (txP p))] (by rfl) (fun e=>by cases e) (zas _ _ _ _ rfl) (by simp[Value.oneCell']) (by unfold maxLen;omega) (by omega) (by first | (simp;done) | (simp;omega)) ?_;intro a4 c4 w4 aj al aO);have ah:=hidX ((bm.out.alloc (by omega) _).grown al.out (by simp;omega) (fun j hj=>(aQ.out.lt j hj).1));go_wp2;go_roundw
   case rel=>exact ⟨k+1,a4,c4,by omega,by go_num,by rw[Nat.add_assoc],zdy aj.out az.out (by omega),ah.out⟩
   case measure=>(simp[intOf];omega)
  obtain rfl:k=x.pats.length:=by omega
  have i1:¬ (x.pats.length:Int)<(x.pats.length:Int):=by omega
  have h:=HR.out;rw[List.take_length]at h;have ao:=hidX h;obtain ⟨w3,aJ⟩:∃ u,u=wr:=⟨wr,rfl⟩
  rw[<- aJ]at ao HB HW hsz ⊢;have c4:∀ w',Below G.heap.size G w'->w'.cell? ⟨w.heap.size,4,none⟩=some (.slice a_acts x.acts.length c_acts):=fun w' h=>by simp[World.cell?,ay.out w' h]
  have bz:=hidX c4;clear h HR aJ c4;go_wp2_with (at_builtin;refine zag (by rfl) (.tmp 30) (.tmp 31) 75 (by rfl) G.heap.size 9 _ 1 16 Tryz.underlying75 zfe (by rfl) (by omega) _ (1+x.pats.length) _ (by rfl) (zao ao.out ((Below.refl _ _).alloc (Nat.le_refl _) _)) (some ⟨w3.heap.size,0,none⟩) 1 1 (by rfl) [.string (mkS zcz)] (by rfl) (fun e=>by cases e) (zas _ _ _ _ rfl) (by simp[Value.oneCell']) (by unfold maxLen;omega) (by omega) (by first | (simp;done) | (simp;omega)) ?_;intro a4 aW w4 aj al aO;have ah:=hidX ((HB.out.alloc (by omega) _).grown al.out (by simp;omega) (fun j hj=>(ao.out.lt j hj).1));have c4:=bz.out w4 ah.out);have aX:=hidX (zdy (l':=hd :: (x.pats.map txP) ++ [zcz]) aj.out rfl rfl);obtain ⟨pre,X⟩:∃ l,l=hd :: (x.pats.map txP) ++ [zcz]:=⟨_,rfl⟩
  have aT:pre.length=x.pats.length+2:=by rw[X];simp
  have aI:=hidX X;have aL:pre.length<=8:=by omega
  have ax:=hidX (show w4.ownsRow G.heap.size 9 1 (.slice a4 (1+x.pats.length+1) aW) (1+x.pats.length+1) (strV pre) by rw[X];exact aX.out);obtain ⟨m,hm⟩:∃ m,m=1+x.pats.length+1:=⟨_,rfl⟩
  rw[<- hm]at ax ⊢;have bH:m<=8:=by omega
  have bM:1<=m:=by omega
  have bw:=hidX (show pre.length=m by omega);clear aj al aO aX X aT hm ao HB aL
  go_loopw [3,36] (fun sv iv wr=>∃ (k:Nat) (a':Option Addr) (c':Nat),k<=x.acts.length/\iv=.int .i64 (k:Int)/\sv=.slice a' (m+k) c'/\wr.ownsRow G.heap.size 9 1 (.slice a' (m+k) c') (m+k) (strV (pre ++ (x.acts.take k).map (txA x.exprs)))/\Below G.heap.size G wr) (fun _ iv _=>x.acts.length - (intOf iv).toNat)
  case atStart=>exact ⟨0,a4,aW,Nat.zero_le _,rfl,rfl,by simpa using ax.out,ah.out⟩
  case round=>
   obtain ⟨k,a',c',hk,rfl,rfl,hown,hb⟩:=hrel;have HR:=hidX hown;have HB:=hidX hb;have hsz:=hb.size;have HW:=hidX (ad.trans (hb.mono ad.size));have hq:=ay.out _ hb;have c3:wr.cell? ⟨w.heap.size,3,none⟩=some (.slice a_exprs x.exprs.length c_exprs):=by simp[World.cell?,hq]
   clear hown hb hq c4 ax ah;by_cases aD:k<x.acts.length
   ·obtain ⟨y,hy⟩:∃ p,x.acts[k]?=some p:=⟨x.acts[k],by simp[aD]⟩
    have bj:=a7.out y (List.mem_of_getElem? hy);obtain ⟨b,o,bk,bh,rfl,_,t0,t1,t2,t3,ag⟩:=(HC.out.below HW.out).get hy;have aB:=hidX ag;have i0:(0:Int)<=(k:Int):=by omega
    have i1:(k:Int)<(x.acts.length:Int):=by omega
    have az:Hid (pre ++ (x.acts.take (k+1)).map (txA x.exprs)=(pre ++ (x.acts.take k).map (txA x.exprs)) ++ [txA x.exprs y]):=show _=_ from by rw[List.take_add_one,hy];simp
    have HA:=zHA wr;have aA:=hidX (fun o=>(HV.out.below HW.out).below (HA.out o));have bf:=hidX (fun o=>(HE.out.below HW.out).below (HA.out o));have bG:w.heap.size<wr.heap.size:=by omega
    clear hy ag;go_wp2_with (go_at_call 33;refine (zop y bk bh hT bj a_exprs c_exprs q _ (bf.out _) (aB.out.below (HA.out _)) (aA.out _)).mono ?_;rintro e w5 ⟨rfl,ap⟩;refine Hid.out ?_);refine hidX ?_;have U:=(HA.out _).trans (ap.mono (HA.out _).size);have aU:=hidX (zao HR.out U);have bo:=hidX (HB.out.trans (U.mono hsz));have bF:=U.size;clear ap U t0 t1 t2 t3 c3;go_wp2_with (at_builtin;refine zag (by rfl) (.tmp 40) (.tmp 45) 75 (by rfl) G.heap.size 9 _ 1 16 Tryz.underlying75 zfe (by rfl) (by omega) _ (m+k) _ (by rfl) (zao aU.out ((Below.refl _ _).alloc (Nat.le_refl _) _)) (some ⟨w5.heap.size,0,none⟩) 1 1 (by rfl) [.string (mkS (txA x.exprs y))] (by rfl) (fun e=>by cases e) (zas _ _ _ _ rfl) (by simp[Value.oneCell']) (by unfold maxLen;omega) (by omega) (by first | (simp;done) | (simp;omega)) ?_;intro a6 c6 w6 bn bt bD);have bu:=hidX ((bo.out.alloc (by omega) _).grown bt.out (by simp;omega) (fun j hj=>(aU.out.lt j hj).1));go_wp2;go_roundw
    case rel=>exact ⟨k+1,a6,c6,by omega,by go_num,by rw[Nat.add_assoc],zdy bn.out az.out (by omega),bu.out⟩
    case measure=>(simp[intOf];omega)
   obtain rfl:k=x.acts.length:=by omega
   have i1:¬ (x.acts.length:Int)<(x.acts.length:Int):=by omega
   have h:=HR.out;rw[List.take_length]at h;have en:m+x.acts.length=(pre ++ x.acts.map (txA x.exprs)).length:=by rw[List.length_append,bw.out,List.length_map]
   have hc:=zgy h;rw[en]at h hc;obtain ⟨bb,rfl,aw,bd⟩:=StrC.owns h (by rw[<- en];omega);have a8:=hidX aw;have hJ:Lib.join (pre ++ x.acts.map (txA x.exprs)) zbJ ++ [41,10]=txR x/\(Lib.join (pre ++ x.acts.map (txA x.exprs)) zbJ).length<=100000000000:=by
    have e:pre ++ x.acts.map (txA x.exprs)=hd :: (x.pats.map txP ++ zcz :: x.acts.map (txA x.exprs)):=by rw[aI.out];simp
    rw[e];exact ⟨HX.out,bB.out⟩
   have aH:=hidX (fun w' (h1:StrC w' bb 0 (pre ++ x.acts.map (txA x.exprs))) (h2:bb<w'.heap.size)=>by
    have:=zlt bb 0 c' _ zbJ w' h1 h2 (by rw[<- en];omega) hc hJ.2;rw[<- en]at this;exact this)
   obtain ⟨J,aK⟩:∃ J,J=Lib.join (pre ++ x.acts.map (txA x.exprs)) zbJ:=⟨_,rfl⟩
   rw[<- aK]at aH hJ;have bA:=hidX hJ.1;have bJ:=hJ.2;have y1:¬ 9223372036854775807<(mkS J).size+({ data:=#[41,10] }:ByteArray).size:=by rw[zad];have:({ data:=#[41,10] }:ByteArray).size=2:=rfl;omega
   have y2:¬ 9223372036854775807<(mkS J).size+2:=by rw[zad];omega
   clear h aw en hc hJ aK c3;go_wp2_with (go_at_call 34;refine (aH.out _ a8.out bd).mono ?_;rintro e w5 ⟨rfl,ap⟩);go_ret;refine ⟨?_,HW.out.trans (ap.mono HW.out.size)⟩;rw[<- bA.out];exact congrArg (fun x=>Ending.returned (.string x)) (zqu J)
theorem zrK:(Tryz.prog.info? 5).map (fun i=>(i.zero,i.size,i.bytes))=some (some (.int .u8 0),1,1):=by kernel_rfl
theorem zj6(l:Bs):Lib.strCells (mkS l)=byV l:=rfl
theorem zqF(l l':Bs):byV (l ++ l')=byV l ++ byV l':=List.map_append
theorem zp1{w:World}{base n:Nat}{e:TypeId}{m:Nat}{v:Value}{xs:List Value}(h:w.ownsRow base e m v n xs)(hn:xs.length=n):∃ a c,v=.slice a n c:=by
 rcases h.2 with ⟨rfl,rfl⟩ | ⟨g,cap,cur,rfl,_⟩
 ·simp at hn;subst hn;exact ⟨none,0,rfl⟩
 exact ⟨_,_,rfl⟩
def PrnP(w:World)(l:Bs)(e:Ending)(w':World):Prop:=(∃ a c,e=.returned (.slice a l.length c)/\w'.ownsRow w.heap.size 5 1 (.slice a l.length c) l.length (byV l))/\Below w.heap.size w w'
theorem ziY{α β:Type}(g:α->List β)(l:List α)(j:Nat):((l.take j).flatMap g).length<=(l.flatMap g).length:=by
 have h:l.flatMap g=(l.take j).flatMap g ++ (l.drop j).flatMap g:=by
  rw[<- List.flatMap_append,List.take_append_drop]
 rw[h,List.length_append];omega
theorem zlF{rs:List Ru}(h:(chk rs).1=0):prnt rs=txRs rs:=if_pos h
theorem zqA{rs:List Ru}(h:¬ (chk rs).1=0):prnt rs=[]:=if_neg h
theorem zlY(rs:List Ru)(a:Option Addr)(c:Nat)(q:Option Nat)(w:World)(hv:zdD q w a rs)(hc:rs.length<=c)(Z:zb3 Ru.le 1048576 rs)(ho:∀ x∈rs,zg8 x.exprs)(hn:∀ x∈rs,RuN x)(hV:zcI w) :
  Calls Tryz.prog 5 #[.slice a rs.length c] w (PrnP w (prnt rs)):=by
 have U:Hid (Calls Tryz.prog 9 #[.slice a rs.length c] w fun e w'=>e=.returned (ckV (chk rs))/\Below w.heap.size w w'):=zea a c rs w hv hc Z ho;unfold ckV at U;by_cases hp:(chk rs).1=0
 ·rw[zlF hp];obtain ⟨ar,hT⟩:=zsC hp hn;rw[hp]at U;generalize (chk rs).2.1=p1 at U;generalize (chk rs).2.2=p2 at U;have HV:=hidX hv;have aw:=hidX hV;have HT:=hidX hT;have aE:=znF ar hT;have ak:∀ w:World,(Instr.field 31 (.agg #[.int .i64 0,.int .i64 p1,.int .i64 p2]) 0).run Tryz.prog w=.ok (.int .i64 0) w:=fun _=>by kernel_rfl
  clear hv hV hT Z ho hn hp;go_enter Tryz.func5,Tryz.ntmps5;go_wp2_with (go_at_call 9;with_reducible refine U.out.mono ?_;rintro e w1 ⟨rfl,I⟩);clear ak;obtain ⟨it,hi,ao,ah,ae⟩:=info_parts zrK;have HI:=hidX (show Tryz.prog.info? 5=some it/\it.zero=some (.int .u8 0)/\it.size=1/\it.bytes=1 from ⟨hi,ao,ah,ae⟩);clear hi ao ah ae
  go_loopw [3,12] (fun sv iv wr=>∃ (k:Nat) (a':Option Addr) (c':Nat),k<=rs.length/\iv=.int .i64 (k:Int)/\sv=.slice a' (txRs (rs.take k)).length c'/\wr.ownsRow w.heap.size 5 1 (.slice a' (txRs (rs.take k)).length c') (txRs (rs.take k)).length (byV (txRs (rs.take k)))/\Below w.heap.size w wr) (fun _ iv _=>rs.length - (intOf iv).toNat)
  case atStart=>exact ⟨0,none,0,Nat.zero_le _,rfl,rfl,World.ownsRow_nil _ _ _ _,I⟩
  case round=>
   obtain ⟨k,a',c',hk,rfl,rfl,hown,hb⟩:=hrel;have HR:=hidX hown;have HB:=hidX hb;have hsz:=hb.size;clear hown hb I;by_cases aC:k<rs.length
   ·obtain ⟨x,hx⟩:∃ x,rs[k]?=some x:=⟨rs[k],by simp[aC]⟩
    have aq:=HT.out x (List.mem_of_getElem? hx);obtain ⟨b,o,a1,c1,a2,c2,a3,c3,rfl,_,t0,t1,t2,t3,t4,ab,aj,al,_⟩:=(HV.out.below HB.out).get hx;have aB:=hidX ab;have ap:=hidX aj;have ax:=hidX al;have i0:(0:Int)<=(k:Int):=by omega
    have i1:(k:Int)<(rs.length:Int):=by omega
    have O:Hid (txRs (rs.take (k+1))=txRs (rs.take k) ++ txR x):=zcP txR hx;have ay:(txRs (rs.take k)).length+(txR x).length<=42000000000:=by
     have h1:=congrArg List.length O.out;have h2:=ziY txR rs (k+1);rw[List.length_append]at h1;have h3:(txRs (rs.take (k+1))).length<=(txRs rs).length:=h2;omega
    have HA:=zHA wr;have az:=hidX (fun o=>(aw.out.below HB.out).below (HA.out o));clear ab aj al hx;obtain ⟨n,hn⟩:∃ n,n=(txRs (rs.take k)).length:=⟨_,rfl⟩
    obtain ⟨X,hX⟩:∃ X,X=txRs (rs.take k):=⟨_,rfl⟩
    rw[<- hn]at HR ay;rw[<- hX]at HR O hn;rw[<- hX,<- hn];have HN:=hidX hn;clear hX hn;go_wp2_with (go_at_call 13;refine (zok x a1 c1 a2 c2 a3 c3 q _ (aB.out.below (HA.out _)) (ap.out.below (HA.out _)) (ax.out.below (HA.out _)) aq (az.out _)).mono ?_;rintro e w3 ⟨rfl,af⟩;refine Hid.out ?_);refine hidX ?_;have E:=(HA.out _).trans (af.mono (HA.out _).size);have ag:=hidX (zao HR.out E);have aA:=hidX (HB.out.trans (E.mono hsz));have aG:=E.size;clear af E t0 t1 t2 t3 t4;go_wp2_with (at_builtin;refine Lib.wpList_append_own_string w3 (by rfl) (.tmp 16) (.tmp 18) 22 9 (by rfl) w.heap.size 5 it Tryz.underlying22 Tryz.underlying9 HI.out.1 HI.out.2.1 HI.out.2.2.1 HI.out.2.2.2 _ n _ (by rfl) ag.out (mkS (txR x)) (by rfl) (by unfold maxLen;rw[zad];omega) (by rw[zad];omega) (by omega) ?_;intro v4 w4 G au _);rw[zad,zj6,<- zqF,<- O.out]at G;have aD:=hidX (aA.out.grown au (by omega) (fun j hj=>(ag.out.lt j hj).1));have ad:n+(txR x).length=(txRs (rs.take (k+1))).length:=by rw[O.out,List.length_append,HN.out]
    rw[ad]at G;obtain ⟨a4,c4,rfl⟩:=zp1 G (zf3 _);clear ad;go_wp2;go_roundw
    case rel=>exact ⟨k+1,a4,c4,by omega,by go_num,rfl,G,aD.out⟩
    case measure=>(simp[intOf];omega)
   obtain rfl:k=rs.length:=by omega
   have i1:¬ (rs.length:Int)<(rs.length:Int):=by omega
   go_wp2;go_ret;have h:=HR.out;rw[List.take_length]at h;exact ⟨⟨a',c',rfl,h⟩,HB.out⟩
 rw[zqA hp];generalize (chk rs).1=p0 at U hp;generalize (chk rs).2.1=p1 at U;generalize (chk rs).2.2=p2 at U;have aF:(p0 != 0)=true:=by simpa using hp
 have ak:∀ w:World,(Instr.field 31 (.agg #[.int .i64 p0,.int .i64 p1,.int .i64 p2]) 0).run Tryz.prog w=.ok (.int .i64 p0) w:=fun _=>by kernel_rfl
 clear hv hV Z ho hn hp;go_enter Tryz.func5,Tryz.ntmps5;go_wp2_with (go_at_call 9;with_reducible refine U.out.mono ?_;rintro e w1 ⟨rfl,I⟩);go_ret;exact ⟨⟨none,0,rfl,World.ownsRow_nil _ _ _ _⟩,I⟩
end Go.Proofs.YtjjjagepnnbebaaGreatDoor
