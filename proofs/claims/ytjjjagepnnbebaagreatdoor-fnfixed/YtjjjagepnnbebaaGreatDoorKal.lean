/-
  OUR OWN TEXT. Fd1, Fw1, Fd2, Fd3, Dwz, Sm1, Sm2, Rro, Fd4, one behind the other.
-/
import Derived.Test.YtjjjagepnnbebaaGreatDoorKah
import Derived.Test.YtjjjagepnnbebaaGreatDoorKai
import Derived.Test.YtjjjagepnnbebaaGreatDoorKac
import Derived.Deep.RegionHeld3
import Derived.Laws.StructEq
import Derived.Deep.DrawnRows
import Derived.Deep.DeepCutAuto
set_option maxHeartbeats 6400000
set_option maxRecDepth 100000
namespace Go.Proofs.YtjjjagepnnbebaaGreatDoor
def nxc(l:Bs):Nat:=(l.headD 0).toNat
theorem zrN(l:Bs):nxc l<256:=(l.headD 0).toNat_lt
def wS(l:Bs):ByteArray:=⟨l.toArray⟩
def clsF(c:Nat):ByteArray:=if c % 3=0 then wS [97] else if c % 3=1 then wS [98] else wS [103,111,97,108]
def namF(c:Nat):ByteArray:=if c % 3=0 then wS [120] else if c % 3=1 then wS [121] else wS [122]
def symF(k:Nat):ByteArray:=if k=0 then wS [120] else if k=1 then wS [121] else wS [114,101,100]
def bigF(k:Nat):Int:=if k=0 then 9223372036854775807 else if k=1 then -9223372036854775808 else if k=2 then -1 else 1000000000000
def valF(c:Nat):V:=if c % 3=0 then (1,0,symF (c / 3 % 3)) else if 250<=c then (0,bigF (c % 4),wS []) else (0,((c / 3 % 5:Nat):Int) - 1,wS [])
def zvF:V:=(0,0,wS [])
def zbV(K:List ByteArray)(l:Bs):Tm × Bs:=
 if nxc l % 8=0 then (⟨0,0,wS [],zvF⟩,l.tail)
 else if nxc l % 8=1∨nxc l % 8=2 then (⟨1,0,wS [],valF (nxc l.tail)⟩,l.tail.tail)
 else if nxc l % 8=3 then
  (if 0<K.length/\100<=nxc l then (⟨3,1+((nxc l / 8 % 6:Nat):Int),K.getD (nxc l.tail % K.length) (wS []),zvF⟩,l.tail.tail)
   else (⟨3,1+((nxc l / 8 % 6:Nat):Int),wS [],valF (nxc l.tail)⟩,l.tail.tail))
 else (⟨2,0,namF (nxc l / 8),zvF⟩,l.tail)
def arF(k:Nat):Int:=if k=0 then 43 else if k=1 then 45 else if k=2 then 42 else if k=3 then 47 else 37
def zaP:Nat->List ByteArray->List Ex->Bs->List Ex × Bs
 | 0,K,es,l=>if nxc l % 5=0/\0<K.length then (es ++ [⟨1,0,K.getD (nxc l / 5 % K.length) (wS []),zvF,0,0⟩],l.tail) else (es ++ [⟨0,0,wS [],valF (nxc l.tail),0,0⟩],l.tail.tail)
 | d+1,K,es,l=>
  if 2<nxc l % 5/\es.length<52 then
   let p:=zaP d K es l.tail
   let q:=zaP d K p.1 p.2
   (q.1 ++ [⟨2,arF (nxc l / 5 % 5),wS [],zvF,(p.1.length:Int) - 1,(q.1.length:Int) - 1⟩],q.2)
  else if nxc l % 5=0/\0<K.length then (es ++ [⟨1,0,K.getD (nxc l / 5 % K.length) (wS []),zvF,0,0⟩],l.tail) else (es ++ [⟨0,0,wS [],valF (nxc l.tail),0,0⟩],l.tail.tail)
def zeN:Nat->List ByteArray->List Ex->Bs->List Int × List Ex × Bs
 | 0,_,es,l=>([],es,l)
 | n+1,K,es,l=>
  let p:=zaP 2 K es l
  let q:=zeN n K p.1 p.2
  (((p.1.length:Int) - 1) :: q.1,q.2)
def argC(c:Nat):Nat:=if c % 6=0 then 1 else if c % 6=1 then 2 else if c % 6=2 then 1 else if c % 6=3 then 2 else if c % 6=4 then 3 else 0
def zcm(K:List ByteArray)(es:List Ex)(l:Bs):List Int × List Ex × Bs:=zeN (argC (nxc l)) K es l.tail
def zdd:Nat->List ByteArray->Bs->List Tm × List ByteArray × Bs
 | 0,K,l=>([],K,l)
 | n+1,K,l=>
  let p:=zbV K l
  let q:=zdd n (if p.1.kind==2 then K ++ [p.1.var] else K) p.2
  (p.1 :: q.1,q.2)
def patC(c:Nat):Nat:=if c / 12 % 6=0 then 1 else if c / 12 % 6=1 then 2 else if c / 12 % 6=2 then 2 else if c / 12 % 6=3 then 1 else if c / 12 % 6=4 then 0 else 3
def patF(K:List ByteArray)(pos m:Nat)(l:Bs):Pt × List ByteArray × Bs:=
 let q:=zdd (patC (nxc l)) K l.tail
 let neg:=if m=5/\pos=0 then false else (nxc l % 4==3 || pos==3)
 (⟨neg,clsF (nxc l),q.1⟩,if neg then K else q.2.1,q.2.2)
def zd4:Nat->Nat->List ByteArray->Nat->Nat->Bs->List Pt × List ByteArray × Nat × Bs
 | 0,_,K,pos,_,l=>([],K,pos,l)
 | f+1,n0,K,pos,m,l=>
  if m<n0∨pos=0 then
   let p:=patF K pos m l
   let q:=zd4 f n0 p.2.1 (if p.1.neg then pos else pos+1) (m+1) p.2.2
   (p.1 :: q.1,q.2)
  else ([],K,pos,l)
def zc2(K:List ByteArray)(pos:Nat)(es:List Ex)(l:Bs):Ac × List Ex × Bs:=
 if nxc l % 8=0∨nxc l % 8=1∨nxc l % 8=2 then
  let q:=zcm K es l.tail
  (⟨1,0,clsF (nxc l / 8),q.1⟩,q.2)
 else if nxc l % 8=3∨nxc l % 8=4 then (⟨2,1+((nxc l / 8 % pos:Nat):Int),wS [],[]⟩,es,l.tail)
 else if nxc l % 8=5∨nxc l % 8=6 then
  let q:=zcm K es l.tail
  (⟨3,1+((nxc l / 8 % pos:Nat):Int),wS [],q.1⟩,q.2)
 else (⟨4,0,wS [],[]⟩,es,l.tail)
def zeR:Nat->List ByteArray->Nat->List Ex->Bs->List Ac × List Ex × Bs
 | 0,_,_,es,l=>([],es,l)
 | n+1,K,pos,es,l=>
  let p:=zc2 K pos es l
  let q:=zeR n K pos p.2.1 p.2.2
  (p.1 :: q.1,q.2)
def salF(c:Nat):Int:=if c=255 then -9223372036854775808 else ((c % 5:Nat):Int) - 2
def zgo(nm:ByteArray)(l:Bs):Ru × Bs:=
 let p:=zd4 7 (1+nxc l / 5 % 4) [] 0 0 l.tail
 let q:=zeR (1+nxc p.2.2.2 % 3) p.2.1 p.2.2.1 [] p.2.2.2.tail
 (⟨nm,salF (nxc l),p.1,q.2.1,q.1⟩,q.2.2)
def zdA(nm:Nat->ByteArray):Nat->Nat->Bs->List Ru × Bs
 | 0,_,l=>([],l)
 | n+1,k,l=>
  let p:=zgo (nm k) l
  let q:=zdA nm n (k+1) p.2
  (p.1 :: q.1,q.2)
def zb7(nm:Nat->ByteArray)(most:Nat)(l:Bs):List Ru × Bs:=zdA nm (1+nxc l % most) 0 l.tail
end Go.Proofs.YtjjjagepnnbebaaGreatDoor
namespace Go.Proofs.YtjjjagepnnbebaaGreatDoor
open Go.RowKit
attribute [local go_sem ↓] Go.wp_at_zero Go.wp_at_succ
theorem hidR{p:Prop}(h:p):Hid p:=h
def Rdr(w:World)(g:Nat)(l:Bs):Prop:=∃ (a:Option Addr) (B:Bs) (c i:Nat),w.heap[g]?=some (.cells #[.slice a B.length c,.int .i64 (i:Int)] 44 (0,0))/\i<=B.length/\B.length<=1048576/\l=B.drop i /\
 ∀ j x,B[j]?=some x->∃ (b o:Nat),a=some ⟨b,o,none⟩/\b<g/\w.cell? ⟨b,o+j,none⟩=some (.int .u8 (x.toNat:Int))
theorem Rdr.bel{w w':World}{g:Nat}{l:Bs}(h:Rdr w g l)(hb:Below w.heap.size w w'):Rdr w' g l:=by
 obtain ⟨a,n,c,i,h1,h2,h3,G,E⟩:=h;refine ⟨a,n,c,i,(hb.block g (zab h1)).trans h1,h2,h3,G,fun j x hj=>?_⟩;obtain ⟨b,o,e1,e2,I⟩:=E j x hj;exact ⟨b,o,e1,e2,zaa hb I⟩
theorem Rdr.lt{w:World}{g:Nat}{l:Bs}(h:Rdr w g l):g<w.heap.size:=by
 obtain ⟨a,n,c,i,h1,_⟩:=h;exact zab h1
theorem Rdr.old{w w':World}{g:Nat}{l:Bs}(h:Rdr w g l)(hb:Below (g+1) w w'):Rdr w' g l:=by
 obtain ⟨a,n,c,i,h1,h2,h3,G,E⟩:=h;refine ⟨a,n,c,i,(hb.block g (by omega)).trans h1,h2,h3,G,fun j x hj=>?_⟩;obtain ⟨b,o,e1,e2,I⟩:=E j x hj;refine ⟨b,o,e1,e2,?_⟩;rw[<- I];exact World.cell?_of_block (w:=w) (hb.block b (by omega))
def Rs(g:Nat)(l:Bs)(w w':World):Prop:=MkO (some g) w w'/\Rdr w' g l
theorem Rs.trans{g:Nat}{l l':Bs}{u v w:World}(h:Rs g l u v)(k:Rs g l' v w):Rs g l' u w:=⟨h.1.trans k.1,k.2⟩
theorem Rs.bel{g:Nat}{l:Bs}{u v w:World}(h:Rs g l u v)(hb:Below v.heap.size v w):Rs g l u w:=⟨h.1.trans (MkO.of_below hb),h.2.bel hb⟩
theorem Rs.refl{g:Nat}{l:Bs}{w:World}(h:Rdr w g l):Rs g l w w:=⟨MkO.refl _ _,h⟩
theorem Rs.of{g:Nat}{l:Bs}{w w':World}(h:Rdr w g l)(hb:Below w.heap.size w w'):Rs g l w w':=(Rs.refl h).bel hb
theorem zbQ(g:Nat)(l:Bs)(w:World)(h:Rdr w g l):Calls Tryz.prog 24 #[.pointer (some ⟨g,0,none⟩)] w fun e w'=>∃ c:Nat,c<256/\e=.returned (.int .i64 (c:Int))/\Rs g l.tail w w'/\Hid (nxc l=c):=by
 have H:=hidR h;obtain ⟨a,B,c,i,h1,h2,h3,I,G⟩:=h;have c0:w.cell? ⟨g,0,none⟩=some (.slice a B.length c):=by simp[World.cell?,h1]
 have c1:w.cell? ⟨g,1,none⟩=some (.int .i64 (i:Int)):=by simp[World.cell?,h1]
 have z1:w.frozen? ⟨g,1,none⟩=false:=by simp[World.frozen?,h1]
 have ad:g<w.heap.size:=zab h1;have H1:=hidR h1;have U:=hidR G;have E:=hidR I;clear h1 G I;by_cases hin:i<B.length
 ·obtain ⟨x,hx⟩:∃ x,B[i]?=some x:=⟨B[i],by simp[hin]⟩
  obtain ⟨b,o,rfl,ae,ab⟩:=U.out i x hx;have X:=hidR (show B.drop i=x :: B.drop (i+1) from zaU hx);have hu:=x.toNat_lt;have hI:((i:Nat):Int)<((B.length:Nat):Int):=by omega
  have Z:(0:Int)<=(i:Int):=by omega
  clear hx;go_enter Tryz.func24,Tryz.ntmps24;go_wp2;go_region;go_wp2;go_region;go_wp2;go_ret;refine ⟨x.toNat,hu,rfl,⟨?_,?_⟩,?_⟩
  ·exact (MkO.set _).trans (MkO.of_below (Below.refl _ _).drew.drew)
  ·refine ⟨some ⟨b,o,none⟩,B,c,i+1,?_,by omega,h3,by rw[E.out,X.out];rfl,fun j y hj=>?_⟩
   ·have:=zap (w:=w) (g:=g) (i:=1) H1.out (.int .i64 ((i:Int)+1));exact this
   obtain ⟨b',o',e1,e2,e4⟩:=U.out j y hj;refine ⟨b',o',e1,e2,?_⟩;rw[<- e4];exact World.cell?_of_block (w:=w) (Below.heap_setCell _ _ _ _ (Nat.ne_of_lt e2))
  show nxc l=x.toNat;rw[E.out,X.out];rfl
 have O:=hidR (show l=[] from by rw[E.out];exact List.drop_eq_nil_of_le (by omega));go_enter Tryz.func24,Tryz.ntmps24;go_wp2;go_region;go_wp2;go_ret;refine ⟨0,by omega,rfl,?_,?_⟩
 ·have:=Rs.of H.out (Below.refl _ _).drew;rw[O.out]at this ⊢;exact this
 show nxc l=0;rw[O.out];rfl
end Go.Proofs.YtjjjagepnnbebaaGreatDoor
namespace Go.Proofs.YtjjjagepnnbebaaGreatDoor
def TFs(m0:Nat)(K:List ByteArray)(l:Bs)(ts:List Tm)(j:Nat)(H:List ByteArray)(li:Bs):Prop:=zdd m0 K l=(ts ++ (zdd j H li).1,(zdd j H li).2)
theorem TFs.nil{m0:Nat}{K:List ByteArray}{l:Bs}:TFs m0 K l [] m0 K l:=by simp[TFs]
theorem TFs.step{m0:Nat}{K:List ByteArray}{l:Bs}{ts:List Tm}{j:Nat}{H E:List ByteArray}{li:Bs}{t:Tm}(h:TFs m0 K l ts j H li)(hj:0<j)(ht:t=(zbV H li).1)(G:E=(if t.kind==2 then H ++ [t.var] else H)):TFs m0 K l (ts ++ [t]) (j - 1) E (zbV H li).2:=by
 obtain ⟨i,rfl⟩:∃ i,j=i+1:=⟨j - 1,by omega⟩
 subst G;subst ht;unfold TFs at h ⊢;rw[h];simp only[zdd,Nat.add_sub_cancel];simp
theorem TFs.fin{m0:Nat}{K:List ByteArray}{l:Bs}{ts:List Tm}{H:List ByteArray}{li:Bs}(h:TFs m0 K l ts 0 H li):zdd m0 K l=(ts,H,li):=by
 unfold TFs at h;rw[h];simp[zdd]
def PFs(n0:Nat)(l:Bs)(L:List Pt)(K:List ByteArray)(pos:Nat)(lr:Bs):Prop:=zd4 7 n0 [] 0 0 l=(L ++ (zd4 (7 - L.length) n0 K pos L.length lr).1,(zd4 (7 - L.length) n0 K pos L.length lr).2)
theorem PFs.nil{n0:Nat}{l:Bs}:PFs n0 l [] [] 0 l:=by simp[PFs]
theorem PFs.step{n0 m:Nat}{l:Bs}{L:List Pt}{K Z H:List ByteArray}{pos E:Nat}{lr li:Bs}{neg:Bool}{cls:ByteArray}{ts:List Tm}(h:PFs n0 l L K pos lr)(hm:L.length=m)(hL:m<=6)(X:m<n0∨pos=0)
  (G:neg=(if m=5/\pos=0 then false else (nxc lr % 4==3 || pos==3))) (O:cls=clsF (nxc lr)) (ab:zdd (patC (nxc lr)) K lr.tail=(ts,H,li)) (hK:Z=(if neg then K else H)) (I:E=pos/\neg=true∨E=pos+1/\neg=false):PFs n0 l (L ++ [⟨neg,cls,ts⟩]) Z E li:=by
 have hp:patF K pos m lr=(⟨neg,cls,ts⟩,Z,li):=by
  unfold patF;rw[ab];simp only;rw[<- G,<- O,hK]
 have U:E=(if neg then pos else pos+1):=by
  rcases I with ⟨rfl,rfl⟩ | ⟨rfl,rfl⟩ <;> rfl
 obtain ⟨i,hi⟩:∃ i,7 - m=i+1:=⟨6 - m,by omega⟩
 have ad:7 - (m+1)=i:=by omega
 unfold PFs at h ⊢;rw[List.length_append,List.length_singleton,hm,ad];rw[h,hm,hi];simp only[zd4];rw[if_pos X,hp];simp only[<- U];simp
theorem PFs.fin{n0:Nat}{l:Bs}{L:List Pt}{K:List ByteArray}{pos:Nat}{lr:Bs}(h:PFs n0 l L K pos lr)(G:L.length<=6)(E:¬ (L.length<n0∨pos=0)):zd4 7 n0 [] 0 0 l=(L,K,pos,lr):=by
 obtain ⟨i,hi⟩:∃ i,7 - L.length=i+1:=⟨6 - L.length,by omega⟩
 unfold PFs at h;rw[h,hi];simp only[zd4];rw[if_neg E];simp
def AFs(n5:Nat)(K:List ByteArray)(pos:Nat)(l:Bs)(Ys:List Ac)(j:Nat)(xs:List Ex)(la:Bs):Prop:=zeR n5 K pos [] l=(Ys ++ (zeR j K pos xs la).1,(zeR j K pos xs la).2)
theorem AFs.nil{n5:Nat}{K:List ByteArray}{pos:Nat}{l:Bs}:AFs n5 K pos l [] n5 [] l:=by simp[AFs]
theorem AFs.step{n5:Nat}{K:List ByteArray}{pos:Nat}{l:Bs}{Ys:List Ac}{j:Nat}{xs xs':List Ex}{la E:Bs}{A:Ac}(h:AFs n5 K pos l Ys j xs la)(hj:0<j)(G:zc2 K pos xs la=(A,xs',E)):AFs n5 K pos l (Ys ++ [A]) (j - 1) xs' E:=by
 obtain ⟨i,rfl⟩:∃ i,j=i+1:=⟨j - 1,by omega⟩
 unfold AFs at h ⊢;rw[h];simp only[zeR,Nat.add_sub_cancel];rw[G];simp
theorem AFs.fin{n5:Nat}{K:List ByteArray}{pos:Nat}{l:Bs}{Ys:List Ac}{xs:List Ex}{la:Bs}(h:AFs n5 K pos l Ys 0 xs la):zeR n5 K pos [] l=(Ys,xs,la):=by
 unfold AFs at h;rw[h];simp[zeR]
theorem zod{K:List ByteArray}{pos n:Nat}{xs xs':List Ex}{la:Bs}{cl:ByteArray}{zs:List Int}(hn:nxc la=n)(h:n % 8=0∨n % 8=1∨n % 8=2)(E:cl=clsF (n / 8))(hz:zs=(zcm K xs la.tail).1/\xs'=(zcm K xs la.tail).2.1):zc2 K pos xs la=(⟨1,0,cl,zs⟩,xs',(zcm K xs la.tail).2.2):=by
 unfold zc2;rw[hn,if_pos h,E,hz.1,hz.2]
theorem zk5{K:List ByteArray}{pos n:Nat}{xs:List Ex}{la:Bs}{z:Int}(hn:nxc la=n)(h:n % 8=3∨n % 8=4)(hz:z=1+((n / 8 % pos:Nat):Int)):zc2 K pos xs la=(⟨2,z,⟨#[]⟩,[]⟩,xs,la.tail):=by
 unfold zc2;rw[hn,if_neg (by omega),if_pos h,hz];rfl
theorem zm5{K:List ByteArray}{pos n:Nat}{xs xs':List Ex}{la:Bs}{z:Int}{zs:List Int}(hn:nxc la=n)(h:n % 8=5∨n % 8=6)(hk:z=1+((n / 8 % pos:Nat):Int))(hz:zs=(zcm K xs la.tail).1/\xs'=(zcm K xs la.tail).2.1):zc2 K pos xs la=(⟨3,z,⟨#[]⟩,zs⟩,xs',(zcm K xs la.tail).2.2):=by
 unfold zc2;rw[hn,if_neg (by omega),if_neg (by omega),if_pos h,hk,hz.1,hz.2];rfl
theorem zkS{K:List ByteArray}{pos n:Nat}{xs:List Ex}{la:Bs}(hn:nxc la=n)(h:n % 8=7):zc2 K pos xs la=(⟨4,0,⟨#[]⟩,[]⟩,xs,la.tail):=by
 unfold zc2;rw[hn,if_neg (by omega),if_neg (by omega),if_neg (by omega)];rfl
theorem zoL{nm:ByteArray}{l:Bs}{sal:Int}{L:List Pt}{K:List ByteArray}{pos:Nat}{E:Bs}{Ys:List Ac}{xs:List Ex}{la:Bs}(hs:sal=salF (nxc l))(hp:zd4 7 (1+nxc l / 5 % 4) [] 0 0 l.tail=(L,K,pos,E))(ha:zeR (1+nxc E % 3) K pos [] E.tail=(Ys,xs,la)):zgo nm l=(⟨nm,sal,L,xs,Ys⟩,la):=by
 unfold zgo;rw[hp];simp only;rw[ha,hs]
def RFs(nm:Nat->ByteArray)(n0:Nat)(l:Bs)(M:List Ru)(j:Nat)(lr:Bs):Prop:=zdA nm n0 0 l=(M ++ (zdA nm j M.length lr).1,(zdA nm j M.length lr).2)
theorem RFs.nil{nm:Nat->ByteArray}{n0:Nat}{l:Bs}:RFs nm n0 l [] n0 l:=by simp[RFs]
theorem RFs.step{nm:Nat->ByteArray}{n0 m:Nat}{l:Bs}{M:List Ru}{j:Nat}{lr:Bs}{r:Ru}(h:RFs nm n0 l M j lr)(hm:M.length=m)(hj:0<j)(hr:r=(zgo (nm m) lr).1):RFs nm n0 l (M ++ [r]) (j - 1) (zgo (nm m) lr).2:=by
 obtain ⟨i,rfl⟩:∃ i,j=i+1:=⟨j - 1,by omega⟩
 subst hr;subst hm;unfold RFs at h ⊢;rw[h];simp only[zdA,Nat.add_sub_cancel];simp
theorem RFs.fin{nm:Nat->ByteArray}{n0:Nat}{l:Bs}{M:List Ru}{lr:Bs}(h:RFs nm n0 l M 0 lr):zdA nm n0 0 l=(M,lr):=by
 unfold RFs at h;rw[h];simp[zdA]
end Go.Proofs.YtjjjagepnnbebaaGreatDoor
namespace Go.Proofs.YtjjjagepnnbebaaGreatDoor
open Go.RowKit
theorem zjS{n:Int}(h1:-9223372036854775808<=n)(h2:n<=9223372036854775807):(Lit.int .i64 n).wf=true:=by
 simp[Lit.wf,IntKind.min,IntKind.max,IntKind.signed,IntKind.bits];omega
theorem zgh{s:ByteArray}(h:s.toList.isEmpty=true):s=⟨#[]⟩:=by
 have h1:(s.toList==(⟨#[]⟩:ByteArray).toList)=true:=by
  have:s.toList=[]:=by simpa using h
  rw[this,show (⟨#[]⟩:ByteArray).toList=[] by decide +kernel];rfl
 rw[zb1]at h1;simpa using h1
theorem ziJ{w:World}{base:Nat}{e:TypeId}{m:Nat}{a:Option Addr}{n c:Nat}{xs:List Value}(h:w.ownsRow base e m (.slice a n c) n xs):n<=c:=by
 rcases h.2 with ⟨_,h1⟩ | ⟨g,cap,cur,hv,_,_,hn,_⟩
 ·omega
 cases hv
 exact hn
end Go.Proofs.YtjjjagepnnbebaaGreatDoor
namespace Go.Proofs.YtjjjagepnnbebaaGreatDoor
open Go.RowKit
attribute [local go_sem ↓] Go.wp_at_zero Go.wp_at_succ
theorem hidS{p:Prop}(h:p):Hid p:=h
theorem zeF{w:World}{b:Nat}{L:List Value}{t:TypeId}(h:w.heap[b]?=some (.cells L.toArray t (0,0))){j:Nat}{v:Value}(hv:L[j]?=some v):w.cell? ⟨b,j,none⟩=some v:=by
 simp[World.cell?,h,hv]
theorem zo3{P:World->Prop}{w:World}{G I:Obj}(h:∀ E,Below w.heap.size w E->E.heap[w.heap.size]?=some G->E.heap[w.heap.size+1]?=some I->P E):P ((w.alloc G).alloc I):=by
 have h1:(w.alloc G).heap.size=w.heap.size+1:=by simp
 refine h _ (((Below.refl _ _).alloc (Nat.le_refl _) _).alloc (by omega) _) ?_ ?_
 ·rw[Below.heap_alloc _ _ _ (by omega)];exact heap_alloc_new _ _
 rw[<- h1];exact heap_alloc_new _ _
theorem zhx(xs:List Int)(a b:Option Addr)(U cb:Nat)(w:World)(hx:zbL none w a xs)(hy:zbL none w b xs)(hl:xs.length<=1048576):Calls Tryz.prog 50 #[.slice a xs.length U,.slice b xs.length cb] w fun e w'=>e=.returned (.bool true)/\Below w.heap.size w w':=by
 have HX:=hidS hx;have O:=hidS hy;clear hx hy;go_enter Tryz.func50,Tryz.ntmps50;go_wp2_with fail
 go_loopw [13] (fun I wr=>∃ i:Nat,I=.int .i64 (i:Int)/\i<=xs.length/\Below w.heap.size w wr) (fun I _=>((xs.length:Int) - intOf I).toNat)
 case atStart=>exact ⟨0,rfl,by omega,Below.refl _ _⟩
 case round=>
  obtain ⟨i,rfl,X,hb⟩:=hrel;have E:=hidS hb;clear hb;by_cases hi:i<xs.length
  ·have G:(i:Int)<(xs.length:Int):=by omega
   have Z:(0:Int)<=(i:Int):=by omega
   obtain ⟨x,hx⟩:∃ x,xs[i]?=some x:=⟨xs[i],by simp[hi]⟩
   obtain ⟨xb,xo,rfl,_,c0⟩:=(HX.out.below E.out).get hx;obtain ⟨yb,yo,rfl,_,c1⟩:=(O.out.below E.out).get hx;clear hx;go_wp2_with fail
   go_region;go_wp2_with fail
   go_roundw
   case rel=>exact ⟨i+1,by go_num,by omega,E.out.drew⟩
   case measure=>simp[intOf];omega
  have G:¬ (i:Int)<(xs.length:Int):=by omega
  go_wp2_with fail
  go_ret;exact ⟨rfl,E.out⟩
theorem zhm(x:Tm)(w:World) :
  Calls Tryz.prog 49 #[.agg #[.int .i64 x.kind,.int .i64 x.op,.string x.var,.int .i64 x.val.kind,.int .i64 x.val.num,.string x.val.sym],.agg #[.int .i64 x.kind,.int .i64 x.op,.string x.var,.int .i64 x.val.kind,.int .i64 x.val.num,.string x.val.sym]] w fun e w'=>
   e=.returned (.bool true)/\Below w.heap.size w w':=by
 have E:∀ o o',Below w.heap.size w ((w.alloc o).alloc o'):=fun o o'=>((Below.refl _ _).alloc (Nat.le_refl _) _).alloc (by simp) _;go_enter Tryz.func49,Tryz.ntmps49;go_wp2_with fail
 go_ret;exact ⟨rfl,E _ _⟩
theorem zhz(x:Ru)(ap aw ae aA aa az:Option Addr)(cp aB ce aC ca aG:Nat)(w:World)(hp:zdv none w ap x.pats)(aM:zdv none w aw x.pats)(he:zbG none w ae x.exprs)(aL:zbG none w aA x.exprs)(ha:zdY none w aa x.acts)(aP:zdY none w az x.acts)(hs:x.lq 1048576) :
  Calls Tryz.prog 18 #[.agg #[.string x.name,.int .i64 x.sal,.slice ap x.pats.length cp,.slice ae x.exprs.length ce,.slice aa x.acts.length ca],.agg #[.string x.name,.int .i64 x.sal,.slice aw x.pats.length aB,.slice aA x.exprs.length aC,.slice az x.acts.length aG]] w fun e w'=>e=.returned (.bool true)/\Below w.heap.size w w':=by
 obtain ⟨_,⟨lp,sp⟩,⟨le,_⟩,la,sa⟩:=hs;have HP:=hidS (fun u (h:Below w.heap.size w u)=>And.intro (hp.below h) (aM.below h));have HE:=hidS (fun u (h:Below w.heap.size w u)=>And.intro (he.below h) (aL.below h));have HC:=hidS (fun u (h:Below w.heap.size w u)=>And.intro (ha.below h) (aP.below h));have SP:=hidS sp;have SA:=hidS sa;clear hp aM he aL ha aP sp sa;go_enter Tryz.func18,Tryz.ntmps18;go_upto_region 1 with fail
 refine zo3 ?_;intro X aJ E G;have ad:=hidS aJ;have ba:w.heap.size+1<X.heap.size:=zab G;have FA:=hidS (fun u (h:Below X.heap.size X u) (j:Nat) v (hv:[Value.string x.name,.int .i64 x.sal,.slice ap x.pats.length cp,.slice ae x.exprs.length ce,.slice aa x.acts.length ca][j]?=some v)=>zaa h (zeF (L:=[_,_,_,_,_]) E hv));have FB:=hidS (fun u (h:Below X.heap.size X u) (j:Nat) v (hv:[Value.string x.name,.int .i64 x.sal,.slice aw x.pats.length aB,.slice aA x.exprs.length aC,.slice az x.acts.length aG][j]?=some v)=>zaa h (zeF (L:=[_,_,_,_,_]) G hv));have a0:=FA.out X (Below.refl _ _) 0 _ rfl;have a1:=FA.out X (Below.refl _ _) 1 _ rfl;have a2:=FA.out X (Below.refl _ _) 2 _ rfl;have a3:=FA.out X (Below.refl _ _) 3 _ rfl;have a4:=FA.out X (Below.refl _ _) 4 _ rfl;have b0:=FB.out X (Below.refl _ _) 0 _ rfl;have b1:=FB.out X (Below.refl _ _) 1 _ rfl;have b2:=FB.out X (Below.refl _ _) 2 _ rfl;have b3:=FB.out X (Below.refl _ _) 3 _ rfl;have b4:=FB.out X (Below.refl _ _) 4 _ rfl;clear aJ E G;go_wp2_with fail
 clear a0 a1 a2 a3 a4 b0 b1 b2 b3 b4
 go_loopw [55] (fun i wr=>∃ (k:Nat),k<=x.pats.length/\i=.int .i64 (k:Int)/\Below X.heap.size X wr) (fun i _=>x.pats.length - (intOf i).toNat)
 case atStart=>exact ⟨0,by omega,rfl,Below.refl _ _⟩
 case round=>
  obtain ⟨k,hk,rfl,hb⟩:=hrel;have HB:=hidS hb;have HT:=hidS (ad.out.trans (hb.mono ad.out.size));clear hb;by_cases aK:k<x.pats.length
  ·have z0:(0:Int)<=(k:Int):=by omega
   have z1:(k:Int)<(x.pats.length:Int):=by omega
   obtain ⟨p,aq⟩:∃ p,x.pats[k]?=some p:=⟨x.pats[k],by simp[aK]⟩
   obtain ⟨b,o,ta,tc,rfl,_,c0,c1,c2,ht⟩:=(HP.out _ HT.out).1.get aq;obtain ⟨b',o',aZ,aY,rfl,_,d0,d1,d2,aE⟩:=(HP.out _ HT.out).2.get aq;have a2:=FA.out wr HB.out 2 _ rfl;have b2:=FB.out wr HB.out 2 _ rfl;have a6:=(SP.out p (List.mem_of_getElem? aq)).2.1;have aF:=hidS (fun u (h:Below wr.heap.size wr u)=>And.intro (ht.below h) (aE.below h));have aU:=HB.out.size;clear aq ht aE;go_upto_region 7 with fail
   refine zaf ?_;intro wa O E;have aj:wr.heap.size<wa.heap.size:=zab E;have al:=hidS O;have ah:=hidS E;replace b2:=zaa O b2;replace d0:=zaa O d0;replace d1:=zaa O d1;replace d2:=zaa O d2;clear O E a2 c0 c1 c2;go_upto_region 8 with fail
   refine zaf ?_;intro w2 af G;have E:=(af.block _ aj).trans ah.out;have au:=al.out.trans (af.mono (Nat.le_of_lt aj));have p0:=zeF (L:=[_,_,_]) E (j:=0) rfl;have p1:=zeF (L:=[_,_,_]) E (j:=1) rfl;have p2:=zeF (L:=[_,_,_]) E (j:=2) rfl;have q0:=zeF (L:=[_,_,_]) G (j:=0) rfl;have q1:=zeF (L:=[_,_,_]) G (j:=1) rfl;have q2:=zeF (L:=[_,_,_]) G (j:=2) rfl;have a7:wa.heap.size<w2.heap.size:=zab G;have B2:=hidS (HB.out.trans (au.mono aU):Below X.heap.size X w2);have aH:=hidS (fun u (h:Below w2.heap.size w2 u)=>aF.out u (au.trans (h.mono au.size)));have FP:=hidS (fun u (h:Below w2.heap.size w2 u)=>And.intro (zaa h p2) (zaa h q2));clear au E G aF af al ah;go_wp2_with fail
   clear p0 p1 p2 q0 q1 q2 b2 d0 d1 d2;obtain ⟨wo,rfl⟩:∃ v,v=wr:=⟨wr,rfl⟩
   go_loopw [92] (fun i wr=>∃ (j:Nat),j<=p.terms.length/\i=.int .i64 (j:Int)/\Below w2.heap.size w2 wr) (fun i _=>p.terms.length - (intOf i).toNat)
   case atStart=>exact ⟨0,by omega,rfl,Below.refl _ _⟩
   case round=>
    obtain ⟨j,hj,rfl,ag⟩:=hrel;have I:=hidS ag;clear ag;have p2:=(FP.out _ I.out).1;have q2:=(FP.out _ I.out).2;have a8:=I.out.size;have aV:=B2.out.size;by_cases ao:j<p.terms.length
    ·have y0:(0:Int)<=(j:Int):=by omega
     have y1:(j:Int)<(p.terms.length:Int):=by omega
     obtain ⟨t,U⟩:∃ t,p.terms[j]?=some t:=⟨p.terms[j],by simp[ao]⟩
     obtain ⟨tb,tf,rfl,_,c0,c1,c2,c3,c4,c5⟩:=(aH.out _ I.out).1.get U;obtain ⟨ab,Z,rfl,_,d0,d1,d2,d3,d4,d5⟩:=(aH.out _ I.out).2.get U;clear U;go_wp2_with fail
     go_region_held3 (fun w'=>w'.cell? ⟨wo.heap.size,2,none⟩=some (.slice (some ⟨tb,tf,none⟩) p.terms.length tc)/\w'.cell? ⟨wa.heap.size,2,none⟩=some (.slice (some ⟨ab,Z,none⟩) p.terms.length aY)/\w'.cell? ⟨tb,tf+j * 6,none⟩=some (.int .i64 t.kind)/\w'.cell? ⟨tb,tf+j * 6+1,none⟩=some (.int .i64 t.op)/\w'.cell? ⟨tb,tf+j * 6+2,none⟩=some (.string t.var)/\w'.cell? ⟨tb,tf+j * 6+3,none⟩=some (.int .i64 t.val.kind)/\w'.cell? ⟨tb,tf+j * 6+4,none⟩=some (.int .i64 t.val.num)/\w'.cell? ⟨tb,tf+j * 6+5,none⟩=some (.string t.val.sym)/\w'.cell? ⟨ab,Z+j * 6,none⟩=some (.int .i64 t.kind)/\w'.cell? ⟨ab,Z+j * 6+1,none⟩=some (.int .i64 t.op)/\w'.cell? ⟨ab,Z+j * 6+2,none⟩=some (.string t.var)/\w'.cell? ⟨ab,Z+j * 6+3,none⟩=some (.int .i64 t.val.kind)/\w'.cell? ⟨ab,Z+j * 6+4,none⟩=some (.int .i64 t.val.num)/\w'.cell? ⟨ab,Z+j * 6+5,none⟩=some (.string t.val.sym)) ((go_split_ands;refine ⟨?_,?_,?_,?_,?_,?_,?_,?_,?_,?_,?_,?_,?_,?_⟩ <;> first | (simp[*];done) | exact zaa aN (by simp[*])))
      (first | (go_at_call 49;refine (zhm t _).mono ?_;rintro e w' ⟨rfl,aN⟩))
     go_wp2_with fail
     go_roundw
     case rel=>exact ⟨j+1,by omega,by go_num,I.out.drew.trans (aN.mono I.out.size)⟩
     case measure=>simp[intOf];omega
    have y1:¬ (j:Int)<(p.terms.length:Int):=by omega
    go_wp2_with fail
    go_roundw
    case rel=>exact ⟨k+1,by omega,by go_num,B2.out.trans (I.out.mono aV)⟩
    case measure=>simp[intOf];omega
  have z1:¬ (k:Int)<(x.pats.length:Int):=by omega
  have a3:=FA.out wr HB.out 3 _ rfl;obtain ⟨wo,rfl⟩:∃ v,v=wr:=⟨wr,rfl⟩
  have aI:=HB.out.size;go_wp2_with fail
  clear a3 aK z1
  go_loopw [112] (fun i wr=>∃ (j:Nat),j<=x.exprs.length/\i=.int .i64 (j:Int)/\Below wo.heap.size wo wr) (fun i _=>x.exprs.length - (intOf i).toNat)
  case atStart=>exact ⟨0,by omega,rfl,Below.refl _ _⟩
  case round=>
   obtain ⟨j,hj,rfl,ag⟩:=hrel;have I:=hidS (HB.out.trans (ag.mono aI));have HR:=hidS ag;clear ag;by_cases ao:j<x.exprs.length
   ·have y0:(0:Int)<=(j:Int):=by omega
    have y1:(j:Int)<(x.exprs.length:Int):=by omega
    obtain ⟨t,U⟩:∃ t,x.exprs[j]?=some t:=⟨x.exprs[j],by simp[ao]⟩
    have HX:=HE.out _ (ad.out.trans (I.out.mono ad.out.size));obtain ⟨tb,tf,rfl,_,c0,c1,c2,c3,c4,c5,c6,c7⟩:=HX.1.get U;obtain ⟨ab,Z,rfl,_,d0,d1,d2,d3,d4,d5,d6,d7⟩:=HX.2.get U;have a3:=FA.out wr I.out 3 _ rfl;have b3:=FB.out wr I.out 3 _ rfl;clear U HX;go_wp2_with fail
    go_region;go_wp2_with fail
    go_roundw
    case rel=>exact ⟨j+1,by omega,by go_num,HR.out.drew⟩
    case measure=>simp[intOf];omega
   have y1:¬ (j:Int)<(x.exprs.length:Int):=by omega
   have a4:=FA.out wr I.out 4 _ rfl;obtain ⟨wv,rfl⟩:∃ v,v=wr:=⟨wr,rfl⟩
   have aD:=I.out.size;go_wp2_with fail
   clear a4 ao y1
   go_loopw [130] (fun i wr=>∃ (m:Nat),m<=x.acts.length/\i=.int .i64 (m:Int)/\Below wv.heap.size wv wr) (fun i _=>x.acts.length - (intOf i).toNat)
   case atStart=>exact ⟨0,by omega,rfl,Below.refl _ _⟩
   case round=>
    obtain ⟨m,hm,rfl,ax⟩:=hrel;have ak:=hidS (I.out.trans (ax.mono aD));have ay:=hidS ax;clear ax;by_cases aT:m<x.acts.length
    ·have y0:(0:Int)<=(m:Int):=by omega
     have y1:(m:Int)<(x.acts.length:Int):=by omega
     obtain ⟨t,U⟩:∃ t,x.acts[m]?=some t:=⟨x.acts[m],by simp[aT]⟩
     have HX:=HC.out _ (ad.out.trans (ak.out.mono ad.out.size));obtain ⟨tb,tf,ga,gc,rfl,_,c0,c1,c2,c3,hg⟩:=HX.1.get U;obtain ⟨ab,Z,aW,aX,rfl,_,d0,d1,d2,d3,aO⟩:=HX.2.get U;have aR:=(SA.out t (List.mem_of_getElem? U)).2;have a4:=FA.out wr ak.out 4 _ rfl;have b4:=FB.out wr ak.out 4 _ rfl;have HG:=hidS (fun u (h:Below wr.heap.size wr u)=>And.intro (hg.below h) (aO.below h));have bc:=ak.out.size;clear U HX hg aO;go_upto_region 27 with fail
     refine zaf ?_;intro wa O E;have aj:wr.heap.size<wa.heap.size:=zab E;have al:=hidS O;have ah:=hidS E;replace b4:=zaa O b4;replace d0:=zaa O d0;replace d1:=zaa O d1;replace d2:=zaa O d2;replace d3:=zaa O d3;clear O E a4 c0 c1 c2 c3;go_upto_region 28 with fail
     refine zaf ?_;intro w5 af G;have E:=(af.block _ aj).trans ah.out;have aQ:=al.out.trans (af.mono (Nat.le_of_lt aj));have p0:=zeF (L:=[_,_,_,_]) E (j:=0) rfl;have p1:=zeF (L:=[_,_,_,_]) E (j:=1) rfl;have p2:=zeF (L:=[_,_,_,_]) E (j:=2) rfl;have p3:=zeF (L:=[_,_,_,_]) E (j:=3) rfl;have q0:=zeF (L:=[_,_,_,_]) G (j:=0) rfl;have q1:=zeF (L:=[_,_,_,_]) G (j:=1) rfl;have q2:=zeF (L:=[_,_,_,_]) G (j:=2) rfl;have q3:=zeF (L:=[_,_,_,_]) G (j:=3) rfl;have bb:wa.heap.size<w5.heap.size:=zab G;have ar:=hidS aQ;clear aQ E G af al ah;go_wp2_with (first | (go_at_call 50;refine (zhx t.args ga aW gc aX _ (HG.out _ ar.out).1 (HG.out _ ar.out).2 aR).mono ?_;rintro e w6 ⟨rfl,aS⟩) | fail);go_roundw
     case rel=>exact ⟨m+1,by omega,by go_num,(ay.out.trans (ar.out.mono ay.out.size)).trans (aS.mono (Nat.le_trans ay.out.size ar.out.size))⟩
     case measure=>simp[intOf];omega
    have y1:¬ (m:Int)<(x.acts.length:Int):=by omega
    go_wp2_with fail
    go_ret;exact ⟨rfl,ad.out.trans (ak.out.mono ad.out.size)⟩
end Go.Proofs.YtjjjagepnnbebaaGreatDoor
namespace Go.Proofs.YtjjjagepnnbebaaGreatDoor
open Go.RowKit
section
variable {β γ : Type}
theorem zii{f:β->List Value}{m:Nat}{x:β}{v:Value}{j:Nat}:∀ (l:List β) (i:Nat),(∀ x∈l,(f x).length=m)->l[i]?=some x->(f x)[j]?=some v->(l.flatMap f)[i * m+j]?=some v
 | [],i,_,h,_=>by simp at h
 | y :: r,0,hm,h,hv=>by
  simp at h
  subst h
  have hl:j<(f y).length:=(List.getElem?_eq_some_iff.1 hv).1
  rw[List.flatMap_cons,List.getElem?_append_left (by omega)]
  simpa using hv
 | y :: r,i+1,hm,h,hv=>by
  have hy:=hm y (by simp)
  have e:(i+1) * m+j=(f y).length+(i * m+j):=by rw[hy,Nat.succ_mul];omega
  rw[List.flatMap_cons,e,List.getElem?_append_right (by omega),Nat.add_sub_cancel_left]
  exact zii r i (fun z hz=>hm z (by simp[hz])) (by simpa using h) hv
theorem zbf.of_owns{w:World}{B n c t m:Nat}{a:Option Addr}{f:γ->List Value}{R:World->List Value->β->Prop}{p:γ->β}{M:List γ}(h:w.ownsRow B t m (.slice a n c) n (M.flatMap f))(hm:∀ x∈M,(f x).length=m)(I:0<m)(O:∀ x∈M,R w (f x) (p x)):zbf R none t m w a (M.map p):=by
 intro i y hy;rw[List.getElem?_map,Option.map_eq_some_iff]at hy;obtain ⟨x,hx,rfl⟩:=hy;have E:=List.mem_of_getElem? hx;obtain ⟨v,hv⟩:∃ v,(f x)[0]?=some v:=⟨(f x)[0]'(by rw[hm x E];exact I),List.getElem?_eq_getElem _⟩
 obtain ⟨g,rfl,_,_,_⟩:=zbE h (zii M i hm hx hv);refine ⟨g,0,f x,rfl,Qb.bare _ _ _,hm x E,?_,O x E⟩;intro j u U;obtain ⟨X,G,_,Z,_⟩:=zbE h (zii M i hm hx U)
 cases G
 rwa [Nat.zero_add]
end
end Go.Proofs.YtjjjagepnnbebaaGreatDoor
namespace Go.Proofs.YtjjjagepnnbebaaGreatDoor
def ziU:List Bs:=[[40],[41],[32],[59,32,120,10],[48],[45],[63],[95],[61,62],[0],[65],[110,111,116,32],[32,57,57,57,57,57,57,57,57,57,57,57,57,57,57,57,57,57,57,57,57,32],[10],[97,32,98,32,99,32,100,32,101,32,102,32,103]]
def zdE(s:Bs)(l:Bs):Bs × Bs:=
 if nxc l % 3=0∨s.length=0 then (s,l.tail)
 else
  let k:=(nxc l.tail * 256+nxc l.tail.tail) % s.length
  let m:=l.tail.tail.tail
  (s.take k ++ (if nxc l % 3=1 then ziU.getD (nxc m % 15) [] ++ s.drop k else s.drop (k+1)),m.tail)
def zeM:Nat->Bs
 | 0=>[49]
 | n+1=>[40,43,32] ++ zeM n ++ [32,49,41]
theorem zk4(k:Nat):(ziU.getD k []).length<=22:=by
 by_cases h:k<15
 ·have:∀ k:Fin 15,(ziU.getD k.val []).length<=22:=by decide
  exact this ⟨k,h⟩
 have h2:ziU[k]?=none:=List.getElem?_eq_none (by simp[ziU];omega);simp[List.getD,h2]
theorem zik(s l:Bs):(zdE s l).1.length<=s.length+22:=by
 unfold zdE;split
 ·simp
 have hb:=zk4 (nxc l.tail.tail.tail % 15);simp only[List.length_append,List.length_take];split
 ·rw[List.length_append,List.length_drop];omega
 rw[List.length_drop];omega
theorem zgA:∀ n,(zeM n).length=6 * n+1
 | 0=>rfl
 | n+1=>by
  simp only[zeM,List.length_append,zgA n,List.length_cons,List.length_nil]
  omega
end Go.Proofs.YtjjjagepnnbebaaGreatDoor
