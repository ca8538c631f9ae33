/-
  OUR OWN TEXT. Wt5, Dl1, Dl2, Dl3, Dp4, Ws3, Ws4, Ws5, Ws6, Ws7, one behind the other.
-/
import Derived.Test.YtjjjagepnnbebaaGreatDoorKbp
import Derived.Test.YtjjjagepnnbebaaGreatDoorKal
import Derived.Lib.ItoaLen
import Derived.Test.YtjjjagepnnbebaaGreatDoorKaq
import Derived.Test.YtjjjagepnnbebaaGreatDoorKbo
import Derived.Test.YtjjjagepnnbebaaGreatDoorDr0m
namespace Go.Proofs.YtjjjagepnnbebaaGreatDoor
theorem zoH:∀ (n:Nat) {s s1:ES}{l r:List Wd}{G:List Ac},zaK 41 pAct n s l=.ok ((G,s1),r)->GdW l->(∃ m,s1.1=s.1 ++ m)/\(∀ E,(G.map fun a=>(txA (s1.1 ++ E) a).length+3).sum+wtL r<=wtL l)/\GdW r:=by
 intro n
 induction n with
 | zero=>
  intro s s1 l r G h hg;unfold zaK at h
  cases hn:zaj l with
  | error e=>rw[hn]at h;cases h
  | ok q=>
   obtain ⟨x,t⟩:=q;rw[hn]at h;simp only at h;split at h
   ·cases h
    exact ⟨⟨[],by simp⟩,fun E=>by simp,hg⟩
   ·split at h <;> cases h
 | succ n ih=>
  intro s s1 l r G h hg;unfold zaK at h
  cases hn:zaj l with
  | error e=>rw[hn]at h;cases h
  | ok q=>
   obtain ⟨x,t⟩:=q;rw[hn]at h;simp only at h;split at h
   ·cases h
    exact ⟨⟨[],by simp⟩,fun E=>by simp,hg⟩
   cases ht:zai 40 l with
   | error e=>rw[ht]at h;cases h
   | ok q=>
    obtain ⟨y,l1⟩:=q;rw[ht]at h;simp only at h;obtain ⟨w1,g1,y1,U⟩:=zaN ht hg;have hy:=zhv y1 (.inl U)
    cases hr:pAct s l1 with
    | error e=>rw[hr]at h;cases h
    | ok q=>
     obtain ⟨⟨v,X⟩,l2⟩:=q;rw[hr]at h;simp only at h;obtain ⟨⟨O,e1⟩,Z,g2⟩:=zky hr g1
     cases hp:zaK 41 pAct n X l2 with
     | error e=>rw[hp]at h;cases h
     | ok q=>
      obtain ⟨⟨us,su⟩,l3⟩:=q;rw[hp]at h;simp only at h;obtain ⟨⟨I,e2⟩,t2,g3⟩:=ih hp g2
      cases h
      refine ⟨⟨O ++ I,by simp only[e2,e1,List.append_assoc]⟩,fun E=>?_,g3⟩;have a:=Z (I ++ E);have b:=t2 E;rw[<- List.append_assoc,<- e2]at a;rw[List.map_cons,List.sum_cons];omega
theorem zk3(l:List Pt):(txPs l).length=(l.map fun p=>(txP p).length+3).sum:=by
 unfold txPs;rw[List.length_flatMap];congr 1
theorem zkU(es:List Ex)(l:List Ac):(txAs es l).length=(l.map fun a=>(txA es a).length+3).sum:=by
 unfold txAs;rw[List.length_flatMap];congr 1
theorem znt(r:Ru):(txR r).length=(bsOf r.name).length+(Lib.itoa r.sal).length+(txPs r.pats).length+(txAs r.exprs r.acts).length+14:=by
 unfold txR txHd;simp[zhk,zbJ,zcz];omega
theorem zix{l r:List Wd}{x:Ru}(h:zbh l=.ok (x,r))(hg:GdW l):(txR x).length+wtL r<=wtL l+4/\GdW r:=by
 unfold zbh at h;obtain ⟨y,l1,hy,h⟩:=zan h;obtain ⟨w1,g1,y1,Z⟩:=zaN hy hg;have E:=zif y1 Z;split at h
 ·rename_i hw;rw[hw]at E;obtain ⟨nm,l2,h2,h⟩:=zan h;obtain ⟨sl,l3,h3,h⟩:=zan h;obtain ⟨ps,l4,I,h⟩:=zan h;obtain ⟨ar,l5,X,h⟩:=zan h;obtain ⟨q,l6,h6,h⟩:=zan h;obtain ⟨en,l7,h7,h⟩:=zan h;obtain ⟨w2,g2,U,k2⟩:=zaN h2 g1;have ab:=zif U k2;obtain ⟨w3,g3,s1,k3⟩:=zaN h3 g2;have ad:=zoo s1 k3;obtain ⟨w4,g4⟩:=zk1 (c:=fun p=>(txP p).length+3) (fun _ _ _ h hg=>zkw h hg) 6 I g3;obtain ⟨w5,g5,a1,k5⟩:=zaN X g4;have has:=zlf a1 (by omega) (by omega);obtain ⟨az,sq⟩:=q;obtain ⟨_,t6,g6⟩:=zoH 8 h6 g5;obtain ⟨w7,g7,e1,k7⟩:=zaN h7 g6;have O:=zhv e1 (.inr k7);have G:=t6 [];rw[List.append_nil]at G
  cases h
  rw[znt,zk3,zkU,zaF,zad];have:zd2.length=4:=rfl;exact ⟨by dsimp only;omega,g7⟩
 cases h
theorem zk8(l:List Ru):(txRs l).length=(l.map fun r=>(txR r).length).sum:=by
 unfold txRs;rw[List.length_flatMap]
theorem zcN:∀ (n:Nat) (l:Bs) (k:Nat),wtL (za5 n l k)<=4 * l.length
 | 0,l,k=>by simp[za5,wtL]
 | n+1,[],k=>by simp[za5,wtL,wtW]
 | n+1,b :: r,k=>by
  unfold za5
  split
  ·have:=zcN n r (k+1)
   simp only[List.length_cons]
   omega
  split
  ·have h:=zcN n ((b :: r).drop (zbs zcA (b :: r))) (k+zbs zcA (b :: r))
   rw[List.length_drop]at h
   omega
  split
  ·have:=zcN n r (k+1)
   rw[zfn,List.length_cons]
   simp only[wtW]
   simp
   omega
  split
  ·have:=zcN n r (k+1)
   rw[zfn,List.length_cons]
   simp only[wtW]
   simp
   omega
  split
  ·have:=zcN n r (k+1)
   rw[zfn,List.length_cons]
   simp only[wtW]
   simp
   omega
  have h:=zcN n ((b :: r).drop (zbs za2 (b :: r))) (k+zbs za2 (b :: r))
  rw[List.length_drop]at h
  rw[zfn]
  have X:=zlq za2 (b :: r)
  have hw:wtW ⟨mkind ((b :: r).takeWhile za2),k,(b :: r).takeWhile za2,mnum ((b :: r).takeWhile za2)⟩<=4 * zbs za2 (b :: r)∨zbs za2 (b :: r)=0:=by
   by_cases E:zbs za2 (b :: r)=0
   ·exact .inr E
   left
   have hm:=(zcT ((b :: r).takeWhile za2)).1;have G:(b :: r).takeWhile za2≠[]:=fun e=>E (by unfold zbs;rw[e];rfl);unfold wtW;rw[if_neg hm,if_neg G];show ((b :: r).takeWhile za2).length+3<=_;unfold zbs at E ⊢;omega
  have I:1<=zbs za2 (b :: r):=by
   apply zdP;rename_i h1 h2 h3 O U;simp only[za2,Bool.and_eq_true,decide_eq_true_eq];simp only[not_or]at U;exact ⟨by omega,by omega,h3,O,h2⟩
  rcases hw with hw | hw
  ·omega
  omega
theorem zka{src:Bs}{rs:List Ru}{l:List Wd}(h:prR src=.ok (rs,l)):(txRs rs).length<=4 * src.length:=by
 unfold prR at h;split at h
 ·cases h
 have hg:GdW (zbd src):=(zeC src).2;obtain ⟨a,_⟩:=zk1 (c:=fun r=>(txR r).length) (fun _ _ _ h hg=>zix h hg) 16 h hg;have b:wtL (zbd src)<=4 * src.length:=by
  have:=zcN (src.length+1 - 0) (src.drop 0) 0;simpa[zbd,zaQ] using this
 rw[zk8];omega
theorem zd7(l:Bs):(wS l).size=l.length:=by simp[wS,ByteArray.size]
theorem zmU(c:Nat):(clsF c).size<=4:=by
 unfold clsF
 repeat' split
 all_goals simp[zd7]
theorem zom(c:Nat):(namF c).size<=1:=by
 unfold namF
 repeat' split
 all_goals simp[zd7]
theorem zqQ(c:Nat):(symF c).size<=3:=by
 unfold symF
 repeat' split
 all_goals simp[zd7]
theorem zqO(k:Nat):(Lib.itoa (bigF k)).length<=20:=by
 unfold bigF
 repeat' split
 all_goals decide +kernel
theorem zmH(n:Nat)(h:n<5):(Lib.itoa ((n:Int) - 1)).length<=20:=by
 have:∀ n:Fin 5,(Lib.itoa ((n.val:Int) - 1)).length<=20:=by decide +kernel
 exact this ⟨n,h⟩
theorem zkz(c:Nat):(txV (valF c)).length<=20:=by
 unfold valF;split
 ·show (bsOf (symF (c / 3 % 3))).length<=20;rw[zaF];have:=zqQ (c / 3 % 3);omega
 split
 ·exact zqO _
 exact zmH _ (Nat.mod_lt _ (by decide))
theorem zqE:(txV zvF).length=1:=by decide +kernel
def KL(K:List ByteArray):Prop:=∀ s∈K,s.size<=1
theorem KL.get{K:List ByteArray}(h:KL K)(i:Nat):(K.getD i (wS [])).size<=1:=by
 by_cases hi:i<K.length
 ·have:K.getD i (wS [])=K[i]:=by simp[List.getD,hi]
  rw[this];exact h _ (List.getElem_mem hi)
 have:K.getD i (wS [])=wS []:=by
  have:K[i]?=none:=List.getElem?_eq_none (by omega);simp[List.getD,this]
 rw[this,zd7];simp
theorem zsh(k:Nat):(opTx.getD k []).length<=2:=by
 by_cases h:k<6
 ·have:∀ k:Fin 6,(opTx.getD k.val []).length<=2:=by decide
  exact this ⟨k,h⟩
 have:opTx[k]?=none:=List.getElem?_eq_none (by simp[opTx];omega);simp[List.getD,this]
theorem zqY(k op:Int)(v:ByteArray)(u:V)(hv:v.size<=1)(E:(txV u).length<=20):(txO ⟨k,op,v,u⟩).length<=20:=by
 unfold txO;split
 ·exact E
 show (63 :: bsOf v).length<=20;rw[List.length_cons,zaF];omega
theorem zk7(op:Nat)(v:ByteArray)(u:V)(hv:v.size<=1)(E:(txV u).length<=20):(txT ⟨3,(op:Int),v,u⟩).length<=25:=by
 rw[zis];have h1:=zsh (op - 1);have h2:=zqY 3 (op:Int) v u hv E;omega
theorem zpB{K:List ByteArray}(hK:KL K)(l:Bs):(txT (zbV K l).1).length<=25/\(zbV K l).1.var.size<=1:=by
 unfold zbV;split
 ·exact ⟨by show 1<=25;omega,by show (wS []).size<=1;rw[zd7];simp⟩
 split
 ·refine ⟨?_,by show (wS []).size<=1;rw[zd7];simp⟩;show (txV (valF (nxc l.tail))).length<=25;have:=zkz (nxc l.tail);omega
 split
 ·split
  focus
   refine ⟨?_,hK.get _⟩;have:=zk7 (1+nxc l / 8 % 6) (K.getD (nxc l.tail % K.length) (wS [])) zvF (hK.get _) (by rw[zqE];omega)
  rotate_left
  focus
   refine ⟨?_,by show (wS []).size<=1;rw[zd7];simp⟩;have:=zk7 (1+nxc l / 8 % 6) (wS []) (valF (nxc l.tail)) (by rw[zd7];simp) (zkz _)
  rotate_left
  all_goals
   rw[show ((1+nxc l / 8 % 6:Nat):Int)=1+((nxc l / 8 % 6:Nat):Int) by omega]at this;exact this
 refine ⟨?_,zom _⟩;show (63 :: bsOf (namF (nxc l / 8))).length<=25;rw[List.length_cons,zaF];have:=zom (nxc l / 8);omega
theorem zjm:∀ (n:Nat) {K:List ByteArray} (_:KL K) (l:Bs),(txTs (zdd n K l).1).length<=26 * n/\KL (zdd n K l).2.1
 | 0,K,hK,l=>⟨by simp[zdd,txTs],hK⟩
 | n+1,K,hK,l=>by
  obtain ⟨h1,h2⟩:=zpB hK l
  have E:KL (if (zbV K l).1.kind==2 then K ++ [(zbV K l).1.var] else K):=by
   split
   ·intro s hs;rcases List.mem_append.1 hs with hs | hs
    ·exact hK s hs
    simp at hs;exact hs ▸ h2
   exact hK
  obtain ⟨h3,G⟩:=zjm n E (zbV K l).2;refine ⟨?_,G⟩;rw[zi0]at h3 ⊢;simp only[zdd,List.map_cons,List.sum_cons];omega
theorem zqp(c:Nat):patC c<=3:=by
 unfold patC
 repeat' split
 all_goals omega
theorem zqI{K:List ByteArray}(hK:KL K)(pos m:Nat)(l:Bs):(txP (patF K pos m l).1).length<=88/\KL (patF K pos m l).2.1:=by
 obtain ⟨h1,h2⟩:=zjm (patC (nxc l)) hK l.tail;have h3:=zqp (nxc l);have I:=zmU (nxc l);have E:∀ neg:Bool,(40 :: ((if neg then notX ++ [32] else []) ++ (bsOf (clsF (nxc l)) ++ (txTs (zdd (patC (nxc l)) K l.tail).1 ++ [41])))).length<=88:=fun neg=>by
  cases neg <;> simp[notX,zaF] <;> omega
 have G:∀ neg:Bool,KL (if neg then K else (zdd (patC (nxc l)) K l.tail).2.1):=fun neg=>by
  cases neg
  ·exact h2
  exact hK
 exact ⟨E _,G _⟩
theorem zkV:∀ (f n0:Nat) {K:List ByteArray} (_:KL K) (pos m:Nat) (l:Bs),(txPs (zd4 f n0 K pos m l).1).length<=91 * f/\KL (zd4 f n0 K pos m l).2.1
 | 0,n0,K,hK,pos,m,l=>⟨by simp[zd4,txPs],hK⟩
 | f+1,n0,K,hK,pos,m,l=>by
  unfold zd4
  split
  ·obtain ⟨h1,h2⟩:=zqI hK pos m l
   obtain ⟨h3,E⟩:=zkV f n0 h2 (if (patF K pos m l).1.neg then pos else pos+1) (m+1) (patF K pos m l).2.2
   refine ⟨?_,E⟩
   rw[zk3]at h3 ⊢
   simp only[List.map_cons,List.sum_cons]
   omega
  exact ⟨by simp[txPs],hK⟩
def bE:Nat->Nat
 | 0=>20
 | d+1=>2 * bE d+5
theorem zr0:∀ d,20<=bE d
 | 0=>Nat.le_refl _
 | d+1=>by have:=zr0 d;simp only[bE];omega
theorem zpx(n:Nat)(es E:List Ex)(c:Nat):(txE n (es ++ [⟨0,0,wS [],valF c,0,0⟩] ++ E) es.length).length<=20:=Nat.le_trans (ziM n es E (valF c)) (zkz c)
theorem zoR(n:Nat)(es E:List Ex)(s:ByteArray)(hs:s.size<=1):(txE n (es ++ [⟨1,0,s,zvF,0,0⟩] ++ E) es.length).length<=20:=by
 cases n with
 | zero=>simp[txE]
 | succ n=>
  have:(es ++ [(⟨1,0,s,zvF,0,0⟩:Ex)] ++ E)[es.length]?=some ⟨1,0,s,zvF,0,0⟩:=by simp
  rw[txE,this];simp[zaF];omega
theorem zpF:∀ (d:Nat) {K:List ByteArray} (_:KL K) (es:List Ex) (l:Bs),(∃ m,(zaP d K es l).1=es ++ m/\1<=m.length)/\∀ G n,(txE n ((zaP d K es l).1 ++ G) ((zaP d K es l).1.length - 1)).length<=bE d:=by
 have base:∀ (d:Nat) {K:List ByteArray} (_:KL K) (es:List Ex) (l:Bs),∀ E:List Ex × Bs,E=(if nxc l % 5=0/\0<K.length then (es ++ [⟨1,0,K.getD (nxc l / 5 % K.length) (wS []),zvF,0,0⟩],l.tail) else (es ++ [⟨0,0,wS [],valF (nxc l.tail),0,0⟩],l.tail.tail))->(∃ m,E.1=es ++ m/\1<=m.length)/\∀ G n,(txE n (E.1 ++ G) (E.1.length - 1)).length<=bE d:=by
  intro d K hK es l E hE;have hb:=zr0 d;split at hE
  ·subst hE;exact ⟨⟨_,rfl,by simp⟩,fun G n=>by have:=zoR n es G _ (hK.get (nxc l / 5 % K.length));simp only[List.length_append,List.length_singleton,Nat.add_sub_cancel];omega⟩
  subst hE;exact ⟨⟨_,rfl,by simp⟩,fun G n=>by have:=zpx n es G (nxc l.tail);simp only[List.length_append,List.length_singleton,Nat.add_sub_cancel];omega⟩
 intro d
 induction d with
 | zero=>exact fun hK es l=>base 0 hK es l _ (by rw[zaP])
 | succ d O=>
  intro K hK es l;by_cases I:2<nxc l % 5/\es.length<52
  ·obtain ⟨⟨X,e1,n1⟩,Z⟩:=O hK es l.tail;obtain ⟨⟨U,e2,n2⟩,t2⟩:=O hK (zaP d K es l.tail).1 (zaP d K es l.tail).2;have he:zaP (d+1) K es l=((zaP d K (zaP d K es l.tail).1 (zaP d K es l.tail).2).1 ++ [⟨2,arF (nxc l / 5 % 5),wS [],zvF,((zaP d K es l.tail).1.length:Int) - 1,((zaP d K (zaP d K es l.tail).1 (zaP d K es l.tail).2).1.length:Int) - 1⟩],(zaP d K (zaP d K es l.tail).1 (zaP d K es l.tail).2).2):=by
    simp only[zaP];rw[if_pos I]
   obtain ⟨E,hE⟩:∃ E:Ex,E=⟨2,arF (nxc l / 5 % 5),wS [],zvF,((zaP d K es l.tail).1.length:Int) - 1,((zaP d K (zaP d K es l.tail).1 (zaP d K es l.tail).2).1.length:Int) - 1⟩:=⟨_,rfl⟩
   rw[<- hE]at he;rw[he];refine ⟨⟨X ++ U ++ [E],by show _ ++ [E]=_;rw[e2,e1];simp only[List.append_assoc],by simp;omega⟩,fun G n=>?_⟩;simp only[List.length_append,List.length_singleton,Nat.add_sub_cancel];rw[hE];have hl:=zp8 n (zaP d K (zaP d K es l.tail).1 (zaP d K es l.tail).2).1 G (arF (nxc l / 5 % 5)) (((zaP d K es l.tail).1.length:Int) - 1) (((zaP d K (zaP d K es l.tail).1 (zaP d K es l.tail).2).1.length:Int) - 1) zvF;have a:=Z (U ++ [⟨2,arF (nxc l / 5 % 5),wS [],zvF,((zaP d K es l.tail).1.length:Int) - 1,((zaP d K (zaP d K es l.tail).1 (zaP d K es l.tail).2).1.length:Int) - 1⟩] ++ G) (n - 1);have b:=t2 ([⟨2,arF (nxc l / 5 % 5),wS [],zvF,((zaP d K es l.tail).1.length:Int) - 1,((zaP d K (zaP d K es l.tail).1 (zaP d K es l.tail).2).1.length:Int) - 1⟩] ++ G) (n - 1);rw[<- List.append_assoc]at b;rw[<- List.append_assoc,<- List.append_assoc,<- e2]at a;have i1:(((zaP d K es l.tail).1.length:Int) - 1).toNat=(zaP d K es l.tail).1.length - 1:=by omega
   have i2:(((zaP d K (zaP d K es l.tail).1 (zaP d K es l.tail).2).1.length:Int) - 1).toNat=(zaP d K (zaP d K es l.tail).1 (zaP d K es l.tail).2).1.length - 1:=by omega
   rw[i1,i2,show mkS []=wS [] from rfl]at hl;simp only[bE];exact Nat.le_trans hl (by omega)
  exact base (d+1) hK es l _ (by rw[zaP,if_neg I])
theorem zkT:∀ (n:Nat) {K:List ByteArray} (_:KL K) (es:List Ex) (l:Bs),(∃ m,(zeN n K es l).2.1=es ++ m)/\∀ E k,((zeN n K es l).1.map fun z=>(txE k ((zeN n K es l).2.1 ++ E) z.toNat).length+1).sum<=96 * n
 | 0,K,hK,es,l=>⟨⟨[],by simp[zeN]⟩,fun E k=>by simp[zeN]⟩
 | n+1,K,hK,es,l=>by
  obtain ⟨⟨I,e1,_⟩,O⟩:=zpF 2 hK es l
  obtain ⟨⟨G,e2⟩,t2⟩:=zkT n hK (zaP 2 K es l).1 (zaP 2 K es l).2
  simp only[zeN]
  refine ⟨⟨I ++ G,by rw[e2,e1];simp only[List.append_assoc]⟩,fun E k=>?_⟩
  have a:=O (G ++ E) k
  have b:=t2 E k
  rw[<- List.append_assoc,<- e2]at a
  have i1:(((zaP 2 K es l).1.length:Int) - 1).toNat=(zaP 2 K es l).1.length - 1:=by omega
  rw[List.map_cons,List.sum_cons,i1]
  have:bE 2=95:=rfl
  omega
theorem zqH(c:Nat):argC c<=3:=by
 unfold argC
 repeat' split
 all_goals omega
theorem zlN{K:List ByteArray}(hK:KL K)(es:List Ex)(l:Bs):(∃ m,(zcm K es l).2.1=es ++ m)/\∀ E,(zaG ((zcm K es l).2.1 ++ E) (zcm K es l).1).length<=288:=by
 obtain ⟨h1,h2⟩:=zkT (argC (nxc l)) hK es l.tail;have h3:=zqH (nxc l);refine ⟨h1,fun E=>?_⟩;have:=h2 E 60;rw[zfI];exact Nat.le_trans this (by omega)
theorem zrf(c pos:Nat)(E:c<256):(Lib.itoa (1+((c / 8 % pos:Nat):Int))).length<=21:=by
 have h1:c / 8 % pos<=c / 8:=Nat.mod_le _ _;exact Lib.itoa_length_le _ (by omega) (by omega)
theorem zqR{K:List ByteArray}(hK:KL K)(pos:Nat)(es:List Ex)(l:Bs):(∃ m,(zc2 K pos es l).2.1=es ++ m)/\∀ E,(txA ((zc2 K pos es l).2.1 ++ E) (zc2 K pos es l).1).length<=315:=by
 have hn:=zrN l;have hr:=zrf (nxc l) pos hn;obtain ⟨h1,h2⟩:=zlN hK es l.tail;have I:=zmU (nxc l / 8);by_cases G:nxc l % 8=0∨nxc l % 8=1∨nxc l % 8=2
 ·rw[zod (pos:=pos) (xs:=es) (K:=K) rfl G rfl ⟨rfl,rfl⟩];refine ⟨h1,fun E=>?_⟩;have:=h2 E;rw[zed];have:(zbe ⟨1,0,clsF (nxc l / 8),(zcm K es l.tail).1⟩).length<=8:=by
   show (addB ++ 32 :: bsOf (clsF (nxc l / 8))).length<=8;simp[addB,zaF];omega
  dsimp only;omega
 by_cases c2:nxc l % 8=3∨nxc l % 8=4
 ·rw[zk5 (pos:=pos) (xs:=es) (K:=K) rfl c2 rfl];refine ⟨⟨[],by simp⟩,fun E=>?_⟩;rw[zed];have:(zbe ⟨2,1+((nxc l / 8 % pos:Nat):Int),⟨#[]⟩,[]⟩).length<=26:=by
   show (zeO ++ 32 :: Lib.itoa (1+((nxc l / 8 % pos:Nat):Int))).length<=26;simp only[List.length_append,List.length_cons,zeO,List.length_nil];omega
  simp only[zaG,List.flatMap_nil,List.length_nil];omega
 by_cases c3:nxc l % 8=5∨nxc l % 8=6
 ·rw[zm5 (pos:=pos) (xs:=es) (K:=K) rfl c3 rfl ⟨rfl,rfl⟩];refine ⟨h1,fun E=>?_⟩;have:=h2 E;rw[zed];have:(zbe ⟨3,1+((nxc l / 8 % pos:Nat):Int),⟨#[]⟩,(zcm K es l.tail).1⟩).length<=25:=by
   show (modB ++ 32 :: Lib.itoa (1+((nxc l / 8 % pos:Nat):Int))).length<=25;simp only[List.length_append,List.length_cons,modB,List.length_nil];omega
  dsimp only;omega
 rw[zkS (pos:=pos) (xs:=es) (K:=K) rfl (by omega)];refine ⟨⟨[],by simp⟩,fun E=>?_⟩;rw[zed];have:(zbe ⟨4,0,⟨#[]⟩,[]⟩).length=4:=rfl;simp only[zaG,List.flatMap_nil,List.length_nil];omega
theorem zlE:∀ (n:Nat) {K:List ByteArray} (_:KL K) (pos:Nat) (es:List Ex) (l:Bs),(∃ m,(zeR n K pos es l).2.1=es ++ m)/\∀ E,(txAs ((zeR n K pos es l).2.1 ++ E) (zeR n K pos es l).1).length<=318 * n
 | 0,K,hK,pos,es,l=>⟨⟨[],by simp[zeR]⟩,fun E=>by simp[zeR,txAs]⟩
 | n+1,K,hK,pos,es,l=>by
  obtain ⟨⟨I,e1⟩,O⟩:=zqR hK pos es l
  obtain ⟨⟨G,e2⟩,t2⟩:=zlE n hK pos (zc2 K pos es l).2.1 (zc2 K pos es l).2.2
  simp only[zeR]
  refine ⟨⟨I ++ G,by rw[e2,e1];simp only[List.append_assoc]⟩,fun E=>?_⟩
  have a:=O (G ++ E)
  have b:=t2 E
  rw[<- List.append_assoc,<- e2]at a
  rw[zkU]at b ⊢
  rw[List.map_cons,List.sum_cons]
  omega
theorem zqP(c:Nat):(Lib.itoa (salF c)).length<=20:=by
 unfold salF;split
 ·decide +kernel
 have:∀ n:Fin 5,(Lib.itoa ((n.val:Int) - 2)).length<=20:=by decide +kernel
 exact this ⟨c % 5,Nat.mod_lt _ (by decide)⟩
theorem zpu(nm:ByteArray)(hn:nm.size<=2)(l:Bs):(txR (zgo nm l).1).length<=1630:=by
 obtain ⟨h1,h2⟩:=zkV 7 (1+nxc l / 5 % 4) (K:=[]) (fun s hs=>by simp at hs) 0 0 l.tail;obtain ⟨_,h3⟩:=zlE (1+nxc (zd4 7 (1+nxc l / 5 % 4) [] 0 0 l.tail).2.2.2 % 3) h2 (zd4 7 (1+nxc l / 5 % 4) [] 0 0 l.tail).2.2.1 [] (zd4 7 (1+nxc l / 5 % 4) [] 0 0 l.tail).2.2.2.tail;have E:=h3 [];have G:=zqP (nxc l);rw[List.append_nil]at E;rw[znt];unfold zgo;dsimp only;rw[zaF];omega
theorem zi8(nm:Nat->ByteArray)(hn:∀ k,(nm k).size<=2):∀ (n k:Nat) (l:Bs),(txRs (zdA nm n k l).1).length<=1630 * n
 | 0,k,l=>by simp[zdA,txRs]
 | n+1,k,l=>by
  have a:=zpu (nm k) (hn k) l
  have b:=zi8 nm hn n (k+1) (zgo (nm k) l).2
  rw[zk8]at b ⊢
  simp only[zdA,List.map_cons,List.sum_cons]
  omega
theorem zjK(B:Bs):(txRs (zb7 nmK 3 B).1).length<=4890:=by
 have h:=zi8 nmK (fun k=>Nat.le_refl 2) (1+nxc B % 3) 0 B.tail;have h3:=Nat.mod_lt (nxc B) (show 0<3 by omega);have e:(txRs (zb7 nmK 3 B).1).length=(txRs (zdA nmK (1+nxc B % 3) 0 B.tail).1).length:=rfl;rw[e];omega
theorem zrM(B:Bs):(dpF B).length<=4934:=by
 unfold dpF;split
 ·have:=zgA (19+nxc B.tail % 3);unfold ziV;rw[List.length_append,List.length_append,this];have:zlr.length=27:=rfl;simp only[List.length_cons,List.length_nil];omega
 split
 ·have h:zf7.length=13:=rfl;rw[zhd,h,List.length_nil];omega
 split
 ·have h:addA.length=29:=rfl;have h2:zeT.length=16:=rfl;rw[List.length_append,zhd,h,h2,List.length_cons,List.length_nil];omega
 have h1:=zik (zdE (txRs (zb7 nmK 3 B.tail).1) (zb7 nmK 3 B.tail).2).1 (zdE (txRs (zb7 nmK 3 B.tail).1) (zb7 nmK 3 B.tail).2).2;have h2:=zik (txRs (zb7 nmK 3 B.tail).1) (zb7 nmK 3 B.tail).2;have h3:=zjK B.tail;omega
theorem Leaf.mono{K E:List ByteArray}{e:Ex}(h:Leaf K e)(hK:∀ s∈K,s∈E):Leaf E e:=by
 rcases h with h | ⟨s,hs,e⟩
 ·exact .inl h
 exact .inr ⟨s,hK s hs,e⟩
theorem Tree.mono{K E:List ByteArray}(hK:∀ s∈K,s∈E):∀ {d n:Nat}{ys:List Ex},Tree K d n ys->Tree E d n ys
 | 0,n,ys,h=>by
  obtain ⟨e,h1,h2⟩:=h
  exact ⟨e,h1,h2.mono hK⟩
 | d+1,n,ys,h=>by
  rcases h with ⟨e,h1,h2⟩ | ⟨A,B,op,ho,G,hB,e⟩
  ·exact .inl ⟨e,h1,h2.mono hK⟩
  exact .inr ⟨A,B,op,ho,Tree.mono hK G,Tree.mono hK hB,e⟩
theorem zsE{x:Wd}(hx:WdOk x)(h:pkW x=43):isAr (((ptW x).headD 0).toNat:Int)=true:=by
 obtain ⟨h1,h2,_,_⟩:=zdM hx (by omega) (by omega);rw[h1]at h;have hm:ptW x∈arTx:=by
  rw[h2];unfold pkind at h;unfold ptext;split
  ·rename_i hn;rw[if_pos hn]at h;omega
  rename_i hn;rw[if_neg hn]at h;split
  ·rename_i hs;rw[if_pos hs]at h;omega
  rename_i hs;rw[if_neg hs]at h;split
  ·rename_i hv;rw[if_pos hv]at h;omega
  rename_i hv;rw[if_neg hv]at h;split
  ·rename_i ht;rw[if_pos ht]at h;omega
  rename_i ht;rw[if_neg ht]at h;split
  ·assumption
  rename_i ha;rw[if_neg ha]at h
  repeat' split at h
  all_goals omega
 have:∀ t∈arTx,isAr ((t.headD 0).toNat:Int)=true:=by decide
 exact this _ hm
theorem zmq:∀ (f:Nat) {s s1:ES}{l r:List Wd}{i:Int},zaw f s l=.ok ((i,s1),r)->GdW l->∃ ys K,s1.1=s.1 ++ ys/\Tree K f s.1.length ys/\(∀ s∈K,gSym s.data.toList=true)/\i=((s.1.length+ys.length:Nat):Int) - 1:=by
 intro f
 induction f with
 | zero=>
  intro s s1 l r i h hg;unfold zaw at h
  cases hb:zaW (s.2:Int) 60 l with
  | error e=>rw[hb]at h;cases h
  | ok q=>
   rw[hb]at h;simp only at h
   cases hn:zaj l with
   | error e=>rw[hn]at h;cases h
   | ok q=>
    obtain ⟨x,l1⟩:=q;rw[hn]at h;simp only at h;obtain ⟨w1,g1,x1,_⟩:=zby hn hg;split at h
    ·rename_i hk;have hv:=zk0 x1 hk
     cases h
     exact ⟨_,[],rfl,Tree.leaf (.inl ⟨_,hv,rfl⟩),by simp,by simp⟩
    ·split at h
     ·rename_i hk;have hv:=zlD x1 hk
      cases h
      exact ⟨_,[mkS (ptW x)],rfl,Tree.leaf (.inr ⟨_,by simp,rfl⟩),by simp[zdi,hv],by simp⟩
     ·split at h <;> cases h
 | succ f ih=>
  intro s s1 l r i h hg;unfold zaw at h
  cases hb:zaW (s.2:Int) 60 l with
  | error e=>rw[hb]at h;cases h
  | ok q=>
   rw[hb]at h;simp only at h
   cases hn:zaj l with
   | error e=>rw[hn]at h;cases h
   | ok q=>
    obtain ⟨x,l1⟩:=q;rw[hn]at h;simp only at h;obtain ⟨w1,g1,x1,_⟩:=zby hn hg;split at h
    ·rename_i hk;have hv:=zk0 x1 hk
     cases h
     exact ⟨_,[],rfl,Tree.leaf (.inl ⟨_,hv,rfl⟩),by simp,by simp⟩
    split at h
    ·rename_i hk;have hv:=zlD x1 hk
     cases h
     exact ⟨_,[mkS (ptW x)],rfl,Tree.leaf (.inr ⟨_,by simp,rfl⟩),by simp[zdi,hv],by simp⟩
    split at h
    ·rename_i hk
     cases ho:zai 43 l1 with
     | error e=>rw[ho]at h;cases h
     | ok q=>
      obtain ⟨o,l2⟩:=q;rw[ho]at h;simp only at h;obtain ⟨w2,g2,o1,k2⟩:=zaN ho g1;have U:=zsE o1 k2
      cases ha:zaw f (s.1,s.2+1) l2 with
      | error e=>rw[ha]at h;cases h
      | ok q=>
       obtain ⟨⟨X,sa⟩,l3⟩:=q;rw[ha]at h;simp only at h;obtain ⟨A,KA,e1,tA,kA,iA⟩:=ih ha g2;obtain ⟨_,_,g3⟩:=zfs f ha g2
       cases O:zaw f sa l3 with
       | error e=>rw[O]at h;cases h
       | ok q=>
        obtain ⟨⟨ib,sb⟩,l4⟩:=q;rw[O]at h;simp only at h;obtain ⟨B,KB,e2,Z,kB,iB⟩:=ih O g3
        cases hd:zai 41 l4 with
        | error e=>rw[hd]at h;cases h
        | ok q=>
         obtain ⟨y,l5⟩:=q;rw[hd]at h;simp only at h;have e1':sa.1=s.1 ++ A:=e1;have I:X=((s.1.length+A.length:Nat):Int) - 1:=iA;have G:Tree KA f s.1.length A:=tA;have E:sa.1.length=s.1.length+A.length:=by rw[e1',List.length_append]
         rw[E]at Z iB
         cases h
         refine ⟨A ++ (B ++ [opE (((ptW o).headD 0).toNat:Int) X ib]),KA ++ KB,?_,?_,?_,?_⟩
         ·simp only[e2,e1',List.append_assoc];rfl
         ·exact .inr ⟨A,B,_,U,G.mono (fun s hs=>by simp[hs]),Z.mono (fun s hs=>by simp[hs]),by rw[I,iB]⟩
         ·intro t ht;rcases List.mem_append.1 ht with ht | ht
          ·exact kA t ht
          exact kB t ht
         ·simp only[List.length_append,List.length_cons,List.length_nil,e2,E];omega
    cases h
def zen(K:List ByteArray):Nat->List Ex->List Int->Prop
 | _,ys,[]=>ys=[]
 | n,ys,x :: r=>∃ A B,ys=A ++ B/\Tree K 20 n A/\x=((n+A.length:Nat):Int) - 1/\zen K (n+A.length) B r
theorem zen.mono{K G:List ByteArray}(hK:∀ s∈K,s∈G):∀ {E:List Int}{n:Nat}{ys:List Ex},zen K n ys E->zen G n ys E
 | [],n,ys,h=>h
 | x :: r,n,ys,h=>by
  obtain ⟨A,C,e,I,hx,O⟩:=h
  exact ⟨A,C,e,I.mono hK,hx,zen.mono hK O⟩
theorem zen.spans{K:List ByteArray}(hK:∀ s∈K,gSym s.data.toList=true):∀ {X:List Int}{n:Nat}{ys:List Ex},zen K n ys X->∀ (S:List Sp),S.length=n ->
  ∃ T,T.length=ys.length/\(∀ r,zat S (ys ++ r)=zat (S ++ T) r)/\∀ U,zaT (S ++ T ++ U) X n=some (n+ys.length)
 | [],n,ys,h,S,hS=>by
  have h:ys=[]:=h
  subst h
  exact ⟨[],rfl,by simp,fun U=>rfl⟩
 | x :: r,n,ys,h,S,hS=>by
  obtain ⟨A,C,rfl,Z,hx,hC⟩:=h
  obtain ⟨E,m,hl,_,hg⟩:=Z.spans hK (Nat.le_refl 20) S hS
  obtain ⟨T,hT,O,hU⟩:=zen.spans hK hC (S ++ E ++ [(n,m)]) (by simp;omega)
  refine ⟨E ++ [(n,m)] ++ T,by simp;omega,fun q=>?_,fun U=>?_⟩
  ·rw[List.append_assoc,hg,O]
   simp only[List.append_assoc]
  have hp:=Z.pos
  have ab:x.toNat=n+A.length - 1:=by omega
  have e1:S ++ (E ++ [(n,m)] ++ T) ++ U=S ++ E ++ [(n,m)] ++ (T ++ U):=by simp
  have e2:S ++ (E ++ [(n,m)] ++ T) ++ U=S ++ E ++ [(n,m)] ++ T ++ U:=by simp
  have I:(S ++ (E ++ [(n,m)] ++ T) ++ U)[x.toNat]?=some (n,m):=by
   rw[e1,List.getElem?_append_left (by simp;omega)];exact zgu _ _ _ (by simp;omega)
  have G:x<((S ++ (E ++ [(n,m)] ++ T) ++ U).length:Int):=by simp;omega
  have:=hU U;rw[<- e2]at this;unfold zaT;rw[I,if_pos (by simp only[Option.getD_some,Bool.and_eq_true,decide_eq_true_eq];exact ⟨by omega,G,trivial⟩),show x.toNat+1=n+A.length by omega,this];simp;omega
def zhl(K:List ByteArray):Nat->List Ex->List Ac->Prop
 | _,ys,[]=>ys=[]
 | n,ys,a :: r=>∃ A B,ys=A ++ B/\zen K n A a.args/\(zav a=true/\a.args.length<=6)/\zhl K (n+A.length) B r
theorem zhl.mono{K G:List ByteArray}(hK:∀ s∈K,s∈G):∀ {E:List Ac}{n:Nat}{ys:List Ex},zhl K n ys E->zhl G n ys E
 | [],n,ys,h=>h
 | x :: r,n,ys,h=>by
  obtain ⟨A,C,e,I,hx,O⟩:=h
  exact ⟨A,C,e,I.mono hK,hx,zhl.mono hK O⟩
theorem zhl.spans{K:List ByteArray}(hK:∀ s∈K,gSym s.data.toList=true):∀ {I:List Ac}{n:Nat}{ys:List Ex},zhl K n ys I->∀ (S:List Sp),S.length=n ->
  ∃ T,T.length=ys.length/\zat S ys=S ++ T/\∀ k,zbP (S ++ T) I n k=none
 | [],n,ys,h,S,hS=>by
  have h:ys=[]:=h
  subst h
  exact ⟨[],rfl,by simp[zat],fun k=>by simp[zbP,hS]⟩
 | x :: r,n,ys,h,S,hS=>by
  obtain ⟨A,C,rfl,U,hx,O⟩:=h
  obtain ⟨E,hl,hg,X⟩:=U.spans hK S hS
  obtain ⟨T,Z,G,hk⟩:=zhl.spans hK O (S ++ E) (by simp;omega)
  refine ⟨E ++ T,by simp;omega,?_,fun k=>?_⟩
  ·rw[hg,G,List.append_assoc]
  rw[<- List.append_assoc]
  have:gAc (S ++ E ++ T) x n=some (n+A.length):=by
   unfold gAc;rw[if_pos (by simp only[Bool.and_eq_true,decide_eq_true_eq];exact ⟨hx.1,hx.2⟩)];exact X T
  simp only[zbP,this];exact hk (k+1)
theorem zid:∀ (n:Nat) {s s1:ES}{l r:List Wd}{zs:List Int},zaB (zaw 20) n s l=.ok ((zs,s1),r)->GdW l->∃ ys K,s1.1=s.1 ++ ys/\zen K s.1.length ys zs/\(∀ s∈K,gSym s.data.toList=true)/\zs.length<=n:=by
 intro n
 induction n with
 | zero=>
  intro s s1 l r zs h hg;unfold zaB at h
  cases hn:zaj l with
  | error e=>rw[hn]at h;cases h
  | ok q=>
   obtain ⟨x,t⟩:=q;rw[hn]at h;simp only at h;split at h
   ·cases h
    exact ⟨[],[],by simp,rfl,by simp,by simp⟩
   ·split at h <;> cases h
 | succ n Z=>
  intro s s1 l r zs h hg;unfold zaB at h
  cases hn:zaj l with
  | error e=>rw[hn]at h;cases h
  | ok q=>
   obtain ⟨x,t⟩:=q;rw[hn]at h;simp only at h;split at h
   ·cases h
    exact ⟨[],[],by simp,rfl,by simp,by simp⟩
   cases hr:zaw 20 s l with
   | error e=>rw[hr]at h;cases h
   | ok q=>
    obtain ⟨⟨v,I⟩,l1⟩:=q;rw[hr]at h;simp only at h;obtain ⟨_,_,g2⟩:=zfs 20 hr hg;obtain ⟨A,X,e1,O,U,iA⟩:=zmq 20 hr hg
    cases hp:zaB (zaw 20) n I l1 with
    | error e=>rw[hp]at h;cases h
    | ok q=>
     obtain ⟨⟨us,su⟩,l2⟩:=q;rw[hp]at h;simp only at h;obtain ⟨B,KB,e2,G,kB,hu⟩:=Z hp g2;have E:I.1.length=s.1.length+A.length:=by rw[e1,List.length_append]
     rw[E]at G
     cases h
     refine ⟨A ++ B,X ++ KB,by simp only[e2,e1,List.append_assoc],⟨A,B,rfl,O.mono (fun s hs=>by simp[hs]),iA,G.mono (fun s hs=>by simp[hs])⟩,?_,by simp;omega⟩;intro t ht;rcases List.mem_append.1 ht with ht | ht
     ·exact U t ht
     exact kB t ht
theorem zst(n:Int):kOk (zde n)=true:=by
 unfold zde kOk;split
 ·decide
 simp only[Bool.and_eq_true,decide_eq_true_eq];omega
theorem zn5{l r:List Wd}{k:Int}(h:pRef l=.ok (k,r)):kOk k=true:=by
 unfold pRef at h;obtain ⟨x,l1,hx,h⟩:=zan h
 cases h
 exact zst _
theorem znj{s s1:ES}{l r:List Wd}{a:Ac}(h:pAct s l=.ok ((a,s1),r))(hg:GdW l):∃ ys K,s1.1=s.1 ++ ys/\zen K s.1.length ys a.args/\(∀ s∈K,gSym s.data.toList=true)/\zav a=true/\a.args.length<=6:=by
 unfold pAct at h;obtain ⟨x,l1,hx,h⟩:=zan h;obtain ⟨X,g1,x1,U⟩:=zaN hx hg;split at h
 ·unfold zd8 at h;obtain ⟨y,l2,hy,h⟩:=zan h
  cases h
  exact ⟨[],[],by simp,rfl,by simp,by simp[zav,zdN],by simp⟩
 split at h
 ·unfold aMod at h;obtain ⟨k,l2,hk,h⟩:=zan h;obtain ⟨p,l3,hp,h⟩:=zan h;obtain ⟨Z,g2⟩:=ziZ hk g1;have E:=zn5 hk;obtain ⟨zs,sp⟩:=p;obtain ⟨ys,K,e,t,I,hz⟩:=zid 6 hp g2
  cases h
  exact ⟨ys,K,e,t,I,by simp[zav,zdN,E],hz⟩
 split at h
 ·unfold zds at h;obtain ⟨k,l2,hk,h⟩:=zan h;obtain ⟨y,l3,hy,h⟩:=zan h;have E:=zn5 hk
  cases h
  exact ⟨[],[],by simp,rfl,by simp,by simp[zav,zdN,E],by simp⟩
 split at h
 ·unfold aAdd at h;obtain ⟨c,l2,O,h⟩:=zan h;obtain ⟨p,l3,hp,h⟩:=zan h;obtain ⟨G,g2⟩:=zfv O g1;obtain ⟨zs,sp⟩:=p;obtain ⟨ys,K,e,t,I,hz⟩:=zid 6 hp g2
  cases h
  exact ⟨ys,K,e,t,I,by simp[zav,G],hz⟩
 cases h
theorem zmp:∀ (n:Nat) {s s1:ES}{l r:List Wd}{E:List Ac},zaK 41 pAct n s l=.ok ((E,s1),r)->GdW l->∃ ys K,s1.1=s.1 ++ ys/\zhl K s.1.length ys E/\(∀ s∈K,gSym s.data.toList=true)/\E.length<=n:=by
 intro n
 induction n with
 | zero=>
  intro s s1 l r E h hg;unfold zaK at h
  cases hn:zaj l with
  | error e=>rw[hn]at h;cases h
  | ok q=>
   obtain ⟨x,t⟩:=q;rw[hn]at h;simp only at h;split at h
   ·cases h
    exact ⟨[],[],by simp,rfl,by simp,by simp⟩
   ·split at h <;> cases h
 | succ n ih=>
  intro s s1 l r E h hg;unfold zaK at h
  cases hn:zaj l with
  | error e=>rw[hn]at h;cases h
  | ok q=>
   obtain ⟨x,t⟩:=q;rw[hn]at h;simp only at h;split at h
   ·cases h
    exact ⟨[],[],by simp,rfl,by simp,by simp⟩
   cases ht:zai 40 l with
   | error e=>rw[ht]at h;cases h
   | ok q=>
    obtain ⟨y,l1⟩:=q;rw[ht]at h;simp only at h;obtain ⟨w1,g1,y1,k1⟩:=zaN ht hg
    cases hr:pAct s l1 with
    | error e=>rw[hr]at h;cases h
    | ok q=>
     obtain ⟨⟨v,O⟩,l2⟩:=q;rw[hr]at h;simp only at h;obtain ⟨_,_,g2⟩:=zky hr g1;obtain ⟨A,KA,e1,U,X,Z⟩:=znj hr g1
     cases hp:zaK 41 pAct n O l2 with
     | error e=>rw[hp]at h;cases h
     | ok q=>
      obtain ⟨⟨us,su⟩,l3⟩:=q;rw[hp]at h;simp only at h;obtain ⟨B,KB,e2,I,kB,hu⟩:=ih hp g2;have G:O.1.length=s.1.length+A.length:=by rw[e1,List.length_append]
      rw[G]at I
      cases h
      refine ⟨A ++ B,KA ++ KB,by simp only[e2,e1,List.append_assoc],⟨A,B,rfl,U.mono (fun s hs=>by simp[hs]),Z,I.mono (fun s hs=>by simp[hs])⟩,?_,by simp;omega⟩;intro t ht;rcases List.mem_append.1 ht with ht | ht
      ·exact X t ht
      exact kB t ht
theorem ze8{n:Nat}{l l1:List Wd}{x:Wd}{q:Unit × List Wd}(hb:zaW (n:Int) 60 l=.ok q)(hn:zaj l=.ok (x,l1))(h1:pkW x≠41)(E:pkW x≠0):n<60:=by
 unfold zaW at hb;rw[hn]at hb;simp only at hb;split at hb
 ·cases hb
 rename_i h;apply Classical.byContradiction;intro G;exact h ⟨by omega,h1,E⟩
theorem zof:∀ (f:Nat) {s s1:ES}{l r:List Wd}{i:Int},zaw f s l=.ok ((i,s1),r)->s1.2+s.1.length=s.2+s1.1.length/\s1.2<=60:=by
 intro f
 induction f with
 | zero=>
  intro s s1 l r i h;unfold zaw at h
  cases hb:zaW (s.2:Int) 60 l with
  | error e=>rw[hb]at h;cases h
  | ok q=>
   rw[hb]at h;simp only at h
   cases hn:zaj l with
   | error e=>rw[hn]at h;cases h
   | ok q=>
    obtain ⟨x,l1⟩:=q;rw[hn]at h;simp only at h;split at h
    ·rename_i hk;have:=ze8 hb hn (by omega) (by omega)
     cases h
     exact ⟨by simp;omega,by simp;omega⟩
    ·split at h
     ·rename_i hk;have:=ze8 hb hn (by omega) (by omega)
      cases h
      exact ⟨by simp;omega,by simp;omega⟩
     ·split at h <;> cases h
 | succ f G=>
  intro s s1 l r i h;unfold zaw at h
  cases hb:zaW (s.2:Int) 60 l with
  | error e=>rw[hb]at h;cases h
  | ok q=>
   rw[hb]at h;simp only at h
   cases hn:zaj l with
   | error e=>rw[hn]at h;cases h
   | ok q=>
    obtain ⟨x,l1⟩:=q;rw[hn]at h;simp only at h;split at h
    ·rename_i hk;have:=ze8 hb hn (by omega) (by omega)
     cases h
     exact ⟨by simp;omega,by simp;omega⟩
    split at h
    ·rename_i hk;have:=ze8 hb hn (by omega) (by omega)
     cases h
     exact ⟨by simp;omega,by simp;omega⟩
    split at h
    ·cases ho:zai 43 l1 with
     | error e=>rw[ho]at h;cases h
     | ok q=>
      obtain ⟨o,l2⟩:=q;rw[ho]at h;simp only at h
      cases ha:zaw f (s.1,s.2+1) l2 with
      | error e=>rw[ha]at h;cases h
      | ok q=>
       obtain ⟨⟨U,sa⟩,l3⟩:=q;rw[ha]at h;simp only at h;obtain ⟨I,a2⟩:=G ha
       cases E:zaw f sa l3 with
       | error e=>rw[E]at h;cases h
       | ok q=>
        obtain ⟨⟨Z,sb⟩,l4⟩:=q;rw[E]at h;simp only at h;obtain ⟨X,O⟩:=G E
        cases hd:zai 41 l4 with
        | error e=>rw[hd]at h;cases h
        | ok q=>
         obtain ⟨y,l5⟩:=q;rw[hd]at h;simp only at h
         cases h
         simp only at I;exact ⟨by simp;omega,O⟩
    cases h
theorem zjG:∀ (n:Nat) {s s1:ES}{l r:List Wd}{zs:List Int},zaB (zaw 20) n s l=.ok ((zs,s1),r)->s.2<=60->s1.2+s.1.length=s.2+s1.1.length/\s1.2<=60:=by
 intro n
 induction n with
 | zero=>
  intro s s1 l r zs h hs;unfold zaB at h
  cases hn:zaj l with
  | error e=>rw[hn]at h;cases h
  | ok q=>
   obtain ⟨x,t⟩:=q;rw[hn]at h;simp only at h;split at h
   ·cases h
    exact ⟨rfl,hs⟩
   ·split at h <;> cases h
 | succ n G=>
  intro s s1 l r zs h hs;unfold zaB at h
  cases hn:zaj l with
  | error e=>rw[hn]at h;cases h
  | ok q=>
   obtain ⟨x,t⟩:=q;rw[hn]at h;simp only at h;split at h
   ·cases h
    exact ⟨rfl,hs⟩
   cases hr:zaw 20 s l with
   | error e=>rw[hr]at h;cases h
   | ok q=>
    obtain ⟨⟨v,E⟩,l1⟩:=q;rw[hr]at h;simp only at h;obtain ⟨Z,a2⟩:=zof 20 hr
    cases hp:zaB (zaw 20) n E l1 with
    | error e=>rw[hp]at h;cases h
    | ok q=>
     obtain ⟨⟨O,U⟩,l2⟩:=q;rw[hp]at h;simp only at h;obtain ⟨X,I⟩:=G hp a2
     cases h
     exact ⟨by omega,I⟩
theorem zoW{s s1:ES}{l r:List Wd}{a:Ac}(h:pAct s l=.ok ((a,s1),r))(hs:s.2<=60):s1.2+s.1.length=s.2+s1.1.length/\s1.2<=60:=by
 unfold pAct at h;obtain ⟨x,l1,hx,h⟩:=zan h;split at h
 ·unfold zd8 at h;obtain ⟨y,l2,hy,h⟩:=zan h
  cases h
  exact ⟨rfl,hs⟩
 split at h
 ·unfold aMod at h;obtain ⟨k,l2,hk,h⟩:=zan h;obtain ⟨p,l3,hp,h⟩:=zan h;obtain ⟨zs,sp⟩:=p;have:=zjG 6 hp hs
  cases h
  exact this
 split at h
 ·unfold zds at h;obtain ⟨k,l2,hk,h⟩:=zan h;obtain ⟨y,l3,hy,h⟩:=zan h
  cases h
  exact ⟨rfl,hs⟩
 split at h
 ·unfold aAdd at h;obtain ⟨c,l2,E,h⟩:=zan h;obtain ⟨p,l3,hp,h⟩:=zan h;obtain ⟨zs,sp⟩:=p;have:=zjG 6 hp hs
  cases h
  exact this
 cases h
theorem zot:∀ (n:Nat) {s s1:ES}{l r:List Wd}{E:List Ac},zaK 41 pAct n s l=.ok ((E,s1),r)->s.2<=60->s1.2+s.1.length=s.2+s1.1.length/\s1.2<=60:=by
 intro n
 induction n with
 | zero=>
  intro s s1 l r E h hs;unfold zaK at h
  cases hn:zaj l with
  | error e=>rw[hn]at h;cases h
  | ok q=>
   obtain ⟨x,t⟩:=q;rw[hn]at h;simp only at h;split at h
   ·cases h
    exact ⟨rfl,hs⟩
   ·split at h <;> cases h
 | succ n I=>
  intro s s1 l r E h hs;unfold zaK at h
  cases hn:zaj l with
  | error e=>rw[hn]at h;cases h
  | ok q=>
   obtain ⟨x,t⟩:=q;rw[hn]at h;simp only at h;split at h
   ·cases h
    exact ⟨rfl,hs⟩
   cases ht:zai 40 l with
   | error e=>rw[ht]at h;cases h
   | ok q=>
    obtain ⟨y,l1⟩:=q;rw[ht]at h;simp only at h
    cases hr:pAct s l1 with
    | error e=>rw[hr]at h;cases h
    | ok q=>
     obtain ⟨⟨v,G⟩,l2⟩:=q;rw[hr]at h;simp only at h;obtain ⟨a1,a2⟩:=zoW hr hs
     cases hp:zaK 41 pAct n G l2 with
     | error e=>rw[hp]at h;cases h
     | ok q=>
      obtain ⟨⟨U,X⟩,l3⟩:=q;rw[hp]at h;simp only at h;obtain ⟨Z,O⟩:=I hp a2
      cases h
      exact ⟨by omega,O⟩
theorem zkb{l r:List Wd}{x:Ru}(h:zbh l=.ok (x,r))(hg:GdW l):shape x=none:=by
 unfold zbh at h;obtain ⟨y,l1,hy,h⟩:=zan h;obtain ⟨w1,g1,y1,k1⟩:=zaN hy hg;split at h
 ·obtain ⟨nm,l2,h2,h⟩:=zan h;obtain ⟨sl,l3,h3,h⟩:=zan h;obtain ⟨ps,l4,X,h⟩:=zan h;obtain ⟨ar,l5,h5,h⟩:=zan h;obtain ⟨q,l6,O,h⟩:=zan h;obtain ⟨en,l7,h7,h⟩:=zan h;obtain ⟨w2,g2,n1,k2⟩:=zaN h2 g1;have G:=zlp n1 k2;obtain ⟨w3,g3,_⟩:=zaN h3 g2;obtain ⟨p6,pg,g4⟩:=zfj (P:=fun p=>gPt p=true) (fun _ _ _ h hg=>⟨zqg h hg,(zkw h hg).2⟩) 6 X g3;obtain ⟨w5,g5,_⟩:=zaN h5 g4;obtain ⟨az,I⟩:=q;obtain ⟨ys,K,e,tr,kK,a8⟩:=zmp 8 O g5;obtain ⟨Z,c2⟩:=zot 8 O (by simp);have U:I.1=ys:=by simpa using e
  have hl:I.1.length<=60:=by simp at Z;omega
  obtain ⟨T,hT,E,hk⟩:=zhl.spans kK tr [] rfl
  cases h
  unfold shape;rw[if_pos (by simp only[zck,Bool.and_eq_true,decide_eq_true_eq,zdi];exact ⟨G,p6,a8,hl⟩),zjv pg];rw[List.nil_append]at E hk;show (if _ then _ else _)=none;dsimp only;rw[U,E,if_neg (by omega)];exact hk 1
 cases h
theorem zjN{pre:List Ru}{r:Ru}(h:shape r=none):(chk1 pre r).1≠1:=by
 unfold chk1;rw[h];dsimp only
 repeat' split
 all_goals (dsimp only;decide)
theorem zg1:∀ (rs pre:List Ru) (k:Nat),(∀ r∈rs,shape r=none)->(zd1 pre rs k).1≠1
 | [],pre,k,h=>by simp[zd1]
 | r :: s,pre,k,h=>by
  unfold zd1
  split
  ·exact zg1 s (pre ++ [r]) (k+1) (fun x hx=>h x (by simp[hx]))
  exact zjN (h r (by simp))
theorem zjk{src:Bs}{rs:List Ru}{l:List Wd}(h:prR src=.ok (rs,l)):(chk rs).1≠1/\∀ r∈rs,shape r=none:=by
 unfold prR at h;split at h
 ·cases h
 obtain ⟨E,hs,_⟩:=zfj (P:=fun r=>shape r=none) (fun _ _ _ h hg=>⟨zkb h hg,(zix h hg).2⟩) 16 h (zeC src).2;refine ⟨?_,hs⟩;unfold chk;rw[if_pos E];exact zg1 rs [] 0 hs
end Go.Proofs.YtjjjagepnnbebaaGreatDoor
