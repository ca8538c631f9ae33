/-
  OUR OWN TEXT. Wt3, Wt4, one behind the other.
-/
import Derived.Test.YtjjjagepnnbebaaGreatDoorKbj
namespace Go.Proofs.YtjjjagepnnbebaaGreatDoor
theorem zsG{x:Wd}(hx:WdOk x)(h:pkW x=43):3<=wtW x:=zlf hx (by omega) (by omega)
theorem ziM(n:Nat)(es E:List Ex)(v:V):(txE n (es ++ [⟨0,0,mkS [],v,0,0⟩] ++ E) es.length).length<=(txV v).length:=by
 cases n with
 | zero=>simp[txE]
 | succ n=>simp[txE]
theorem znw(n:Nat)(es E:List Ex)(s:Bs):(txE n (es ++ [⟨1,0,mkS s,zVr,0,0⟩] ++ E) es.length).length<=s.length+1:=by
 cases n with
 | zero=>simp[txE]
 | succ n=>simp[txE,zaF,zad]
theorem zp8(n:Nat)(es E:List Ex)(op i j:Int)(z:V):(txE n (es ++ [⟨2,op,mkS [],z,i,j⟩] ++ E) es.length).length<=(txE (n - 1) (es ++ [⟨2,op,mkS [],z,i,j⟩] ++ E) i.toNat).length+(txE (n - 1) (es ++ [⟨2,op,mkS [],z,i,j⟩] ++ E) j.toNat).length+5:=by
 cases n with
 | zero=>simp[txE]
 | succ n=>
  simp only[Nat.add_sub_cancel];have:(es ++ [(⟨2,op,mkS [],z,i,j⟩:Ex)] ++ E)[es.length]?=some ⟨2,op,mkS [],z,i,j⟩:=by simp
  rw[txE,this];simp;omega
theorem zfs:∀ (f:Nat) {s s1:ES}{l r:List Wd}{i:Int},zaw f s l=.ok ((i,s1),r)->GdW l->(∃ m,s1.1=s.1 ++ m)/\(∀ E n,(txE n (s1.1 ++ E) i.toNat).length+1+wtL r<=wtL l)/\GdW r:=by
 intro f
 induction f with
 | zero=>
  intro s s1 l r i h hg;unfold zaw at h
  cases hb:zaW (s.2:Int) 60 l with
  | error e=>rw[hb]at h;cases h
  | ok q=>
   rw[hb]at h;simp only at h
   cases hn:zaj l with
   | error e=>rw[hn]at h;cases h
   | ok q=>
    obtain ⟨x,l1⟩:=q;rw[hn]at h;simp only at h;obtain ⟨w1,g1,x1,_⟩:=zby hn hg;split at h
    ·rename_i hk;have hv:=zlc x1 hk
     cases h
     exact ⟨⟨_,rfl⟩,fun E n=>by have:=ziM n s.1 E (wVal (pkW x) x.num (ptW x));simp only[Int.toNat_natCast];omega,g1⟩
    ·split at h
     ·rename_i hk;have hv:=zlA x1 hk
      cases h
      exact ⟨⟨_,rfl⟩,fun E n=>by have:=znw n s.1 E (ptW x);simp only[Int.toNat_natCast];omega,g1⟩
     ·split at h <;> cases h
 | succ f Z=>
  intro s s1 l r i h hg;unfold zaw at h
  cases hb:zaW (s.2:Int) 60 l with
  | error e=>rw[hb]at h;cases h
  | ok q=>
   rw[hb]at h;simp only at h
   cases hn:zaj l with
   | error e=>rw[hn]at h;cases h
   | ok q=>
    obtain ⟨x,l1⟩:=q;rw[hn]at h;simp only at h;obtain ⟨w1,g1,x1,_⟩:=zby hn hg;split at h
    ·rename_i hk;have hv:=zlc x1 hk
     cases h
     exact ⟨⟨_,rfl⟩,fun E n=>by have:=ziM n s.1 E (wVal (pkW x) x.num (ptW x));simp only[Int.toNat_natCast];omega,g1⟩
    split at h
    ·rename_i hk;have hv:=zlA x1 hk
     cases h
     exact ⟨⟨_,rfl⟩,fun E n=>by have:=znw n s.1 E (ptW x);simp only[Int.toNat_natCast];omega,g1⟩
    split at h
    ·rename_i hk;have ad:=zhv x1 (.inl hk)
     cases ho:zai 43 l1 with
     | error e=>rw[ho]at h;cases h
     | ok q=>
      obtain ⟨o,l2⟩:=q;rw[ho]at h;simp only at h;obtain ⟨w2,g2,o1,k2⟩:=zaN ho g1;have af:=zsG o1 k2
      cases ha:zaw f (s.1,s.2+1) l2 with
      | error e=>rw[ha]at h;cases h
      | ok q=>
       obtain ⟨⟨G,sa⟩,l3⟩:=q;rw[ha]at h;simp only at h;obtain ⟨⟨m1,e1⟩,t1,g3⟩:=Z ha g2
       cases X:zaw f sa l3 with
       | error e=>rw[X]at h;cases h
       | ok q=>
        obtain ⟨⟨I,sb⟩,l4⟩:=q;rw[X]at h;simp only at h;obtain ⟨⟨m2,e2⟩,t2,g4⟩:=Z X g3
        cases hd:zai 41 l4 with
        | error e=>rw[hd]at h;cases h
        | ok q=>
         obtain ⟨y,l5⟩:=q;rw[hd]at h;simp only at h;obtain ⟨w5,g5,y1,k5⟩:=zaN hd g4;have ab:=zhv y1 (.inr k5)
         cases h
         refine ⟨⟨m1 ++ m2 ++ [⟨2,(((ptW o).headD 0).toNat:Int),mkS [],zVr,G,I⟩],by simp only[e2,e1,List.append_assoc]⟩,fun E n=>?_,g5⟩;have ae:=zp8 n sb.1 E (((ptW o).headD 0).toNat:Int) G I zVr;have U:=t1 (m2 ++ [⟨2,(((ptW o).headD 0).toNat:Int),mkS [],zVr,G,I⟩] ++ E) (n - 1);have O:=t2 ([⟨2,(((ptW o).headD 0).toNat:Int),mkS [],zVr,G,I⟩] ++ E) (n - 1);rw[<- List.append_assoc]at O;rw[<- List.append_assoc,<- List.append_assoc,<- e2]at U;simp only[Int.toNat_natCast];omega
    cases h
theorem zlk:∀ (n:Nat) {s s1:ES}{l r:List Wd}{zs:List Int},zaB (zaw 20) n s l=.ok ((zs,s1),r)->GdW l->(∃ m,s1.1=s.1 ++ m)/\(∀ E k,(zs.map fun z=>(txE k (s1.1 ++ E) z.toNat).length+1).sum+4+wtL r<=wtL l)/\GdW r:=by
 intro n
 induction n with
 | zero=>
  intro s s1 l r zs h hg;unfold zaB at h
  cases hn:zaj l with
  | error e=>rw[hn]at h;cases h
  | ok q=>
   obtain ⟨x,t⟩:=q;rw[hn]at h;simp only at h;obtain ⟨U,g1,x1,_⟩:=zby hn hg;split at h
   ·rename_i hk;have:=zhv x1 (.inr hk)
    cases h
    exact ⟨⟨[],by simp⟩,fun E k=>by simp;omega,g1⟩
   ·split at h <;> cases h
 | succ n X=>
  intro s s1 l r zs h hg;unfold zaB at h
  cases hn:zaj l with
  | error e=>rw[hn]at h;cases h
  | ok q=>
   obtain ⟨x,t⟩:=q;rw[hn]at h;simp only at h;obtain ⟨U,g1,x1,_⟩:=zby hn hg;split at h
   ·rename_i hk;have:=zhv x1 (.inr hk)
    cases h
    exact ⟨⟨[],by simp⟩,fun E k=>by simp;omega,g1⟩
   cases hr:zaw 20 s l with
   | error e=>rw[hr]at h;cases h
   | ok q=>
    obtain ⟨⟨v,O⟩,l1⟩:=q;rw[hr]at h;simp only at h;obtain ⟨⟨I,e1⟩,t1,g2⟩:=zfs 20 hr hg
    cases hp:zaB (zaw 20) n O l1 with
    | error e=>rw[hp]at h;cases h
    | ok q=>
     obtain ⟨⟨us,su⟩,l2⟩:=q;rw[hp]at h;simp only at h;obtain ⟨⟨G,e2⟩,t2,Z⟩:=X hp g2
     cases h
     refine ⟨⟨I ++ G,by simp only[e2,e1,List.append_assoc]⟩,fun E k=>?_,Z⟩;have a:=t1 (G ++ E) k;have b:=t2 E k;rw[<- List.append_assoc,<- e2]at a;rw[List.map_cons,List.sum_cons];omega
theorem zfI(es:List Ex)(l:List Int):(zaG es l).length=(l.map fun z=>(txE 60 es z.toNat).length+1).sum:=by
 unfold zaG;rw[List.length_flatMap];simp
theorem zsn{x:Wd}(hx:WdOk x)(h:pkW x=48):(Lib.itoa (zde x.num)).length+2<=wtW x:=by
 have hn:=zoo hx h;have h3:=zlf hx (by omega) (by omega);unfold zde;split
 ·have:(Lib.itoa 0).length=1:=by decide +kernel
  omega
 omega
theorem ziZ{l r:List Wd}{k:Int}(h:pRef l=.ok (k,r))(hg:GdW l):(Lib.itoa k).length+2+wtL r<=wtL l/\GdW r:=by
 unfold pRef at h;obtain ⟨x,l1,hx,h⟩:=zan h;obtain ⟨G,g1,x1,E⟩:=zaN hx hg;have:=zsn x1 E
 cases h
 exact ⟨by omega,g1⟩
theorem zed(es:List Ex)(a:Ac):(txA es a).length=(zbe a).length+(zaG es a.args).length+2:=by
 unfold txA;simp;omega
theorem zky{s s1:ES}{l r:List Wd}{a:Ac}(h:pAct s l=.ok ((a,s1),r))(hg:GdW l):(∃ m,s1.1=s.1 ++ m)/\(∀ E,(txA (s1.1 ++ E) a).length+3+wtL r<=wtL l+4)/\GdW r:=by
 unfold pAct at h;obtain ⟨x,l1,hx,h⟩:=zan h;obtain ⟨w1,g1,x1,U⟩:=zaN hx hg;have G:=zif x1 U;split at h
 ·rename_i hw;rw[hw]at G;unfold zd8 at h;obtain ⟨y,l2,hy,h⟩:=zan h;obtain ⟨O,g2,Z,k2⟩:=zaN hy g1
  cases h
  exact ⟨⟨[],by simp⟩,fun E=>by rw[zed];simp[zbe,zg6,zaG,zd6]at *;omega,g2⟩
 split at h
 ·rename_i hw;rw[hw]at G;unfold aMod at h;obtain ⟨k,l2,hk,h⟩:=zan h;obtain ⟨p,l3,hp,h⟩:=zan h;obtain ⟨O,g2⟩:=ziZ hk g1;obtain ⟨zs,sp⟩:=p;obtain ⟨e3,t3,I⟩:=zlk 6 hp g2
  cases h
  exact ⟨e3,fun E=>by have:=t3 E 60;rw[zed,zfI];simp[zbe,modB,modT]at *;omega,I⟩
 split at h
 ·rename_i hw;rw[hw]at G;unfold zds at h;obtain ⟨k,l2,hk,h⟩:=zan h;obtain ⟨y,l3,hy,h⟩:=zan h;obtain ⟨O,g2⟩:=ziZ hk g1;obtain ⟨w3,I,Z,k3⟩:=zaN hy g2
  cases h
  exact ⟨⟨[],by simp⟩,fun E=>by rw[zed];simp[zbe,zeO,zaG,zdV]at *;omega,I⟩
 split at h
 ·rename_i hw;rw[hw]at G;unfold aAdd at h;obtain ⟨c,l2,X,h⟩:=zan h;obtain ⟨p,l3,hp,h⟩:=zan h;obtain ⟨O,g2⟩:=zhg X g1;obtain ⟨zs,sp⟩:=p;obtain ⟨e3,t3,I⟩:=zlk 6 hp g2
  cases h
  exact ⟨e3,fun E=>by have:=t3 E 60;rw[zed,zfI];simp[zbe,addB,addT,zaF,zad]at *;omega,I⟩
 cases h
end Go.Proofs.YtjjjagepnnbebaaGreatDoor
