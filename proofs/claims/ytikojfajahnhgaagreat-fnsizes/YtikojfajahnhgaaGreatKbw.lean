import Derived.Test.YtikojfajahnhgaaGreatKbv
set_option linter.all false
namespace Go.Proofs.YtikojfajahnhgaaGreat
attribute [local simp] At I6 Pn mzI
attribute [local go_sem] At I6 Pn
open Go.RowKit Go.Proofs.Tryz
attribute [local go_sem ↓] wp_at_zero wp_at_succ
def PV{α β:Type}{R cells}{f:α->β}{m}(b:∀x,(cells x).length=m)(O:0<m){w base t a n c}{L:List α}(h:w.ownsRow base t m (.slice a n c) n (L.flatMap cells))(l:∀x∈L,R w (cells x) (f x)):Cr R none t m w a (L.map f):=by
 intro i y g;rw[yA]at g;obtain⟨x,d,rfl⟩:=Yd.1 g;have key:=λj u(hj:(cells x)[j]?=some u)=>BM h (FK (cells:=cells) (m:=m) b L i x j u d hj);obtain⟨k,rfl,_⟩:=key 0 ((cells x)[0]'(by rw[b];exact O)) qe;refine⟨k,0,cells x,rfl,Qb.ah _ _ _,b x,λj v hj=>?_,l x (yd d)⟩;obtain⟨p,e,_,o,_⟩:=key j v hj;cases e;rw[Yc];exact o
def PO.eL{w base a c L}(h:PO w base a c L):Ez none w a (L.map Prod.fst):=by
 refine PV (cells:=CW) (λ_=>rfl) qh h.1 (λx i=>?_);obtain⟨⟨b,d,e⟩,O,_⟩:=h.2 x i;rw[e]at O;have g:E_ none w b x.1.e:=by
  have:=PV (R:=Tm.R) (cells:=Fu) (f:=id) (λ_=>rfl) qh O (λ_ _=>rfl);simpa using this
 exact⟨b,d,by rw[CW,e],g,VJ O⟩
def Eh.eM{w base a c Y}(h:Eh w base a c Y):FI none w a (Y.map Prod.fst):=by
 refine PV (cells:=Ff) (λ_=>rfl) qh h.1 (λx f=>?_);obtain⟨⟨d,b,e⟩,O⟩:=h.2 x f;rw[e]at O;exact⟨d,b,by rw[Ff,e],CU.owns O⟩
def RO.eN{w base a c M}(h:RO w base a c M):Fa none w a (M.map GI.ru):=by
 refine PV (cells:=Eb) (λ_=>rfl) qh h.1 (λx k=>?_);obtain⟨⟨j,n,l,o⟩,⟨O,m,q,b,_⟩,e,p,d,i⟩:=h.2 x k;have g:Dt none w O x.es:=by
  have:=PV (R:=Ex.R) (cells:=Gl) (f:=id) (λ_=>rfl) qh b (λ_ _=>rfl);simpa using this
 exact⟨j,n,O,m,e,p,by unfold Eb;rw[l,q,d];simp[GI.ru],o.eL,g,i.eM,VJ b⟩
def RO.cA{w base a c M}(h:RO w base a c M):M.length<=c:=VJ h.1
def zom{s:ByteArray}(h:Aq s.data.toList=true):s.size<=1048576:=by
 simp only[Aq,yi,decide_eq_true_eq]at h;have:s.data.toList.length=s.size:=Wu;omega
def V3{s}(h:BG s=true):s.size<=1048576:=by
 rw[zkS h];exact yk _
def zS{a}(h:Dv a=true):a.z.size<=1048576:=by
 unfold Dv at h;split at h
 .simp only[DH,yi]at h;exact zom h.1.1
 split at h
 .simp only[yi]at h;exact V3 h.1.1
 split at h
 .simp only[yi]at h;exact V3 h.1
 split at h
 .simp only[yi]at h;exact V3 h.1
 cases h
def Fr.le{K pos}:∀{b:List Ac}{n:Nat}{ys:List Ex},Fr K pos n ys b->∀a∈b,Ac.le 1048576 a
 |[],n,ys,h=>by simp
 |x::r,n,ys,h=>by
  obtain⟨A,C,rfl,e,c,d⟩:=h
  intro a O
  rcases yG.1 O with rfl|O
  .exact⟨zS c.1,qd⟩
  exact Fr.le d a O
structure Rv(rs:List Ru):Prop where
 len:1<=rs.length/\rs.length<=8
 dN:A8 rs=(0,0,0)
 le:EW Ru.le 1048576 rs
 dr:∀x∈rs,H_ x.w
 cd:∀r∈rs,∀p∈r.v,∀t∈p.e,DO t.val
 W:∀r∈rs, -9223372036854775808<=r.W/\r.W<=9223372036854775807
def rW{w base a c M}(h:RO w base a c M)(o:JA M)(m:1<=M.length)(A:M.length<=8):Rv (M.map GI.ru):=by
 have u:∀x∈M,∀y∈x.v,Gb w base y:=λx b y f=>by
  obtain⟨⟨G,J,H,m⟩,_⟩:=h.2 x b;exact m.2 y f
 have s:∀x∈M,∀e∈x.es,GN e:=λx b=>by
  obtain⟨_,⟨_,_,_,_,z⟩,_⟩:=h.2 x b;exact z
 have hd:∀x∈M,∃k,Pg k x.ru:=λx b=>by
  obtain⟨i,n⟩:=Kl.1 b;exact⟨i,(o i x n).1⟩
 refine⟨by simpa using And.intro m A,zN (λi r d=>?_) qf,⟨qf,λr d=>?_⟩,λr d e g=>?_,λr d p q t j=>?_,λr d=>?_⟩
 .rw[yA]at d;obtain⟨x,b,rfl⟩:=Yd.1 d;exact(o i x b).1
 .obtain⟨x,b,rfl⟩:=yz.1 d;obtain⟨k,B,K,pos,O⟩:=hd x b;refine⟨?_,⟨by have:=O.v;omega,λp q=>?_⟩,⟨by have:=O.w;omega,λe g=>?_⟩,by have:=O.E;omega,λa C=>?_⟩
  .rw[B];exact yh (show(Ji k).size<=2 from yu 2) qh
  .obtain⟨y,f,rfl⟩:=yz.1 q;obtain⟨_,_,D,I,l⟩:=u x b y f;exact⟨by have:=D.1;omega,qd,λt j=>⟨by have:=(l t j).1;omega,by have:=(l t j).2.1.1;omega⟩⟩
  .have:=s x b e g;exact⟨by have:=this.1;omega,by have:=this.2.1.1;omega⟩
  exact O.cg.le a C
 .obtain⟨x,b,rfl⟩:=yz.1 d;exact⟨(s x b e g).2.2.1,(s x b e g).2.2.2⟩
 .obtain⟨x,b,rfl⟩:=yz.1 d;obtain⟨y,f,rfl⟩:=yz.1 q;obtain⟨_,_,_,_,l⟩:=u x b y f;exact UU (l t j).2.1
 obtain⟨x,b,rfl⟩:=yz.1 d;obtain⟨i,n⟩:=Kl.1 b;exact(o i x n).2
def JD(w:World)(a:Option Addr)(n:Nat):Prop:=∀j,j<n->∃(b o:Nat)(u:Nat),a=some ⟨b,o,none⟩/\b<w.heap.size/\u<256/\w.cell? ⟨b,o+j,none⟩=some (.int .u8 (u:Int))
def JD.d{w w' a n}(h:JD w a n)(c:Bw w w'):JD w' a n:=λj hj=>by
 obtain⟨b,o,u,i,f,e,g⟩:=h j hj;exact⟨b,o,u,i,yg f c.size,e,zab c g⟩
def JD.bc{w a n c g}(h:JD w a n)(f:n<=1048576)(d:w.heap.size=g):DQ (w.alloc (.cells #[.slice a n c,I6 0] 73)) g:=by
 subst d;refine⟨a,n,c,0,heap_alloc_new _ _,yk _,f,λj hj=>?_⟩;obtain⟨b,o,u,k,l,e,i⟩:=h j hj;exact⟨b,o,u,k,l,e,zab Aj i⟩
end Go.Proofs.YtikojfajahnhgaaGreat
