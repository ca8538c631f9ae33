import Derived.Test.YtikojfajahnhgaaGreatKaf
set_option linter.all false
namespace Go.Proofs.YtikojfajahnhgaaGreat
attribute [local simp] At I6 Pn mzI
attribute [local go_sem] At I6 Pn
open Go.RowKit Go.Proofs.Tryz
attribute [local go_sem ↓] wp_at_zero wp_at_succ
set_option maxHeartbeats 3200000 in
def wB(e a c)(S:List Sp)(w)(m:e.le maxLen)(p:e.kind=1) :
  Ca 250 #[.agg #[I6 e.kind,.int .u8 e.op,.string e.var,I6 e.val.kind,I6 e.val.num,.string e.val.av,I6 e.a,I6 e.b],.slice a S.length c] w λr w'=>
   r=.returned (.tuple #[.agg #[I6 (S.length:Int),I6 0],.bool (CQ e&&(Aw e.var.data.toList&&Cr e.val))])/\Bw w w':=by
 obtain⟨d,O⟩:=m;by_cases l:e.op=0
 .by_cases k:e.val.kind=0
  .by_cases i:e.val.num=0
   .by_cases j:e.val.av.toList=[]
    .by_cases g:e.a=0
     .by_cases f:e.b=0
      .have Y:Hid ((CQ e&&(Aw e.var.data.toList&&Cr e.val))=Aw e.var.data.toList):=show(CQ e&&(Aw e.var.data.toList&&Cr e.val))=Aw e.var.data.toList from by simp[CQ,Cr,BT,l,g,f,k,i,j]
       go_enter func250,ntmps250;go_wp2
       first
       |(go_region_law (first|(go_simp;go_at_call 197;refine(IX e.var _ d).ac ?_;rintro n w' ⟨rfl,rfl⟩)))
       |fail
       all_goals go_wp2
       all_goals refine bodyPost_ret (v:=.tuple #[.agg #[I6 (S.length:Int),I6 0],.bool (Aw e.var.data.toList)]) (by simp[results,results250,go_sem]) rfl ⟨?_,?_⟩
       all_goals first|(rw[Y.o];done)|(repeat first|exact Ba|refine Below.drew ?_|refine WM ?_ qo _;done)
      have HN:Hid ((CQ e&&(Aw e.var.data.toList&&Cr e.val))=false):=show(CQ e&&(Aw e.var.data.toList&&Cr e.val))=false from by simp[CQ,f]
      exact J1
     have HN:Hid ((CQ e&&(Aw e.var.data.toList&&Cr e.val))=false):=show(CQ e&&(Aw e.var.data.toList&&Cr e.val))=false from by simp[CQ,g]
     exact J1
    have HN:Hid ((CQ e&&(Aw e.var.data.toList&&Cr e.val))=false):=show(CQ e&&(Aw e.var.data.toList&&Cr e.val))=false from by simp[Cr,BT,j]
    exact J1
   have HN:Hid ((CQ e&&(Aw e.var.data.toList&&Cr e.val))=false):=show(CQ e&&(Aw e.var.data.toList&&Cr e.val))=false from by simp[Cr,i]
   exact J1
  have HN:Hid ((CQ e&&(Aw e.var.data.toList&&Cr e.val))=false):=show(CQ e&&(Aw e.var.data.toList&&Cr e.val))=false from by simp[Cr,k]
  exact J1
 have HN:Hid ((CQ e&&(Aw e.var.data.toList&&Cr e.val))=false):=show(CQ e&&(Aw e.var.data.toList&&Cr e.val))=false from by simp[CQ,l]
 exact J1
end Go.Proofs.YtikojfajahnhgaaGreat
