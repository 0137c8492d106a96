import Derived.Test.YtdhgdcjmhofhaaaGreatD17
set_option linter.all false
set_option maxRecDepth 100000
set_option maxHeartbeats 8000000
namespace Go.Proofs.YtdhgdcjmhofhaaaGreat.Tree
open Go.RowKit Pages
theorem Qz{a b}:(wS a b<0)↔lt a b=true:=by
 unfold wS;grind
theorem qBe{a b}(h:lt a b=false):(wS a b==0) = !lt b a:=by
 unfold wS;rw[h];cases lt b a<;>rfl
theorem qCz{a a':Nat}{b c}(d:a=a')(e:b=c):Ending.returned (.tuple #[.i a,.bool b])=.returned (.tuple #[.i a',.bool c]):=by rw[d,e]
theorem Rm(ca cc cs k S w)(hR:aD w S ca (cs.flatMap Ch.cells))(hS:∀b,S b->b<w.heap.size)(hr:cJ cs)(hn:cs.length<=1000000)(hc:cs.length<=cc):
  cL 131 #[.slice ca cs.length cc,.string k,.func (.func 132) #[] #[]] w λe w'=>e=.returned (.tuple #[.i (cZ cs k),.bool (fnd cs k)])/\bW w w':=by
 go_enter Tryz.func131,Tryz.ntmps131;go_wp2;go_loopw [9,10] (λa b wr=>∃i j:Nat,a=.i i/\b=.i j/\i<=j/\j<=cs.length/\bW w wr/\Hid ((∀m (h:m<cs.length),m<i->lt cs[m].key k=true)/\(∀m (h:m<cs.length),j<=m->lt cs[m].key k=false))) (λa b _=>(intOf b-intOf a).toNat)
 case atStart=>exact⟨0,cs.length,rfl,rfl,AH _,jU _,AC _ _,λm h h'=>by omega,λm h h'=>by omega⟩
 case round =>
  obtain⟨i,j,rfl,rfl,hij,hjn,hb,HI⟩:=hrel;by_cases hlt:i<j
  ·have hmi:i<=(i+j) / 2:=by omega
   have hmj:(i+j) / 2<j:=by omega
   have hmn:(i+j) / 2<cs.length:=by omega
   have⟨rb,ro,hca,hrb,k0,k1,k2⟩:=(hR.on (vV hb hS)).ch hmn;subst hca;have⟨c,hcc⟩:=nM (cs[(i+j) / 2]);rw[hcc]at k0 k1 k2;have hlti:(i:Int)<(j:Int):=by omega
   have hC:=yW c k wr;have hdiv:((i:Int)+(j:Int)) / 2=(((i+j) / 2:Nat):Int):=by omega
   have HD:Hid (((i:Int)+(j:Int)) / 2=(((i+j) / 2:Nat):Int)):=hdiv;have HC:Hid (cs[(i+j) / 2]=c):=hcc;clear hdiv hcc hR;cases hl:lt c.key k
   ·have hneg:¬wS c.key k<0:=by rw[Qz,hl];simp
    go_wp2_with (go_at_call 132;apply hC.mono;rintro e w2 ⟨rfl,hb2⟩);go_roundw
    case rel =>
     refine⟨i,(i+j) / 2,rfl,by rw[HD.out],hmi,by omega,hb.trans (hb2.mono hb.size),HI.1,λm h hm=>?_⟩;by_cases he:m=(i+j) / 2
     ·subst he;rw[HC.out];exact hl
     ·have hp:=BB.1 hr ((i+j) / 2) m hmn h (by omega)
      rw[HC.out]at hp;cases hx:lt cs[m].key k
      ·rfl
      ·have:=eV hp hx;grind
    case measure=>simp[intOf];omega
   ·have hneg:wS c.key k<0:=Qz.2 hl
    go_wp2_with (go_at_call 132;apply hC.mono;rintro e w2 ⟨rfl,hb2⟩);go_roundw
    case rel =>
     refine⟨(i+j) / 2+1,j,by rfl,rfl,by omega,hjn,hb.trans (hb2.mono hb.size),λm h hm=>?_,HI.2⟩;by_cases he:m=(i+j) / 2
     ·subst he;rw[HC.out];exact hl
     ·have hp:=BB.1 hr m ((i+j) / 2) h hmn (by omega)
      rw[HC.out]at hp;exact eV hp hl
    case measure=>simp[intOf];omega
  ·obtain rfl:i=j:=by omega
   have HS:Hid (cZ cs k=i):=qGr hr hjn HI.1 HI.2;by_cases hin:i<cs.length
   ·have⟨rb,ro,hca,hrb,k0,k1,k2⟩:=(hR.on (vV hb hS)).ch hin
    subst hca;have hl:lt cs[i].key k=false:=HI.2 i hin (jU _);have HF:Hid (fnd cs k = !lt k cs[i].key):=by show _=_;unfold fnd;rw[HS.out];simp[hin]
    have hini:(i:Int)<(cs.length:Int):=by omega
    have hz:=qBe hl;clear hR;go_wp2_with (go_at_call 132;apply (yW cs[i] k wr).mono;rintro e w2 ⟨rfl,hb2⟩);go_ret2;exact⟨qCz HS.symm HF.symm,hb.trans (hb2.mono hb.size)⟩
   ·have HF:Hid (fnd cs k=false):=by show _=_;unfold fnd;rw[HS.out,CU (by omega)]
    have hini:¬(i:Int)<(cs.length:Int):=by omega
    clear hR;go_wp2;go_ret2;exact⟨qCz HS.symm HF.symm,hb⟩
theorem nI(a c cs k S w)(f:aD w S a (cs.flatMap Ch.cells))(g:∀b,S b->b<w.heap.size)(l:cJ cs)(j:cs.length<=1000000)(i:cs.length<=c):
  cL 96 #[.slice a cs.length c,.string k] w λe w'=>e=.returned (.tuple #[.i (cZ cs k),.bool (fnd cs k)])/\bW w w':=by
 go_enter Tryz.func96,Tryz.ntmps96;go_wp2_with (go_at_call 131;apply (Rm a c cs k S w f g l j i).mono;rintro e m ⟨rfl,h⟩);go_ret2;simp_all
def Fs.calm(fs:Fs):Fs:={fs with wait:=-1,life:=-1}
theorem Ff(β sv lv fs r t s w)(h:aH w β sv lv fs)(c:fs.late=[]):
  cL 16 #[.p β 0,.slice r t s] w λe w'=>(∃v,e=.returned v)/\aH w' β sv .n fs.calm/\Fr (Bl.one β) w w':=by
 obtain⟨l,m,rfl⟩:=aF h.safe;obtain⟨D,E,rfl⟩:=aF h.late;have a:=h.box;have q:fs.late.length=0:=by rw[c];rfl
 rw[q]at a;have⟨x,y,z,A,B⟩:=cU a;have C:=aB a;have f:=aC a 1 .n;have g:=aC f 2 (.i (-1));have i:=aC g 3 (.i (-1));have F:Fr (Bl.one β) w (((w.setCell ⟨β,1,none⟩ .n).setCell ⟨β,2,none⟩ (.i (-1))).setCell ⟨β,3,none⟩ (.i (-1))):=(((AF (Bl.one β) w).setCell (p:=⟨β,1,none⟩) (.inl rfl) _).setCell (p:=⟨β,2,none⟩) (.inl rfl) _).setCell (p:=⟨β,3,none⟩) (.inl rfl) _;have j:(Value.slice l fs.safe.length m).ownBlock≠some β:=aQ h.safe h.box (by decide);have n:Hid (aH (((w.setCell ⟨β,1,none⟩ .n).setCell ⟨β,2,none⟩ (.i (-1))).setCell ⟨β,3,none⟩ (.i (-1))) β (.slice l fs.safe.length m) .n fs.calm):=by
  exact⟨by simpa[Fs.calm] using i,aS h.safe (F.on (Z:=λd=>Value.ownBlock _=some d) (λd b=>⟨aM h.safe b,λe=>by simp only[Bl.one]at e;subst e;exact j b⟩)) (λd b=>b),(by simp only[Fs.calm,c];exact AL _ _ _ _),h.small,h.few⟩
 have o:Hid (Fr (Bl.one β) w (((w.setCell ⟨β,1,none⟩ .n).setCell ⟨β,2,none⟩ (.i (-1))).setCell ⟨β,3,none⟩ (.i (-1)))):=F;clear f g i F j h c;go_enter Tryz.func16,Tryz.ntmps16;go_wp2;go_loopw [4] (λk u=>k=.i 0/\u=w) (λk _=>0)
 case atStart=>simp
 case round =>
  obtain⟨rfl,rfl⟩:=hrel;go_wp2;go_end0;exact⟨⟨_,rfl⟩,n,o⟩
