import Derived.Test.YtdhgdcjmhofhaaaGreatD14
import Derived.Test.YtdhgdcjmhofhaaaGreatD15
set_option linter.all false
set_option maxRecDepth 100000
set_option maxHeartbeats 8000000
namespace Go.Proofs.YtdhgdcjmhofhaaaGreat.Tree
open Go.RowKit Pages
variable {P:Program} {j n β:Nat} {lv:Value} {w w':World}
def gY(n:Nat):ByteArray:=⟨(List.replicate n (0:UInt8)).toArray⟩
theorem yP(n):(gY n).size=n:=by show(List.replicate n (0:UInt8)).toArray.size=n;simp
theorem Du(n):(madeCells (Value.int .u8 0).cells (n * 1)).toList=(List.replicate n (0:UInt8)).map fJ:=by
 apply FO
 ·simp[madeCells]
 ·intro c a b
  simp[madeCells,Value.cells,fJ,Nat.mod_one]
theorem Gz(n:Nat)(w)(q:n<=100000):
  cL 19 #[.i n] w λe w'=>e=.returned (.string (gY n))/\bW w w':=by
 have⟨l,g,i,j,k⟩:=EZ Pf;have⟨c,p,b,a⟩:=LB (P:=Tryz.prog) w 0 108 5 l (.int .u8 0) 1 Tryz.underlying108 g i j .i64 .i64 n (by omega) (by rw[k];omega) (by unfold maxLen;omega) (AH _);rw[Du]at b;have f:Buf c 0 (.q w.heap.size n n) (List.replicate n 0):=by
  unfold Buf;simpa using b
 have o:=Buf.string f;have d:Hid (bW w c):=⟨a.os,a.tape,a.output,a.size,λm h=>a.block m h (by simp)⟩;go_enter Tryz.func19,Tryz.ntmps19;go_wp2;go_ret;exact⟨rfl,d⟩
def Fs.chOk(fs:Fs):Bool:=!(fs.life==0)&&!(fs.wait==0)
def Fs.ch(fs:Fs):Fs :=
 if fs.chOk then {fs with wait:=if 0<fs.wait then fs.wait-1 else fs.wait,life:=if 0<fs.life then fs.life-1 else fs.life}
 else {fs with failed:=wrap64 (fs.failed+1),wait:=if fs.life==0 then fs.wait else -1}
theorem Fs.ch_safe(fs:Fs):fs.ch.safe=fs.safe:=by unfold Fs.ch;split<;>rfl
theorem Fs.ch_late(fs:Fs):fs.ch.late=fs.late:=by unfold Fs.ch;split<;>rfl
theorem aH.rebox {sv lv fs c}(h:aH w β sv lv fs)(f:Fr (Bl.one β) w w')(e:c.safe=fs.safe)(g:c.late=fs.late)(i:w'.heap[β]?=some (.cells #[sv,lv,.i c.wait,.i c.life,.i c.failed] 63)):aH w' β sv lv c:=by
 refine⟨i,?_,?_,by rw[e];exact h.small,by rw[g];exact h.few⟩
 ·rw[e]
  exact aS h.safe (f.on (Z:=λb=>sv.ownBlock=some b) (λb a=>⟨aM h.safe a,λd=>by simp only[Bl.one]at d;subst d;exact aQ h.safe h.box (by decide) a⟩)) (λb a=>a)
 ·rw[g]
  exact aS h.late (f.on (Z:=λb=>lv.ownBlock=some b) (λb a=>⟨aM h.late a,λd=>by simp only[Bl.one]at d;subst d;exact aQ h.late h.box (by decide) a⟩)) (λb a=>a)
theorem An(β sv lv fs w)(h:aH w β sv lv fs)(G : -1<=fs.wait)(H:fs.wait<=9223372036854775807)(E : -1<=fs.life)(F:fs.life<=9223372036854775807):
  cL 111 #[.p β 0] w λe w'=>e=.returned (.bool fs.chOk)/\aH w' β sv lv fs.ch/\Fr (Bl.one β) w w':=by
 obtain⟨z,A,B,t,C⟩:=cU h.box;have D:=aB h.box;have f:∀w',Fr (Bl.one β) w w'->w'.heap[β]?=some (.cells #[sv,lv,.i fs.ch.wait,.i fs.ch.life,.i fs.ch.failed] 63)->aH w' β sv lv fs.ch/\Fr (Bl.one β) w w' :=
  λw' j v=>⟨h.rebox j fs.ch_safe fs.ch_late v,j⟩
 have g:=AF (Bl.one β) w;have d:∀(m:World) (l:Nat) (n:Value),Fr (Bl.one β) w m->Fr (Bl.one β) w (m.setCell ⟨β,l,none⟩ n):=λm l n j=>j.setCell (p:=⟨β,l,none⟩) (.inl rfl) n;by_cases hl:fs.life=0
 ·have a:Hid (fs.chOk=false):=by show _=_;simp[Fs.chOk,hl]
  have b:Hid (fs.ch = {fs with failed:=wrap64 (fs.failed+1)}):=by show _=_;simp[Fs.ch,a.out,hl]
  have c:=aC h.box 4 (.i (wrap64 (fs.failed+1)));obtain⟨o,q,r,k,s⟩:=cU (w:=w.setCell ⟨β,4,none⟩ (.i (wrap64 (fs.failed+1)))) (by simpa using c);rw[hl]at t k;go_enter Tryz.func111,Tryz.ntmps111;go_wp2;go_ret;refine⟨bQ a.out.symm,f _ (d _ _ _ g) ?_⟩;rw[b.out];simpa[hl] using c
 ·by_cases hw:fs.wait=0
  ·have a:Hid (fs.chOk=false):=by show _=_;simp[Fs.chOk,hw]
   have x:(fs.life==0)=false:=by simpa using hl
   have y:(fs.wait==0)=true:=by simpa using hw
   have b:Hid (fs.ch = {fs with failed:=wrap64 (fs.failed+1),wait:=-1}):=by show _=_;simp[Fs.ch,a.out,hl]
   have c:=aC h.box 4 (.i (wrap64 (fs.failed+1)));obtain⟨o,q,r,k,s⟩:=cU (w:=w.setCell ⟨β,4,none⟩ (.i (wrap64 (fs.failed+1)))) (by simpa using c);have u:=aB c;have i:=aC c 2 (.i (-1));go_enter Tryz.func111,Tryz.ntmps111;go_wp2;go_ret;refine⟨bQ a.out.symm,f _ (d _ _ _ (d _ _ _ g)) ?_⟩;rw[b.out];simpa using i
  ·have a:Hid (fs.chOk=true):=by show _=_;simp[Fs.chOk,hl,hw]
   have x:(fs.life==0)=false:=by simpa using hl
   have y:(fs.wait==0)=false:=by simpa using hw
   by_cases hw2:0<fs.wait
   ·have c:=aC h.box 2 (.i (fs.wait-1))
    obtain⟨o,q,r,k,s⟩:=cU (w:=w.setCell ⟨β,2,none⟩ (.i (fs.wait-1))) (by simpa using c);have u:=aB c;by_cases hl2:0<fs.life
    ·have b:Hid (fs.ch = {fs with wait:=fs.wait-1,life:=fs.life-1}):=by show _=_;simp[Fs.ch,a.out,hw2,hl2]
     have i:=aC c 3 (.i (fs.life-1));go_enter Tryz.func111,Tryz.ntmps111;go_wp2;go_ret;refine⟨bQ a.out.symm,f _ (d _ _ _ (d _ _ _ g)) ?_⟩;rw[b.out];simpa using i
    ·have b:Hid (fs.ch = {fs with wait:=fs.wait-1}):=by show _=_;simp[Fs.ch,a.out,hw2,hl2]
     go_enter Tryz.func111,Tryz.ntmps111;go_wp2;go_ret;refine⟨bQ a.out.symm,f _ (d _ _ _ g) ?_⟩;rw[b.out];simpa using c
   ·by_cases hl2:0<fs.life
    ·have b:Hid (fs.ch = {fs with life:=fs.life-1}):=by show _=_;simp[Fs.ch,a.out,hw2,hl2]
     have i:=aC h.box 3 (.i (fs.life-1));go_enter Tryz.func111,Tryz.ntmps111;go_wp2;go_ret;refine⟨bQ a.out.symm,f _ (d _ _ _ g) ?_⟩;rw[b.out];simpa using i
    ·have b:Hid (fs.ch=fs):=by show _=_;simp[Fs.ch,a.out,hw2,hl2]
     go_enter Tryz.func111,Tryz.ntmps111;go_wp2;go_ret;refine⟨bQ a.out.symm,f _ g ?_⟩;rw[b.out];exact h.box
theorem It:(Tryz.prog.info? 104).map (λi=>(i.zero,i.size,i.bytes))=some (some (.agg #[.i 0,.string ⟨#[]⟩]),2,24):=by kernel_rfl
theorem extract_all {s:ByteArray}(h:s.size<=n):s.extract 0 n=s:=by
 apply GO;simp_all
theorem Ru(s):s++gY 0=s:=by
 apply GO;simp[gY,ByteArray.data_append]
def Fs.put(fs:Fs)(p:Nat)(data:ByteArray):Fs:={fs with late:=fs.late++[(p,data)]}
theorem aI {k:Nat}{o}(x)(h:w.heap[k]?=some o):(w.alloc x).heap[k]?=some o:=(DB w x k (gL h)).trans h
theorem aH.wrote{h d}{β p:Nat}{sv lv b fs data}(c:aH h β sv lv fs)(e:fB 104 2 lv fs.late.length (fs.late.flatMap dD) [.i p,.string data] 1 h b d)(w:fs.late.length<1000000):
  aH (d.setCell ⟨β,1,none⟩ b) β sv b (fs.put p data)/\Fr (fpF β sv lv) h (d.setCell ⟨β,1,none⟩ b)/\aJ h (fpF β sv lv) (fpF β sv b):=by
 have i:=e.fr.heap c.box (aQ c.late c.box (by decide));have o:=aC i 1 b;have r:Fr (fpF β sv lv) h d:=e.fr.mono (λg a=>.inl (.inr (.inr a)));have k:∀{f:TypeId}{m n:Nat}{v:Value}{l:List Value},d.ownsRow 0 f m v n l->63≠f->(d.setCell ⟨β,1,none⟩ b).ownsRow 0 f m v n l:=λj t =>
  aS j ((CJ (λg=>_=some g) d).setCell (p:=⟨β,1,none⟩) (λa=>aQ j i t a) b) (λg a=>a)
 refine⟨⟨by simpa[Fs.put] using o,k (e.keeps c.safe (dJ c.safe c.late (by decide))) (by decide),?_,c.small,by simp[Fs.put];omega⟩,r.setCell (p:=⟨β,1,none⟩) (.inl (.inl rfl)) _,?_⟩
 ·have f:(fs.put p data).late.flatMap dD=fs.late.flatMap dD++[.i p,.string data]:=by simp[Fs.put,dD]
  have q:(fs.put p data).late.length=fs.late.length+1:=by simp[Fs.put]
  rw[f,q];exact k e.row (by decide)
 ·rintro g (a|a|a)
  ·exact .inl (.inl a)
  ·exact .inl (.inr (.inl a))
  ·exact(e.lies g a).imp (λs=>.inr (.inr s)) id
theorem Yd(β sv lv fs p data w)(h:aH w β sv lv fs)(z : -1<=fs.wait)(A:fs.wait<=9223372036854775807)(v : -1<=fs.life)(x:fs.life<=9223372036854775807)(P:data.size=256)(Q:p<fs.safe.length)(y:fs.late.length<1000000):
  cL 116 #[.p β 0,.i p,.string data] w λe w'=>e=.returned (.bool fs.chOk) /\
   ∃r,aH w' β sv r (if fs.chOk then fs.ch.put p data else fs.ch)/\Fr (fpF β sv lv) w w'/\aJ w (fpF β sv lv) (fpF β sv r):=by
 have g:=An β sv lv fs w h z A v x;have R:(p:Int)<(fs.safe.length:Int):=by omega
 obtain⟨a,c,rfl⟩:=aF h.safe;cases hok:fs.chOk
 ·rw[hok]at g
  go_enter Tryz.func116,Tryz.ntmps116;go_wp2_with (go_at_call 111;apply g.mono;rintro e t ⟨rfl,f,k⟩);go_ret;exact⟨rfl,lv,f,k.mono (λi d=>.inl (.inl d)),CQ _ _⟩
 ·rw[hok]at g
  have T:=extract_all (s:=data) (n:=256) (by omega);go_enter Tryz.func116,Tryz.ntmps116;go_wp2_with (go_at_call 111;apply g.mono;rintro e t ⟨rfl,f,k⟩;have⟨E,F,G,H,I⟩:=cU f.box;have S:fs.ch.safe.length=fs.safe.length:=by rw[Fs.ch_safe]);have U:=yP 0;have V:data++gY 0=data:=Ru data;go_region_law (first
   |(go_simp;go_at_call 19;apply(Gz 0 _ (by omega)).mono;rintro e l ⟨rfl,u⟩;have q:Fr Bl.none t l:=(AF _ _).drew.trans (AA u);have b:=f.on (q.on (λi d=>⟨f.lies i d,λh=>h⟩));have⟨J,K,L,M,N⟩:=cU b.box;have a3:=(cU (aI (.cells #[.i p,.string data] 104) b.box)).2.1)
   |(apply iO l rfl (.tmp 35) (.tmp 44) 61 104 _ 2 24 rfl Tryz.underlying61 It rfl (by decide) lv fs.ch.late.length (fs.ch.late.flatMap dD) (by simp[Act.eval,Act.put]) b.late [.i p,.string data] (by simp[Act.eval,Act.put]) rfl (by simp[Value.oneCell']) (by rw[Fs.ch_late];omega) (by rw[Fs.ch_late];omega);intro v3 a4 j;obtain⟨O,W,rfl⟩:=j.shape (by decide);have o:=j.fr.heap b.box (aQ b.late b.box (by decide));have⟨X,Y,Z,a0,a1⟩:=cU o;have a2:=aB o))
  all_goals go_wp2
  all_goals go_ret
  all_goals
   have⟨B,C,D⟩:=b.wrote j (by rw[Fs.ch_late];exact y);have m:Fr (fpF β (.slice a fs.safe.length c) lv) w l:=(k.mono (λi d=>.inl (.inl d))).trans (q.mono (λi d=>d.elim));exact⟨rfl,_,by omega,m.trans C,aJ.trans (CQ w _) m.size D⟩
def laid(safe:List ByteArray)(late:List (Nat×ByteArray)):List ByteArray:=late.foldl (λs x=>s.set x.1 x.2) safe
theorem dY:∀(a:List (Nat×ByteArray)) (b:List ByteArray),(laid b a).length=b.length
 |[],_=>rfl
 |x :: a,b=>by
  show(laid (b.set x.1 x.2) a).length=_
  rw[dY a];simp
theorem qAf(b a x):laid b (a++[x])=(laid b a).set x.1 x.2:=by simp[laid]
def Fs.synced(fs:Fs):Fs:={fs with safe:=laid fs.safe fs.late,late:=[]}
def Fs.fits(fs:Fs):Prop:=∀x∈fs.late,x.1<fs.safe.length
theorem On.drew{Y a w}(h:On Y a w):On Y a w.drew:=h.trans ⟨rfl,rfl,rfl,jU _,λ_ _=>rfl⟩
theorem aH.stored {β s n e p fs data}(h:aH w β (.q s n e) lv fs)(f:n=fs.safe.length):
  aH (w.setCell ⟨s,p,none⟩ (.string data)) β (.q s n e) lv {fs with safe:=fs.safe.set p data}:=by
 subst f;have i:s≠β:=λa=>aQ h.safe h.box (by decide) (by rw[a];rfl);refine⟨(CY w ⟨s,p,none⟩ _ β (λa=>i a.symm)).trans h.box,?_,?_,by simpa using h.small,h.few⟩
 ·have a:(fs.safe.set p data).map Value.string=(fs.safe.map Value.string).set p (.string data):=by rw[List.map_set]
  simp only[a,CL];exact ((World.ownsRow.stored (w:=w) h.safe p (.string data)).1)
 ·refine aS h.late ((CJ (λd=>lv.ownBlock=some d) w).setCell (p:=⟨s,p,none⟩) (λc=>?_) _) (λd c=>c)
  rcases dJ h.safe h.late (by decide) with b|b
  ·simp[Value.ownBlock]at b
  ·exact b (by rw[c];rfl)
theorem qCc(β sv lv fs w)(h:aH w β sv lv fs)(hw0 : -1<=fs.wait)(hw1:fs.wait<=9223372036854775807)(hl0 : -1<=fs.life)(hl1:fs.life<=9223372036854775807)(hfit:fs.fits):
  cL 82 #[.p β 0] w λe w'=>e=.returned (.bool fs.chOk) /\
   ∃lv',aH w' β sv lv' (if fs.chOk then fs.ch.synced else fs.ch)/\Fr (fpF β sv lv) w w'/\aJ w (fpF β sv lv) (fpF β sv lv'):=by
 have hC:=An β sv lv fs w h hw0 hw1 hl0 hl1;obtain⟨sa,sc,rfl⟩:=aF h.safe;obtain⟨la,lc,rfl⟩:=aF h.late;cases hok:fs.chOk
 ·rw[hok]at hC
  go_enter Tryz.func82,Tryz.ntmps82;go_wp2_with (go_at_call 111;apply hC.mono;rintro e w1 ⟨rfl,h1,f1⟩);go_ret;exact⟨rfl,_,h1,f1.mono (λk hk=>.inl (.inl hk)),CQ _ _⟩
 ·rw[hok]at hC
  have hsm:=h.small;have hfw:=h.few;go_enter Tryz.func82,Tryz.ntmps82;go_wp2_with (go_at_call 111;apply hC.mono;rintro e w1 ⟨rfl,h1,f1⟩);have⟨F,hF⟩:∃F:Fs,F=fs.ch:=⟨_,rfl⟩;rw[<-hF]at h1;have e1:F.safe=fs.safe:=by rw[hF];exact Fs.ch_safe fs
  have e2:F.late=fs.late:=by rw[hF];exact Fs.ch_late fs
  go_loopw [4] (λi wr=>∃j:Nat,j<=fs.late.length/\i=.i j/\aH wr β (.slice sa fs.safe.length sc) (.slice la fs.late.length lc) {F with safe:=laid fs.safe (fs.late.take j)}/\Fr (fpF β (.slice sa fs.safe.length sc) (.slice la fs.late.length lc)) w wr) (λi _=>fs.late.length-(intOf i).toNat)
  case atStart=>exact⟨0,AH _,rfl,by simpa[laid,<-e1] using h1,f1.mono (λk hk=>.inl (.inl hk))⟩
  case round =>
   obtain⟨j,hj,rfl,hr,fr⟩:=hrel;have⟨c0,c1,c2,c3,c4⟩:=cU hr.box;have hfr:=aB hr.box;by_cases hlt:j<fs.late.length
   ·have⟨q1,q2⟩:=xC (l:=fs.late) (j:=j) hlt
    have hL:wr.ownsRow 0 104 2 (.slice la fs.late.length lc) fs.late.length (fs.late.flatMap dD):=by have:=hr.late;simp only[e2]at this;exact this
    have hS:wr.ownsRow 0 9 1 (.slice sa fs.safe.length sc) fs.safe.length ((laid fs.safe (fs.late.take j)).map .string):=by have:=hr.safe;simp only[dY]at this;exact this
    have⟨g,hg,hglt,hgc,hgv⟩:=kP hL q1;have⟨g',hg',_,_,hgv'⟩:=kP hL q2;subst hg;cases hg'
    have hp:=hfit _ (AB hlt);have⟨s,hs,hslt,hsc,hsv⟩:=kP hS (j:=(fs.late[j]).1) (u:=.string ((laid fs.safe (fs.late.take j))[(fs.late[j]).1]'(by rw[dY];exact hp))) (by simp[dY,hp]);subst hs;have sfr:=World.ownsRow.frozenAt (w:=wr) hS;have hpi:((fs.late[j]).1:Int)<(fs.safe.length:Int):=by omega
    go_wp2;go_region_with (fail)
    all_goals go_wp2
    all_goals
     refine⟨⟨j+1,by omega,by go_num,?_,(fr.setCell (p:=⟨s,(fs.late[j]).1,none⟩) (.inl (.inr (.inl rfl))) _).drew⟩,by simp[intOf];omega⟩;rw[AK hlt,qAf];exact (hr.stored (p:=(fs.late[j]).1) (data:=(fs.late[j]).2) (by simp[dY])).on (CJ _ _).drew
   ·obtain rfl:j=fs.late.length:=by omega
    have hb5:=aC hr.box 1 .n;go_wp2;go_ret;refine⟨rfl,.n,?_,fr.setCell (p:=⟨β,1,none⟩) (.inl (.inl rfl)) _,?_⟩
    ·have hfe:fs.ch.synced = {F with safe:=laid fs.safe fs.late,late:=[]}:=by rw[hF];simp[Fs.synced,Fs.ch_safe,Fs.ch_late]
     rw[hfe];rw[BG]at hr;refine⟨by simpa using hb5,?_,AL _ _ _ _,hr.small,by simp⟩;exact aS hr.safe ((CJ (λk=>Value.ownBlock _=some k) wr).setCell (p:=⟨β,1,none⟩) (λhk=>aQ hr.safe hr.box (by decide) hk) _) (λk hk=>hk)
    ·rintro k (hk|hk|hk)
     ·exact .inl (.inl hk)
     ·exact .inl (.inr (.inl hk))
     ·simp[Value.ownBlock]at hk
theorem qZ:(Tryz.prog.info? 9).map (λi=>(i.zero,i.size,i.bytes))=some (some (.string ⟨#[]⟩),1,16):=by kernel_rfl
def Fs.new(n:Nat):Fs:=⟨List.replicate n (gY 256),[],-1,-1,0⟩
theorem qJz(z)(n:Nat)(w)(h:(z=(n:Int)/\n<=4096)\/(4096<z/\n=4096))(R)(HR:Hid (∀e w',(∃β sv lv,e=.returned (.p β 0)/\aH w' β sv lv (Fs.new n)/\bW w w'/\∀k,fpF β sv lv k->w.heap.size<=k)->R e w')):
  cL 8 #[.i z] w R:=by
 have hn:n<=4096:=by omega
 have hb0:=aA w (.cells #[.n,.n,.i (-1),.i (-1),.i 0] 63);have HB0:Hid (bW w (w.alloc (.cells #[.n,.n,.i (-1),.i (-1),.i 0] 63))):=bA _ _;have HF0:Hid (aH (w.alloc (.cells #[.n,.n,.i (-1),.i (-1),.i 0] 63)) w.heap.size .n .n (Fs.new 0)):=
  ⟨by simpa[Fs.new] using hb0,AL _ _ _ _,AL _ _ _ _,by simp[Fs.new],by simp[Fs.new]⟩
 have HN:Hid (n=4096\/z=(n:Int)):=by
  rcases h with h|h
  ·exact .inr h.1
  ·exact .inl h.2
 rcases h with⟨rfl,_⟩|⟨hz,h4⟩
 rotate_left;clear h4;have hmin:min z 4096=4096:=by omega
 rotate_left;have hmin:min (n:Int) 4096=(n:Int):=by omega
 all_goals
  go_enter Tryz.func8,Tryz.ntmps8;go_wp2;go_loopw [4] (λi wr=>∃(j:Nat) (sv:Value),j<=n/\i=.i j/\aH wr w.heap.size sv .n (Fs.new j)/\bW w wr/\∀k,sv.ownBlock=some k->w.heap.size<=k) (λi _=>n-(intOf i).toNat)
  case atStart=>exact⟨0,_,AH _,rfl,HF0,HB0,by simp[Value.ownBlock]⟩
  case round =>
   obtain⟨j,sv,hj,rfl,hr,hB,hK⟩:=hrel;clear hb0 HB0 HF0;have⟨c0,c1,c2,c3,c4⟩:=cU hr.box;have hfr:=aB hr.box;by_cases hlt:j<n
   ·have hlen:(Fs.new j).safe.length=j:=by simp[Fs.new]
    have hj4:(j:Int)<4096:=by omega
    go_wp2;go_region_law (first
     |(go_simp;go_at_call 19;apply(Gz 256 _ (by omega)).mono;rintro e w2 ⟨rfl,hb2⟩;have f2:Fr Bl.none wr w2:=(AF _ _).drew.trans (AA hb2);have h2:=hr.on (f2.on (λk hk=>⟨hr.lies k hk,λh=>h⟩));have⟨e0,e1,e2,e3,e4⟩:=cU h2.box;have q1:=(cU (aI (.cells #[.string (gY 256)] 9) h2.box)).1)
     |(apply iO w2 rfl (.tmp 17) (.tmp 19) 60 9 _ 1 16 rfl Tryz.underlying60 qZ rfl (by decide) sv (Fs.new j).safe.length ((Fs.new j).safe.map .string) (by simp[Act.eval,Act.put]) h2.safe [.string (gY 256)] (by simp[Act.eval,Act.put]) rfl (by simp[Value.oneCell']) (by omega) (by omega);intro v3 w3 A3;obtain⟨g3,k3,rfl⟩:=A3.shape (by decide);have b3:=A3.fr.heap h2.box (aQ h2.safe h2.box (by decide));have⟨m0,m1,m2,m3,m4⟩:=cU b3;have mfr:=aB b3))
    all_goals go_wp2
    all_goals
     have b4:=aC b3 0 (.q g3 ((Fs.new j).safe.length+1) k3);have lβ:=(gL hr.box);refine⟨⟨j+1,.q g3 ((Fs.new j).safe.length+1) k3,by omega,by go_num,?_,(hB.trans ((f2.below (KW lβ) (λ_ h=>h.elim)).trans (A3.fr.below (vJ (KW lβ) f2.size) hK))).setCell (p:=⟨w.heap.size,0,none⟩) (jU _) _,?_⟩,by simp[intOf];omega⟩
     ·refine⟨by simpa[Fs.new] using b4,?_,AL _ _ _ _,by simp[Fs.new];omega,by simp[Fs.new]⟩
      have e1:(Fs.new (j+1)).safe.map Value.string=(Fs.new j).safe.map .string++[.string (gY 256)]:=by simp[Fs.new,List.replicate_succ']
      have e2:(Fs.new (j+1)).safe.length=(Fs.new j).safe.length+1:=by simp[Fs.new]
      rw[e1,e2];exact aS A3.row ((CJ (λk=>Value.ownBlock _=some k) w3).setCell (p:=⟨w.heap.size,0,none⟩) (λhk=>aQ A3.row b3 (by decide) hk) _) (λk hk=>hk)
     ·intro k hk
      rcases A3.lies k hk with h|h
      ·exact hK k h
      ·exact vJ (vJ (KW lβ) f2.size) h
   ·obtain rfl:j=n:=by omega
    first
     |(have hx:¬(j:Int)<4096:=(by have:=HN.out;omega))
     |skip
    go_wp2;refine HR _ _ ⟨w.heap.size,sv,.n,rfl,hr,hB,?_⟩;rintro k (hk|hk|hk)
    ·exact Nat.le_of_eq hk.symm
    ·exact hK k hk
    ·simp[Value.ownBlock]at hk
theorem qEc(z)(n:Nat)(w)(h:(z=(n:Int)/\n<=4096)\/(4096<z/\n=4096)):
  cL 8 #[.i z] w λe w'=>∃β sv lv,e=.returned (.p β 0)/\aH w' β sv lv (Fs.new n)/\bW w w'/\∀k,fpF β sv lv k->w.heap.size<=k:=qJz z n w h _ (λ_ _ h=>h)
theorem qHd(n:Nat)(w)(a:n<=4096):
  cL 8 #[.i n] w λe w'=>∃β sv lv,e=.returned (.p β 0)/\aH w' β sv lv (Fs.new n)/\bW w w'/\∀k,fpF β sv lv k->w.heap.size<=k:=qEc n n w (.inl ⟨rfl,a⟩)
theorem qHc(z w)(l:z<0):
  cL 8 #[.i z] w λe w'=>∃β sv lv,e=.returned (.p β 0)/\aH w' β sv lv (Fs.new 0)/\bW w w'/\∀k,fpF β sv lv k->w.heap.size<=k:=by
 have i:min z 4096=z:=by omega
 have g:=aA w (.cells #[.n,.n,.i (-1),.i (-1),.i 0] 63);have d:Hid (bW w (w.alloc (.cells #[.n,.n,.i (-1),.i (-1),.i 0] 63))):=bA _ _;have f:Hid (aH (w.alloc (.cells #[.n,.n,.i (-1),.i (-1),.i 0] 63)) w.heap.size .n .n (Fs.new 0)):=
  ⟨by simpa[Fs.new] using g,AL _ _ _ _,AL _ _ _ _,by simp[Fs.new],by simp[Fs.new]⟩
 have j:¬(0:Int)<z:=by omega
 go_enter Tryz.func8,Tryz.ntmps8;go_wp2;go_loopw [4] (λh c=>h=.i 0/\Hid (aH c w.heap.size .n .n (Fs.new 0)/\bW w c)) (λ_ _=>0)
 case atStart=>exact⟨rfl,f,d⟩
 case round =>
  obtain⟨rfl,b⟩:=hrel;go_wp2;go_ret;refine⟨w.heap.size,.n,.n,rfl,b.1,b.2,?_⟩;rintro k (a|a|a)
  ·exact Nat.le_of_eq a.symm
  ·simp[Value.ownBlock]at a
  ·simp[Value.ownBlock]at a
theorem Rt (w T g a zero z bytes)(b:P.underlying T=some (.slice a))(hi:(P.info? a).map (λi=>(i.zero,i.size,i.bytes))=some (some zero,z,bytes)):
  (Builtin.append_ #[T,T] g #[.n,.n]).run P w=.ok .n w:=by
 have⟨h,c,d,e,f⟩:=EZ hi;simp[Builtin.append_,CV b,sizeOf,typeInfo,c,d,e,f,go_sem]
theorem qFq (w T d a zero z bytes)(e:P.underlying T=some (.slice a))(hi:(P.info? a).map (λi=>(i.zero,i.size,i.bytes))=some (some zero,z,bytes))(t:zero.cells.size=z)(s:0<z)(v n xs)(h:w.ownsRow 0 a z v n xs)(l:∀u∈xs,u.oneCell'=true)(y:n<=140737488355328)(o:n * bytes<=140737488355328):
  ∃v' w',(Builtin.append_ #[T,T] d #[.n,v]).run P w=.ok v' w'/\w'.ownsRow 0 a z v' n xs/\bW w w'/\∀k,v'.ownBlock=some k->w.heap.size<=k:=by
 have⟨f,m⟩:=id h;rcases m with⟨rfl,rfl⟩|⟨g,j,x,rfl,_,A,_⟩
 ·refine⟨_,_,Rt w T d a zero z bytes e hi,?_,AC _ _,by simp[Value.ownBlock]⟩
  omega
 ·have⟨v',w',r,b⟩:=wV (P:=P) w T d a zero z bytes e hi t s .n 0 [] (AL _ _ _ _) ⟨g,0,none⟩ n j xs f (DC (w:=w) h (g:=g) rfl) l (by omega) (by grind);refine⟨v',w',r,by simpa using b.row,b.fr.below (jU _) (by simp[Value.ownBlock]),λk q=>?_⟩;rcases b.lies k q with c|c
  ·simp[Value.ownBlock]at c
  ·exact c
theorem qIh {ops c o a Q}(w)(r:o.guard=none)(x T b zero z bytes)(s:o.op=.call {callee:=.builtin .append,args:=#[.const .n,x],argTypes:=#[T,T]})(m:P.underlying T=some (.slice b))(hi:(P.info? b).map (λi=>(i.zero,i.size,i.bytes))=some (some zero,z,bytes))(C:zero.cells.size=z)(y:0<z)(v n xs)(B:a.eval x=v)(A:w.ownsRow 0 b z v n xs)(g:∀u∈xs,u.oneCell'=true)(j:n<=140737488355328)(p:n * bytes<=140737488355328)(h:∀v' w',w'.ownsRow 0 b z v' n xs->bW w w'->(∀k,v'.ownBlock=some k->w.heap.size<=k)->wpList P ops Q c (a.put o.dst v') w'):wpList P ops Q (o :: c) a w:=by
 refine EN r λK l=>?_;have⟨v',w',t,d,e,f⟩:=qFq (P:=P) w T o.type b zero z bytes m hi C y v n xs A g j p;have q:a.eval (.const .n)=.n:=rfl;unfold Oper.wp execOp;simp only[s,resolve,invoke,builtin,DY,DT,DF,DI,BD,CX,q,B,t];exact l _ _ (h v' w' d e f)
theorem Fg(β sv lv fs w)(h:aH w β sv lv fs):
  cL 15 #[.p β 0] w λe w'=>∃z M I,e=.returned (.p z 0)/\aH w' z M I fs/\bW w w'/\∀k,fpF z M I k->w.heap.size<=k:=by
 obtain⟨v,y,rfl⟩:=aF h.safe;obtain⟨m,n,rfl⟩:=aF h.late;obtain⟨V,W,X,Y,Z⟩:=cU h.box;obtain⟨c,t,A,C,-⟩:=al1 w (.cells #[.slice v fs.safe.length y,.slice m fs.late.length n,.i fs.wait,.i fs.life,.i fs.failed] 63);have ao:w.heap.size<c.heap.size:=by rw[<-t];simp
 have l:=h.on (vV A h.lies);obtain⟨a0,a1,a2,a3,a4⟩:=cU l.box;have ac:=h.lies β (.inl rfl);have ad:β≠w.heap.size:=by omega
 have P:=h.small;have O:=h.few;have T:∀r∈fs.safe.map Value.string,r.oneCell'=true:=by simp[Value.oneCell']
 have U:∀r∈fs.late.flatMap dD,r.oneCell'=true:=by intro r F;simp only[AV,dD]at F;obtain⟨x,_,G⟩:=F;simp at G;rcases G with rfl|rfl<;>rfl
 go_enter Tryz.func15,Tryz.ntmps15;go_wp2_with (first
  |(at_builtin;refine qIh c rfl (.tmp 10) 60 9 _ 1 16 rfl Tryz.underlying60 qZ rfl (by decide) _ fs.safe.length (fs.safe.map .string) rfl l.safe T (by omega) (by omega) ?_;intro au j J g H;obtain⟨o,q,rfl⟩:=aF J;have s:=(g.block _ (gL C)).trans C;have aa:=aB s;obtain⟨ae,af,ag,ah,ai⟩:=cU s;obtain⟨b,f⟩:=nM (j.setCell ⟨w.heap.size,0,none⟩ (.slice o fs.safe.length q));have D:b.heap[w.heap.size]?=some (.cells #[.slice o fs.safe.length q,.slice m fs.late.length n,.i fs.wait,.i fs.life,.i fs.failed] 63):=(by rw[<-f];simpa using aC s 0 (.slice o fs.safe.length q));have N:=l.on (vV g l.lies);have E:aH b β (.slice v fs.safe.length y) (.slice m fs.late.length n) fs:=(by rw[<-f];exact N.on ((CJ _ _).setCell (p:=⟨w.heap.size,0,none⟩) (λa=>by have:=h.lies _ a;exact Nat.lt_irrefl _ this) _));obtain⟨a5,a6,a7,a8,a9⟩:=cU E.box)
  |(at_builtin;refine qIh b rfl (.tmp 16) 61 104 _ 2 24 rfl Tryz.underlying61 It rfl (by decide) _ fs.late.length (fs.late.flatMap dD) rfl E.late U (by omega) (by omega) ?_;intro av B u i Q;obtain⟨R,S,rfl⟩:=aF u;have d:=(i.block _ (gL D)).trans D;have ab:=aB d;obtain⟨aj,ak,al,am,an⟩:=cU d))
 go_ret;have ap:=g.size;have aq:b.heap.size=j.heap.size:=by rw[<-f];simp[World.setCell]
 have ar:=i.size;have K:b.ownsRow 0 9 1 (.slice o fs.safe.length q) fs.safe.length (fs.safe.map .string):=by
  rw[<-f];exact aS J ((CJ (λk=>Value.ownBlock _=some k) j).setCell (p:=⟨w.heap.size,0,none⟩) (λa=>by have:=H _ a;simp at this;omega) _) (λk a=>a)
 refine⟨_,_,_,rfl,⟨by simpa using aC d 1 (.slice R fs.late.length S),?_,?_,P,O⟩,?_,?_⟩
 ·have L:=aS K (vV i (λk a=>aM K a)) (λk a=>a)
  exact aS L ((CJ (λk=>Value.ownBlock _=some k) B).setCell (p:=⟨w.heap.size,1,none⟩) (λa=>aQ L d (by decide) a) _) (λk a=>a)
 ·exact aS u ((CJ (λk=>Value.ownBlock _=some k) B).setCell (p:=⟨w.heap.size,1,none⟩) (λa=>aQ u d (by decide) a) _) (λk a=>a)
 ·exact(A.trans ((g.mono (by omega)).trans ((Below.trans (f▸(AC w.heap.size j).setCell (p:=⟨w.heap.size,0,none⟩) (jU _) _) (i.mono (by omega)))))).setCell (p:=⟨w.heap.size,1,none⟩) (jU _) _
 ·rintro k (a|a|a)
  ·exact Nat.le_of_eq a.symm
  ·have:=H k a;omega
  ·have:=Q k a;omega
theorem Bm(s:Sp)(k w):
  cL 136 #[.agg #[.string s.lo,.string s.hi],.string k] w λe w'=>e=.returned (.bool (s.has k))/\bW w w':=by
 have b:bW w (w.alloc (.cells #[.string s.lo,.string s.hi] 154)):=bA _ _;cases h1:Op.bytesLess k.toList s.lo.toList<;>cases h2:s.hi.toList.isEmpty<;>cases h3:Op.bytesLess k.toList s.hi.toList
 all_goals
  have a:Hid (s.has k=(!Op.bytesLess k.toList s.lo.toList&&(s.hi.toList.isEmpty||Op.bytesLess k.toList s.hi.toList))):=rfl;rw[h1,h2,h3]at a;go_enter Tryz.func136,Tryz.ntmps136;go_wp2;go_ret;exact⟨bQ (by rw[a.out];rfl),b⟩
theorem Zv(s o:Sp)(w):
  cL 162 #[.agg #[.string s.lo,.string s.hi],.agg #[.string o.lo,.string o.hi]] w λe w'=>e=.returned (.bool (s.meets o))/\bW w w':=by
 have b:bW w ((w.alloc (.cells #[.string s.lo,.string s.hi] 154)).alloc (.cells #[.string o.lo,.string o.hi] 154)):=(bA _ _).alloc (by simp) _;cases h1:s.hi.toList.isEmpty<;>cases h2:Op.bytesLess o.lo.toList s.hi.toList<;>cases h3:o.hi.toList.isEmpty<;>cases h4:Op.bytesLess s.lo.toList o.hi.toList
 all_goals
  have a:Hid (s.meets o=((s.hi.toList.isEmpty||Op.bytesLess o.lo.toList s.hi.toList)&&(o.hi.toList.isEmpty||Op.bytesLess s.lo.toList o.hi.toList))):=rfl;rw[h1,h2,h3,h4]at a;go_enter Tryz.func162,Tryz.ntmps162;go_wp2;go_ret;exact⟨bQ (by rw[a.out];rfl),b⟩
def Rz(s:ByteArray)(g:Pg):Prop:=s.size=256/\(eO s.data.toList).encE=0/\(eO s.data.toList).encS=s/\g=eO s.data.toList
def Fs.has(fs:Fs)(p:Nat)(g:Pg):Prop:=p<fs.safe.length/\Rz (fs.at p) g
def New(w w':World):Bl:=λk=>w.heap.size<=k/\k<w'.heap.size
theorem xO {B e z v xs}(h:w'.ownsRow B e z v n xs)(i:B=w.heap.size):∃a c,v=.slice a n c/\n<=c/\aD w' (New w w') a xs:=by
 have d:=ED (w:=w') h;have⟨l,f⟩:=id h;rcases f with⟨rfl,rfl⟩|⟨g,q,r,rfl,_,_,m,_⟩
 ·exact⟨none,0,rfl,jU _,.inl (AG (by simpa using l))⟩
 ·refine⟨_,_,rfl,m,.inr ⟨g,0,rfl,⟨i▸(d g rfl).1,(d g rfl).2⟩,λb p o=>?_⟩⟩
  have:=(λg k=>DC (w:=w') h (g:=g) k) g rfl b p o;have e:(⟨g,0,none⟩:Addr).add b=⟨g,0+b,none⟩:=by unfold Addr.add;split<;>simp_all
  rw[e]at this;exact this
theorem qBo.on {g v}(h:qBo w' w.heap.size g v):qBn w' (New w w') g v:=by
 obtain⟨t,s,r,rfl,c,d,e⟩:=h;obtain⟨m,n,rfl,j,o⟩:=xO c rfl;obtain⟨k,l,rfl,i,p⟩:=xO d rfl;obtain⟨a,b,rfl,f,q⟩:=xO e rfl;exact⟨m,k,a,n,l,b,rfl,o,p,q,j,i,f⟩
theorem Jd{s g}(c:Rz s g)(w):
  cL 143 #[.string s] w λe w'=>∃h d a i f b,e=.returned (.tuple #[.agg #[.i g.kind,.i g.ver,.i g.root,.i g.next,.slice h g.keys.length i,.slice d g.kids.length f,.slice a g.ents.length b,.string g.data],.i 0]) /\
   aD w' (New w w') h (g.keys.map .string)/\aD w' (New w w') d (g.kids.map (.int .i64))/\aD w' (New w w') a (g.ents.flatMap Ent.cells)/\(g.keys.length<=i/\g.kids.length<=f/\g.ents.length<=b)/\bW w w':=by
 apply(Fb s w).mono;rintro e w' ⟨j,(⟨_,_,_,v,rfl,l⟩|⟨k,_⟩)⟩
 ·obtain⟨h,d,a,i,f,b,rfl,r⟩:=qBo.on l
  obtain⟨_,_,_,rfl⟩:=c;exact⟨h,d,a,i,f,b,rfl,r.1,r.2.1,r.2.2.1,r.2.2.2,j⟩
 ·exact absurd ⟨c.1,c.2.1,c.2.2.1⟩ k
def Az(u:World)(β:Nat)(v0 v1 v2 v3 v4 v5 v6 v7:Value):World :=
 ((((((((u.setCell ⟨β,0,none⟩ v0).setCell ⟨β,1,none⟩ v1).setCell ⟨β,2,none⟩ v2).setCell ⟨β,3,none⟩ v3).setCell ⟨β,4,none⟩ v4).setCell ⟨β,5,none⟩ v5).setCell ⟨β,6,none⟩ v6).setCell ⟨β,7,none⟩ v7)
theorem Cw {u i j k l m n o p t}(h:u.heap[β]?=some (.cells #[i,j,k,l,m,n,o,p] t))(a b c v3 d e f g):(Az u β a b c v3 d e f g).heap[β]?=some (.cells #[a,b,c,v3,d,e,f,g] t):=vL h a b c v3 d e f g
theorem Ki(u β e f g v3 h i j k):Fr (Bl.one β) u (Az u β e f g v3 h i j k):=by
 have a:∀(c:World) (b:Nat) (v:Value),Fr (Bl.one β) u c->Fr (Bl.one β) u (c.setCell ⟨β,b,none⟩ v):=λc b v d=>d.setCell (p:=⟨β,b,none⟩) (.inl rfl) v;exact a _ _ _ (a _ _ _ (a _ _ _ (a _ _ _ (a _ _ _ (a _ _ _ (a _ _ _ (a _ _ _ (AF _ _))))))))
abbrev pgO(g:Pg)(ka ia ea:Option Addr)(kc ic ec:Nat):Obj:=.cells #[.int .i64 g.kind,.int .i64 g.ver,.int .i64 g.root,.int .i64 g.next,.slice ka g.keys.length kc,.slice ia g.kids.length ic,.slice ea g.ents.length ec,.string g.data] 80
theorem Dx(β sv lv fs root o r q p g w)(h:aH w β sv lv fs)(A:(fs.life==0)=false)(U:fs.has p g):
  cL 138 #[.agg (tA β root o r q),.i p] w λe w'=>∃v,e=.returned v/\qBn w' (New w w') g v/\bW w w':=by
 obtain⟨J,X⟩:=U;have W:fs.readS p=fs.at p:=by simp[Fs.readS,J,A]
 have V:(decide (p<fs.safe.length)&&!(fs.life==0))=true:=by simp[J,A]
 obtain⟨a,x,s,a5,K,-⟩:=al2 w (.cells (tA β root o r q) 90) (.cells #[.i 0,.i 0,.i 0,.i 0,.n,.n,.n,.string ⟨#[]⟩] 80);have G:=h.on (vV s h.lies);have I:=pO β sv lv fs p a G;rw[W,V]at I;have H:=iL β sv lv fs a G;rw[A]at H; have ar:a.c w.heap.size 0=some (.p β 0):=by simp[World.cell?,a5]
 have a0:=(gL K);have T:=Jd X a;go_enter Tryz.func138,Tryz.ntmps138;go_wp2_with (first
  |(go_at_call 142;refine I.mono ?_;rintro e w' ⟨rfl,Y⟩;subst w')
  |(go_at_call 49;refine H.mono ?_;rintro e w' ⟨rfl,Y⟩;subst w')
  |(go_at_call 143;refine T.mono ?_;rintro e l ⟨j,f,c,k,i,d,rfl,a1,a2,a3,a4,z⟩;obtain⟨b,y,-,a6,-⟩:=al1 l (pgO g j f c k i d);obtain⟨a9,aa,ab,ac,ad,ae,af,ag⟩:=bM a6;have t:bW a b:=z.trans (y▸(AC _ _).alloc z.size _);have C:=(t.block _ a0).trans K;obtain⟨ah,ai,aj,ak,al,am,an,ao⟩:=bM C;have ap:=aB C;have aq:=z.size))
 obtain⟨D,a8⟩:=nM (Az b (w.heap.size+1) (.i g.kind) (.i g.ver) (.i g.root) (.i g.next) (.slice j g.keys.length k) (.slice f g.kids.length i) (.slice c g.ents.length d) (.string g.data));have a7:=Cw C (.i g.kind) (.i g.ver) (.i g.root) (.i g.next) (.slice j g.keys.length k) (.slice f g.kids.length i) (.slice c g.ents.length d) (.string g.data);have F:=Ki b (w.heap.size+1) (.i g.kind) (.i g.ver) (.i g.root) (.i g.next) (.slice j g.keys.length k) (.slice f g.kids.length i) (.slice c g.ents.length d) (.string g.data);obtain⟨L,M,N,O,P,Q,R,S⟩:=bM a7;unfold Az at L M N O P Q R S;refine BI (v:=.agg #[.i g.kind,.i g.ver,.i g.root,.i g.next,.slice j g.keys.length k,.slice f g.kids.length i,.slice c g.ents.length d,.string g.data]) ?_ rfl ⟨_,rfl,?_,?_⟩
 ·simp[results,Tryz.results138,go_sem,L,M,N,O,P,Q,R,S]
 ·have E:Fr (Bl.one (w.heap.size+1)) l (Az b (w.heap.size+1) (.i g.kind) (.i g.ver) (.i g.root) (.i g.next) (.slice j g.keys.length k) (.slice f g.kids.length i) (.slice c g.ents.length d) (.string g.data)):=(y▸(AF _ l).alloc _:Fr (Bl.one (w.heap.size+1)) l b).trans F
  have B:=E.on (Z:=New a l) (λn m=>⟨m.2,λe=>by simp only[Bl.one]at e;have:=m.1;omega⟩);have u:∀n,New a l n->New w (Az b (w.heap.size+1) (.i g.kind) (.i g.ver) (.i g.root) (.i g.next) (.slice j g.keys.length k) (.slice f g.kids.length i) (.slice c g.ents.length d) (.string g.data)) n:=λn m=>⟨by have:=m.1;have:=s.size;omega,jY m.2 E.size⟩;exact⟨j,f,c,k,i,d,rfl,(a1.on B).mono u,(a2.on B).mono u,(a3.on B).mono u,a4⟩
 ·exact(s.trans (t.mono (by omega))).trans (F.below (by have:=t.size;omega) (oK (by omega)))
theorem Kz {l:List Ent}(a:j<l.length):(l.flatMap Ent.cells)[j * 4]?=some (.string (l[j]).key)/\(l.flatMap Ent.cells)[j * 4+1]?=some (.string (l[j]).val)/\(l.flatMap Ent.cells)[j * 4+2]?=some (.i (l[j]).size)/\(l.flatMap Ent.cells)[j * 4+3]?=some (.i (l[j]).over):=by
 induction l generalizing j with
 |nil=>simp at a
 |cons x l ih =>
  cases j with
  |zero=>simp[Ent.cells]
  |succ j =>
   have:=ih (j:=j) (by grind);have b:(j+1) * 4=j * 4+4:=by omega
   have c:(j+1) * 4+1=j * 4+1+4:=by omega
   have d:(j+1) * 4+2=j * 4+2+4:=by omega
   have e:(j+1) * 4+3=j * 4+3+4:=by omega
   rw[c,d,e,b];simpa[Ent.cells] using this
theorem aD.ent {S a}{l:List Ent}(h:aD w S a (l.flatMap Ent.cells))(n:j<l.length):∃b c,a=some ⟨b,c,none⟩/\S b/\w.c b (c+j * 4)=some (.string (l[j]).key)/\w.c b (c+j * 4+1)=some (.string (l[j]).val)/\w.c b (c+j * 4+2)=some (.i (l[j]).size)/\w.c b (c+j * 4+3)=some (.i (l[j]).over):=by
 have⟨e,f,g,i⟩:=Kz n;rcases h with h|⟨b,c,k,m,d⟩
 ·grind
 grind
theorem wrap_small (h:n<=4294967296):IntKind.i64.wrap (n:Int)=(n:Int):=by simp[IntKind.wrap,IntKind.bits,IntKind.signed];omega
abbrev qDo:Obj:=.cells #[.int .i64 0,.int .i64 0,.int .i64 0,.int .i64 0,.slice none 0 0,.slice none 0 0,.slice none 0 0,.string ⟨#[]⟩] 80
structure Ch where
 key:ByteArray
 val:ByteArray
 gone:Bool
def Ch.cells(c:Ch):List Value:=[.string c.key,.string c.val,.bool c.gone]
def cJ(cs:List Ch):Prop:=cs.Pairwise (λa b=>lt a.key b.key=true)
def cZ:List Ch->ByteArray->Nat
 |[],_=>0
 |c :: cs,k=>if lt c.key k=true then cZ cs k+1 else 0
def fnd(cs:List Ch)(k:ByteArray):Bool:=match cs[cZ cs k]? with|some c=>!lt k c.key|none=>false
theorem tI:∀(cs:List Ch) (k:ByteArray),cZ cs k<=cs.length
 |[],_=>jU _
 |c :: cs,k=>by
  have:=tI cs k;simp only[cZ,jB];split<;>omega
theorem tH:∀{cs:List Ch}{k:ByteArray}{i:Nat},i<cZ cs k->∃h:i<cs.length,lt cs[i].key k=true
 |[],_,i,hi=>by simp[cZ]at hi
 |c :: cs,k,i,hi=>by
  simp only[cZ]at hi;split at hi
  ·rename_i hc
   cases i with
   |zero=>grind
   |succ i =>
    have⟨h,a⟩:=tH (cs:=cs) (k:=k) (i:=i) (by omega);grind
  ·omega
theorem qL:∀{cs:List Ch}{k:ByteArray},cJ cs->∀{i:Nat},cZ cs k<=i->∀(a:i<cs.length),lt cs[i].key k=false
 |[],_,_,i,_,a=>by simp at a
 |c :: cs,k,hr,i,hi,a=>by
  have⟨d,e⟩:=BC.1 hr;simp only[cZ]at hi;split at hi
  ·cases i with
   |zero=>omega
   |succ i=>exact qL e (by omega) (by simpa using a)
  ·rename_i hc
   have b:lt c.key k=false:=by grind
   cases i with
   |zero=>exact b
   |succ i =>
    cases hx:lt (cs[i]'(by simpa using a)).key k
    ·exact hx
    ·have:=eV (d (cs[i]'(by simpa using a)) (AB _)) hx;grind
theorem qGr{cs k}(f:cJ cs){i}(hi:i<=cs.length)(c:∀j (h:j<cs.length),j<i->lt cs[j].key k=true)(d:∀j (h:j<cs.length),i<=j->lt cs[j].key k=false):cZ cs k=i:=by
 have g:=tI cs k;by_cases h:cZ cs k<i
 ·have b:=qL f (jU _) (by omega:cZ cs k<cs.length);rw[c (cZ cs k) (by omega) h]at b;cases b
 ·by_cases h':i<cZ cs k
  ·have⟨e,a⟩:=tH h'
   grind
  ·omega
theorem Rf {l:List Ch}(a:j<l.length):(l.flatMap Ch.cells)[j * 3]?=some (.string (l[j]).key)/\(l.flatMap Ch.cells)[j * 3+1]?=some (.string (l[j]).val)/\(l.flatMap Ch.cells)[j * 3+2]?=some (.bool (l[j]).gone):=by
 induction l generalizing j with
 |nil=>simp at a
 |cons x l ih =>
  cases j with
  |zero=>simp[Ch.cells]
  |succ j =>
   have:=ih (j:=j) (by simpa using a);have b:(j+1) * 3=j * 3+3:=by omega
   have c:(j+1) * 3+1=j * 3+1+3:=by omega
   have d:(j+1) * 3+2=j * 3+2+3:=by omega
   rw[c,d,b];simpa[Ch.cells] using this
theorem aD.ch {S a}{l:List Ch}(h:aD w S a (l.flatMap Ch.cells))(m:j<l.length):∃b c,a=some ⟨b,c,none⟩/\S b/\w.c b (c+j * 3)=some (.string (l[j]).key)/\w.c b (c+j * 3+1)=some (.string (l[j]).val)/\w.c b (c+j * 3+2)=some (.bool (l[j]).gone):=by
 have⟨d,f,g⟩:=Rf m;rcases h with h|⟨b,c,i,k,e⟩
 ·grind
 grind
theorem yC(s w):cL 160 #[.string s] w λe w'=>e=.returned (.bool false)/\w'=w:=by
 have a:(s.toList==s.toList)=true:=by simp
 go_enter Tryz.func160,Tryz.ntmps160;go_wp2;go_ret;simp
def wS(a b:ByteArray):Int:=if lt a b then -1 else if lt b a then 1 else 0
theorem vP{k a b}(h:a=b):Ending.returned (.int k a)=.returned (.int k b):=by rw[h]
theorem Qt(a b w):cL 133 #[.string a,.string b] w λe w'=>e=.returned (.i (wS a b))/\w'=w:=by
 cases h1:Op.bytesLess a.toList b.toList
 ·by_cases h2:a=b
  ·have f:(a.toList==b.toList)=true:=Ii h2
   have c:Hid (wS a b=0):=by show _=_;subst h2;simp[wS,cF]
   clear h2;go_enter Tryz.func133,Tryz.ntmps133;go_wp2_with (go_at_call 160;apply(yC _ _).mono;rintro e w' ⟨rfl,d⟩;subst w');go_ret;exact⟨vP c.symm,rfl⟩
  ·have f:=Bi h2
   have g:lt b a=true:=by
    cases h:lt b a
    ·exact absurd (kU h1 h) h2
    ·rfl
   have c:Hid (wS a b=1):=by show _=_;unfold wS;rw[show lt a b=false from h1,g];rfl
   go_enter Tryz.func133,Tryz.ntmps133;go_wp2_with (go_at_call 160;apply(yC _ _).mono;rintro e w' ⟨rfl,d⟩;subst w');go_ret;exact⟨vP c.symm,rfl⟩
 ·have c:Hid (wS a b = -1):=by show _=_;simp[wS,lt,h1]
  go_enter Tryz.func133,Tryz.ntmps133;go_wp2_with (go_at_call 160;apply(yC _ _).mono;rintro e w' ⟨rfl,d⟩;subst w');go_ret;exact⟨vP c.symm,rfl⟩
theorem yW(c:Ch)(k w):cL 132 #[.agg #[.string c.key,.string c.val,.bool c.gone],.string k] w λe w'=>e=.returned (.i (wS c.key k))/\bW w w':=by
 have a:bW w (w.alloc (.cells #[.string c.key,.string c.val,.bool c.gone] 101)):=bA _ _;go_enter Tryz.func132,Tryz.ntmps132;go_wp2_with (go_at_call 133;apply(Qt _ _ _).mono;rintro e w' ⟨rfl,b⟩;subst w');go_ret;simp_all
