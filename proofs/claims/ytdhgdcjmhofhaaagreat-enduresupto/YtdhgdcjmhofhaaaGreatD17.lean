import Derived.Test.YtdhgdcjmhofhaaaGreatD14
import Derived.Test.YtdhgdcjmhofhaaaGreatD15
set_option linter.all false
set_option maxRecDepth 100000
set_option maxHeartbeats 8000000
namespace Go.Proofs.YtdhgdcjmhofhaaaGreat.Tree
open Go.RowKit Pages
variable {P:Program} {j k n β:Nat} {lv:Value} {s:ByteArray} {w w':World}
def fH(n:Nat):ByteArray:=⟨(List.replicate n (0:UInt8)).toArray⟩
def pA(n):(fH n).size=n:=by show(List.replicate n (0:UInt8)).toArray.size=n;simp
def vS(n):(madeCells (Value.int .u8 0).cells (n * 1)).toList=(List.replicate n (0:UInt8)).map fO:=by
 apply GB
 .simp[madeCells]
 .intro c a b
  simp[madeCells,Value.cells,fO,Nat.mod_one]
def Ii(n:Nat)(w)(q:n<=100000):
  cL 19 #[.i n] w λe w'=>e=.r (.t (fH n))/\bW w w':=by
 have⟨l,g,i,j,k⟩:=EX Kb;have⟨c,p,b,a⟩:=JP (P:=Tryz.prog) w 0 108 5 l (.int .u8 0) 1 Tryz.underlying108 g i j .i64 .i64 n (by omega) (by rw[k];omega) (by unfold maxLen;omega) (AG _);rw[vS]at b;have f:Buf c 0 (.q w.heap.size n n) (List.replicate n 0):=by
  unfold Buf;simpa using b
 have o:=Buf.string f;have d:Hid (bW w c):=⟨a.os,a.tape,a.output,a.size,λm h=>a.block m h (by simp)⟩;go_enter Tryz.func19,Tryz.ntmps19;go_wp2;go_ret;exact⟨rfl,d⟩
def Fs.chOk(fs:Fs):Bool:=!(fs.life==0)&&!(fs.wait==0)
def Fs.ch(fs:Fs):Fs :=
 if fs.chOk then {fs with wait:=if 0<fs.wait then fs.wait-1 else fs.wait,life:=if 0<fs.life then fs.life-1 else fs.life}
 else {fs with failed:=wrap64 (fs.failed+1),wait:=if fs.life==0 then fs.wait else -1}
def Fs.ch_safe(fs:Fs):fs.ch.safe=fs.safe:=by unfold Fs.ch;split<;>rfl
def DQ:=@Fs.ch_safe
def Fs.ch_late(fs:Fs):fs.ch.late=fs.late:=by unfold Fs.ch;split<;>rfl
def DY:=@Fs.ch_late
def aF.rebox {sv lv fs c}(h:aF w β sv lv fs)(f:Fr (Bl.one β) w w')(e:c.safe=fs.safe)(g:c.late=fs.late)(i:cW w' β #[sv,lv,.i c.wait,.i c.life,.i c.failed] 63):aF w' β sv lv c:=by
 refine⟨i,?_,?_,by rw[e];exact h.small,by rw[g];exact h.few⟩
 .rw[e]
  exact aS h.safe (f.on (Z:=λb=>sv.ownBlock=some b) (λb a=>⟨aK h.safe a,λd=>by cases d;exact aP h.safe h.box (by decide) a⟩)) (λb a=>a)
 .rw[g]
  exact aS h.late (f.on (Z:=λb=>lv.ownBlock=some b) (λb a=>⟨aK h.late a,λd=>by cases d;exact aP h.late h.box (by decide) a⟩)) (λb a=>a)
def Bv(β sv lv fs w)(h:aF w β sv lv fs)(G : -1<=fs.wait)(H:fs.wait<=9223372036854775807)(E : -1<=fs.life)(F:fs.life<=9223372036854775807):
  cL 111 #[.p β 0] w λe w'=>e=.r (.bool fs.chOk)/\aF w' β sv lv fs.ch/\Fr (Bl.one β) w w':=by
 obtain⟨z,A,B,t,C⟩:=cV h.box;have D:=aA h.box;have f:∀w',Fr (Bl.one β) w w'->cW w' β #[sv,lv,.i fs.ch.wait,.i fs.ch.life,.i fs.ch.failed] 63->aF w' β sv lv fs.ch/\Fr (Bl.one β) w w' :=
  λw' j v=>⟨h.rebox j fs.ch_safe fs.ch_late v,j⟩
 have g:=AE (Bl.one β) w;have d:∀(m:World) (l:Nat) (n:Value),Fr (Bl.one β) w m->Fr (Bl.one β) w (m.setCell (aD β l) n):=λm l n j=>j.setCell (p:=(aD β l)) (.inl rfl) n;by_cases hl:fs.life=0
 .have a:Hid (fs.chOk=false):=by show _=_;simp[Fs.chOk,hl]
  have b:Hid (fs.ch = {fs with failed:=wrap64 (fs.failed+1)}):=by show _=_;simp[Fs.ch,a.o,hl]
  have c:=aB h.box 4 (.i (wrap64 (fs.failed+1)));obtain⟨o,q,r,k,s⟩:=cV (w:=w.setCell (aD β 4) (.i (wrap64 (fs.failed+1)))) (by simpa using c);rw[hl]at t k;go_enter Tryz.func111,Tryz.ntmps111;go_wp2;go_ret;refine⟨bZ a.o.symm,f _ (d _ _ _ g) ?_⟩;rw[b.o];simpa[hl] using c
 .by_cases hw:fs.wait=0
  .have a:Hid (fs.chOk=false):=by show _=_;simp[Fs.chOk,hw]
   have x:(fs.life==0)=false:=by simpa using hl
   have y:(fs.wait==0)=true:=by simpa using hw
   have b:Hid (fs.ch = {fs with failed:=wrap64 (fs.failed+1),wait:=-1}):=by show _=_;simp[Fs.ch,a.o,hl]
   have c:=aB h.box 4 (.i (wrap64 (fs.failed+1)));obtain⟨o,q,r,k,s⟩:=cV (w:=w.setCell (aD β 4) (.i (wrap64 (fs.failed+1)))) (by simpa using c);have u:=aA c;have i:=aB c 2 (.i (-1));go_enter Tryz.func111,Tryz.ntmps111;go_wp2;go_ret;refine⟨bZ a.o.symm,f _ (d _ _ _ (d _ _ _ g)) ?_⟩;rw[b.o];simpa using i
  .have a:Hid (fs.chOk=true):=by show _=_;simp[Fs.chOk,hl,hw]
   have x:(fs.life==0)=false:=by simpa using hl
   have y:(fs.wait==0)=false:=by simpa using hw
   by_cases hw2:0<fs.wait
   .have c:=aB h.box 2 (.i (fs.wait-1))
    obtain⟨o,q,r,k,s⟩:=cV (w:=w.setCell (aD β 2) (.i (fs.wait-1))) (by simpa using c);have u:=aA c;by_cases hl2:0<fs.life
    .have b:Hid (fs.ch = {fs with wait:=fs.wait-1,life:=fs.life-1}):=by show _=_;simp[Fs.ch,a.o,hw2,hl2]
     have i:=aB c 3 (.i (fs.life-1));go_enter Tryz.func111,Tryz.ntmps111;go_wp2;go_ret;refine⟨bZ a.o.symm,f _ (d _ _ _ (d _ _ _ g)) ?_⟩;rw[b.o];simpa using i
    .have b:Hid (fs.ch = {fs with wait:=fs.wait-1}):=by show _=_;simp[Fs.ch,a.o,hw2,hl2]
     go_enter Tryz.func111,Tryz.ntmps111;go_wp2;go_ret;refine⟨bZ a.o.symm,f _ (d _ _ _ g) ?_⟩;rw[b.o];simpa using c
   .by_cases hl2:0<fs.life
    .have b:Hid (fs.ch = {fs with life:=fs.life-1}):=by show _=_;simp[Fs.ch,a.o,hw2,hl2]
     have i:=aB h.box 3 (.i (fs.life-1));go_enter Tryz.func111,Tryz.ntmps111;go_wp2;go_ret;refine⟨bZ a.o.symm,f _ (d _ _ _ g) ?_⟩;rw[b.o];simpa using i
    .have b:Hid (fs.ch=fs):=by show _=_;simp[Fs.ch,a.o,hw2,hl2]
     go_enter Tryz.func111,Tryz.ntmps111;go_wp2;go_ret;refine⟨bZ a.o.symm,f _ g ?_⟩;rw[b.o];exact h.box
def Ka:(Tryz.prog.info? 104).map (λi=>(i.zero,i.size,i.bytes))=some (some (.agg #[.i 0,.e]),2,24):=by kernel_rfl
def extract_all (h:s.size<=n):s.extract 0 n=s:=by
 apply FO;simp_all
def Td(s):s++fH 0=s:=by
 apply FO;simp[fH,ByteArray.data_append]
def Fs.put(fs:Fs)(p:Nat)(data:ByteArray):Fs:={fs with late:=fs.late++[(p,data)]}
def aQ {o}(x)(h:w.heap[k]?=some o):(w.alloc x).heap[k]?=some o:=(DA w x k (gL h)).t h
def aF.wrote{h d}{β p:Nat}{sv lv b fs data}(c:aF h β sv lv fs)(e:fF 104 2 lv fs.late.length (fs.late.flatMap dQ) [.i p,.t data] 1 h b d)(w:fs.late.length<1000000):
  aF (d.setCell (aD β 1) b) β sv b (fs.put p data)/\Fr (fpF β sv lv) h (d.setCell (aD β 1) b)/\aJ h (fpF β sv lv) (fpF β sv b):=by
 have i:=e.fr.heap c.box (aP c.late c.box (by decide));have o:=aB i 1 b;have r:Fr (fpF β sv lv) h d:=e.fr.m (λg a=>.inl (.inr (.inr a)));have k:∀{f:TypeId}{m n:Nat}{v:Value}{l:List Value},d.ownsRow 0 f m v n l->63≠f->(d.setCell (aD β 1) b).ownsRow 0 f m v n l:=λj t =>
  aS j ((CN (λg=>_=some g) d).setCell (p:=(aD β 1)) (λa=>aP j i t a) b) (λg a=>a)
 refine⟨⟨by simpa[Fs.put] using o,k (e.keeps c.safe (dS c.safe c.late (by decide))) (by decide),?_,c.small,by simp[Fs.put];omega⟩,r.s β 1 (.inl (.inl rfl)),?_⟩
 .have f:(fs.put p data).late.flatMap dQ=fs.late.flatMap dQ++[.i p,.t data]:=by simp[Fs.put,dQ]
  have q:(fs.put p data).late.length=fs.late.length+1:=by simp[Fs.put]
  rw[f,q];exact k e.row (by decide)
 .rintro g (a|a|a)
  .exact .inl (.inl a)
  .exact .inl (.inr (.inl a))
  .exact(e.lies g a).imp (λs=>.inr (.inr s)) id
def yJ(β sv lv fs p data w)(h:aF w β sv lv fs)(z : -1<=fs.wait)(A:fs.wait<=9223372036854775807)(v : -1<=fs.life)(x:fs.life<=9223372036854775807)(P:data.size=256)(Q:p<fs.safe.length)(y:fs.late.length<1000000):
  cL 116 #[.p β 0,.i p,.t data] w λe w'=>e=.r (.bool fs.chOk) /\
   ∃r,aF w' β sv r (if fs.chOk then fs.ch.put p data else fs.ch)/\Fr (fpF β sv lv) w w'/\aJ w (fpF β sv lv) (fpF β sv r):=by
 have g:=Bv β sv lv fs w h z A v x;have R:(p:Int)<(fs.safe.length:Int):=by omega
 obtain⟨a,c,rfl⟩:=aG h.safe;cases hok:fs.chOk
 .rw[hok]at g
  go_enter Tryz.func116,Tryz.ntmps116;go_wp2_with (go_at_call 111;apply g.m;rintro e t ⟨rfl,f,k⟩);go_ret;exact⟨rfl,lv,f,k.m (λi d=>.inl (.inl d)),CR _ _⟩
 .rw[hok]at g
  have T:=extract_all (s:=data) (n:=256) (by omega);go_enter Tryz.func116,Tryz.ntmps116;go_wp2_with (go_at_call 111;apply g.m;rintro e t ⟨rfl,f,k⟩;have⟨E,F,G,H,I⟩:=cV f.box;have S:fs.ch.safe.length=fs.safe.length:=by rw[Fs.ch_safe]);have U:=pA 0;have V:data++fH 0=data:=Td data;go_region_law (first
   |(go_simp;go_at_call 19;apply(Ii 0 _ (by omega)).m;rintro e l ⟨rfl,u⟩;have q:Fr Bl.none t l:=(AE _ _).drew.t (AB u);have b:=f.on (q.on (λi d=>⟨f.lies i d,λh=>h⟩));have⟨J,K,L,M,N⟩:=cV b.box;have a3:=(cV (aQ (.cells #[.i p,.t data] 104) b.box)).2.1)
   |(apply iZ l rfl (.tmp 35) (.tmp 44) 61 104 _ 2 24 rfl Tryz.underlying61 Ka rfl (by decide) lv fs.ch.late.length (fs.ch.late.flatMap dQ) (by simp[Act.eval,Act.put]) b.late [.i p,.t data] (by simp[Act.eval,Act.put]) rfl (by simp[Value.oneCell']) (by rw[Fs.ch_late];omega) (by rw[Fs.ch_late];omega);intro v3 a4 j;obtain⟨O,W,rfl⟩:=j.shape (by decide);have o:=j.fr.heap b.box (aP b.late b.box (by decide));have⟨X,Y,Z,a0,a1⟩:=cV o;have a2:=aA o))
  all_goals go_wp2
  all_goals go_ret
  all_goals
   have⟨B,C,D⟩:=b.wrote j (by rw[Fs.ch_late];exact y);have m:Fr (fpF β (.s a fs.safe.length c) lv) w l:=(k.m (λi d=>.inl (.inl d))).t (q.m (λi d=>d.elim));exact⟨rfl,_,by omega,m.t C,aJ.t (CR w _) m.size D⟩
def laid(safe:List ByteArray)(late:List (Nat×ByteArray)):List ByteArray:=late.foldl (λs x=>s.set x.1 x.2) safe
def dK:∀(a:List (Nat×ByteArray)) (b:List ByteArray),(laid b a).length=b.length
 |[],_=>rfl
 |x :: a,b=>by
  show(laid (b.set x.1 x.2) a).length=_
  rw[dK a];simp
def qCb(b a x):laid b (a++[x])=(laid b a).set x.1 x.2:=by simp[laid]
def Fs.synced(fs:Fs):Fs:={fs with safe:=laid fs.safe fs.late,late:=[]}
def Fs.fits(fs:Fs):Prop:=∀x∈fs.late,x.1<fs.safe.length
def On.drew{Y a w}(h:On Y a w):On Y a w.drew:=h.t ⟨rfl,rfl,rfl,jU _,λ_ _=>rfl⟩
def aF.stored {β s n e p fs data}(h:aF w β (.q s n e) lv fs)(f:n=fs.safe.length):
  aF (w.setCell (aD s p) (.t data)) β (.q s n e) lv {fs with safe:=fs.safe.set p data}:=by
 subst f;have i:s≠β:=λa=>aP h.safe h.box (by decide) (by rw[a];rfl);refine⟨(CY w (aD s p) _ β (λa=>i a.symm)).t h.box,?_,?_,by simpa using h.small,h.few⟩
 .have a:(fs.safe.set p data).map Value.string=(fs.safe.map Value.string).set p (.t data):=by rw[List.map_set]
  simp only[a,CL];exact ((World.ownsRow.stored (w:=w) h.safe p (.t data)).1)
 .refine aS h.late ((CN (λd=>lv.ownBlock=some d) w).setCell (p:=(aD s p)) (λc=>?_) _) (λd c=>c)
  rcases dS h.safe h.late (by decide) with b|b
  .simp[Value.ownBlock]at b
  .exact b (by rw[c];rfl)
def Dn(β sv lv fs w)(h:aF w β sv lv fs)(hw0 : -1<=fs.wait)(hw1:fs.wait<=9223372036854775807)(hl0 : -1<=fs.life)(hl1:fs.life<=9223372036854775807)(hfit:fs.fits):
  cL 82 #[.p β 0] w λe w'=>e=.r (.bool fs.chOk) /\
   ∃lv',aF w' β sv lv' (if fs.chOk then fs.ch.synced else fs.ch)/\Fr (fpF β sv lv) w w'/\aJ w (fpF β sv lv) (fpF β sv lv'):=by
 have o:=Bv β sv lv fs w h hw0 hw1 hl0 hl1;obtain⟨z,D,rfl⟩:=aG h.safe;obtain⟨B,E,rfl⟩:=aG h.late;cases hok:fs.chOk
 .rw[hok]at o
  go_enter Tryz.func82,Tryz.ntmps82;go_wp2_with (go_at_call 111;apply o.m;rintro e W ⟨rfl,m,y⟩);go_ret;exact⟨rfl,_,m,y.m (λk c=>.inl (.inl c)),CR _ _⟩
 .rw[hok]at o
  have a1:=h.small;have R:=h.few;go_enter Tryz.func82,Tryz.ntmps82;go_wp2_with (go_at_call 111;apply o.m;rintro e W ⟨rfl,m,y⟩);have⟨F,v⟩:∃F:Fs,F=fs.ch:=⟨_,rfl⟩;rw[<-v]at m;have O:F.safe=fs.safe:=by rw[v];exact Fs.ch_safe fs
  have e2:F.late=fs.late:=by rw[v];exact Fs.ch_late fs
  go_loopw [4] (λi wr=>∃j:Nat,j<=fs.late.length/\i=.i j/\aF wr β (.s z fs.safe.length D) (.s B fs.late.length E) {F with safe:=laid fs.safe (fs.late.take j)}/\Fr (fpF β (.s z fs.safe.length D) (.s B fs.late.length E)) w wr) (λi _=>fs.late.length-(intOf i).toNat)
  case atStart=>exact⟨0,AG _,rfl,by simpa[laid,<-O] using m,y.m (λk c=>.inl (.inl c))⟩
  case round =>
   obtain⟨j,hj,rfl,d,K⟩:=hrel;have⟨c0,c1,c2,c3,c4⟩:=cV d.box;have U:=aA d.box;by_cases hlt:j<fs.late.length
   .have⟨q1,q2⟩:=tU (l:=fs.late) (j:=j) hlt
    have N:wr.ownsRow 0 104 2 (.s B fs.late.length E) fs.late.length (fs.late.flatMap dQ):=by have:=d.late;simp only[e2]at this;exact this
    have J:wr.ownsRow 0 9 1 (.s z fs.safe.length D) fs.safe.length ((laid fs.safe (fs.late.take j)).map .string):=by have:=d.safe;simp only[dK]at this;exact this
    have⟨g,S,L,X,Q⟩:=iO N q1;have⟨g',G,_,_,H⟩:=iO N q2;subst S;cases G;have M:=hfit _ (AA hlt);have⟨s,Z,I,T,a2⟩:=iO J (j:=(fs.late[j]).1) (u:=.t ((laid fs.safe (fs.late.take j))[(fs.late[j]).1]'(by rw[dK];exact M))) (by simp[dK,M]);subst Z;have a0:=KP (w:=wr) J;have V:((fs.late[j]).1:Int)<(fs.safe.length:Int):=by omega
    go_wp2;go_region_with (fail)
    all_goals go_wp2
    all_goals
     refine⟨⟨j+1,by omega,by go_num,?_,(K.s s ((fs.late[j]).1) (.inl (.inr (.inl rfl)))).drew⟩,by simp[intOf];omega⟩;rw[AN hlt,qCb];exact (d.stored (p:=(fs.late[j]).1) (data:=(fs.late[j]).2) (by simp[dK])).on (CN _ _).drew
   .obtain rfl:j=fs.late.length:=by omega
    have C:=aB d.box 1 .n;go_wp2;go_ret;refine⟨rfl,.n,?_,K.s β 1 (.inl (.inl rfl)),?_⟩
    .have A:fs.ch.synced = {F with safe:=laid fs.safe fs.late,late:=[]}:=by rw[v];simp[Fs.synced,Fs.ch_safe,Fs.ch_late]
     rw[A];rw[BK]at d;refine⟨by simpa using C,?_,AL _ _ _ _,d.small,by simp⟩;exact aS d.safe ((CN (λk=>Value.ownBlock _=some k) wr).setCell (p:=(aD β 1)) (λc=>aP d.safe d.box (by decide) c) _) (λk c=>c)
    .rintro k (c|c|c)
     .exact .inl (.inl c)
     .exact .inl (.inr (.inl c))
     .simp[Value.ownBlock]at c
def rR:(Tryz.prog.info? 9).map (λi=>(i.zero,i.size,i.bytes))=some (some .e,1,16):=by kernel_rfl
def Fs.new(n:Nat):Fs:=⟨List.replicate n (fH 256),[],-1,-1,0⟩
def qMk(z)(n:Nat)(w)(h:(z=(n:Int)/\n<=4096)\/(4096<z/\n=4096))(R)(HR:Hid (∀e w',(∃β sv lv,e=.r (.p β 0)/\aF w' β sv lv (Fs.new n)/\bW w w'/\∀k,fpF β sv lv k->w.heap.size<=k)->R e w')):
  cL 8 #[.i z] w R:=by
 have hn:n<=4096:=by omega
 have s:=aC w (.cells #[.n,.n,.i (-1),.i (-1),.i 0] 63);have m:Hid (bW w (w.alloc (.cells #[.n,.n,.i (-1),.i (-1),.i 0] 63))):=bA _ _;have t:Hid (aF (w.alloc (.cells #[.n,.n,.i (-1),.i (-1),.i 0] 63)) w.heap.size .n .n (Fs.new 0)):=
  ⟨by simpa[Fs.new] using s,AL _ _ _ _,AL _ _ _ _,by simp[Fs.new],by simp[Fs.new]⟩
 have L:Hid (n=4096\/z=(n:Int)):=by
  rcases h with h|h
  .exact .inr h.1
  .exact .inl h.2
 rcases h with⟨rfl,_⟩|⟨hz,K⟩
 rotate_left;clear K;have o:min z 4096=4096:=by omega
 rotate_left;have o:min (n:Int) 4096=(n:Int):=by omega
 all_goals
  go_enter Tryz.func8,Tryz.ntmps8;go_wp2;go_loopw [4] (λi wr=>∃(j:Nat) (sv:Value),j<=n/\i=.i j/\aF wr w.heap.size sv .n (Fs.new j)/\bW w wr/\∀k,sv.ownBlock=some k->w.heap.size<=k) (λi _=>n-(intOf i).toNat)
  case atStart=>exact⟨0,_,AG _,rfl,t,m,by simp[Value.ownBlock]⟩
  case round =>
   obtain⟨j,sv,hj,rfl,f,F,x⟩:=hrel;clear s m t;have⟨O,c1,Z,W,U⟩:=cV f.box;have H:=aA f.box;by_cases hlt:j<n
   .have C:(Fs.new j).safe.length=j:=by simp[Fs.new]
    have M:(j:Int)<4096:=by omega
    go_wp2;go_region_law (first
     |(go_simp;go_at_call 19;apply(Ii 256 _ (by omega)).m;rintro e w2 ⟨rfl,y⟩;have v:Fr Bl.none wr w2:=(AE _ _).drew.t (AB y);have g:=f.on (v.on (λk b=>⟨f.lies k b,λh=>h⟩));have⟨X,A,D,e3,e4⟩:=cV g.box;have q1:=(cV (aQ (.cells #[.string (fH 256)] 9) g.box)).1)
     |(apply iZ w2 rfl (.tmp 17) (.tmp 19) 60 9 _ 1 16 rfl Tryz.underlying60 rR rfl (by decide) sv (Fs.new j).safe.length ((Fs.new j).safe.map .string) (by simp[Act.eval,Act.put]) g.safe [.string (fH 256)] (by simp[Act.eval,Act.put]) rfl (by simp[Value.oneCell']) (by omega) (by omega);intro v3 J d;obtain⟨B,E,rfl⟩:=d.shape (by decide);have u:=d.fr.heap g.box (aP g.safe g.box (by decide));have⟨T,S,V,Y,N⟩:=cV u;have G:=aA u))
    all_goals go_wp2
    all_goals
     have I:=aB u 0 (.q B ((Fs.new j).safe.length+1) E);have c:=(gL f.box);refine⟨⟨j+1,.q B ((Fs.new j).safe.length+1) E,by omega,by go_num,?_,(F.t ((v.below (LK c) (λ_ h=>h.elim)).t (d.fr.below (vJ (LK c) v.size) x))).setCell (p:=(aD w.heap.size 0)) (jU _) _,?_⟩,by simp[intOf];omega⟩
     .refine⟨by simpa[Fs.new] using I,?_,AL _ _ _ _,by simp[Fs.new];omega,by simp[Fs.new]⟩
      have A:(Fs.new (j+1)).safe.map Value.string=(Fs.new j).safe.map .string++[.string (fH 256)]:=by simp[Fs.new,List.replicate_succ']
      have D:(Fs.new (j+1)).safe.length=(Fs.new j).safe.length+1:=by simp[Fs.new]
      rw[A,D];exact aS d.row ((CN (λk=>Value.ownBlock _=some k) J).setCell (p:=(aD w.heap.size 0)) (λb=>aP d.row u (by decide) b) _) (λk b=>b)
     .intro k b
      rcases d.lies k b with h|h
      .exact x k h
      .exact vJ (vJ (LK c) v.size) h
   .obtain rfl:j=n:=by omega
    first
     |(have Q:¬(j:Int)<4096:=(by have:=L.o;omega))
     |skip
    go_wp2;refine HR _ _ ⟨w.heap.size,sv,.n,rfl,f,F,?_⟩;rintro k (b|b|b)
    .exact Nat.le_of_eq b.symm
    .exact x k b
    .simp[Value.ownBlock]at b
def qFx(z)(n:Nat)(w)(h:(z=(n:Int)/\n<=4096)\/(4096<z/\n=4096)):
  cL 8 #[.i z] w λe w'=>∃β sv lv,e=.r (.p β 0)/\aF w' β sv lv (Fs.new n)/\bW w w'/\∀k,fpF β sv lv k->w.heap.size<=k:=qMk z n w h _ (λ_ _ h=>h)
def qJf(n:Nat)(w)(a:n<=4096):
  cL 8 #[.i n] w λe w'=>∃β sv lv,e=.r (.p β 0)/\aF w' β sv lv (Fs.new n)/\bW w w'/\∀k,fpF β sv lv k->w.heap.size<=k:=qFx n n w (.inl ⟨rfl,a⟩)
def qJe(z w)(l:z<0):
  cL 8 #[.i z] w λe w'=>∃β sv lv,e=.r (.p β 0)/\aF w' β sv lv (Fs.new 0)/\bW w w'/\∀k,fpF β sv lv k->w.heap.size<=k:=by
 have i:min z 4096=z:=by omega
 have g:=aC w (.cells #[.n,.n,.i (-1),.i (-1),.i 0] 63);have d:Hid (bW w (w.alloc (.cells #[.n,.n,.i (-1),.i (-1),.i 0] 63))):=bA _ _;have f:Hid (aF (w.alloc (.cells #[.n,.n,.i (-1),.i (-1),.i 0] 63)) w.heap.size .n .n (Fs.new 0)):=
  ⟨by simpa[Fs.new] using g,AL _ _ _ _,AL _ _ _ _,by simp[Fs.new],by simp[Fs.new]⟩
 have j:¬(0:Int)<z:=by omega
 go_enter Tryz.func8,Tryz.ntmps8;go_wp2;go_loopw [4] (λh c=>h=.i 0/\Hid (aF c w.heap.size .n .n (Fs.new 0)/\bW w c)) (λ_ _=>0)
 case atStart=>exact⟨rfl,f,d⟩
 case round =>
  obtain⟨rfl,b⟩:=hrel;go_wp2;go_ret;refine⟨w.heap.size,.n,.n,rfl,b.1,b.2,?_⟩;rintro k (a|a|a)
  .exact Nat.le_of_eq a.symm
  .simp[Value.ownBlock]at a
  .simp[Value.ownBlock]at a
def sect(s:ByteArray)(k:Nat):List UInt8:=(s.data.toList.drop (64 * k)).take 64
structure jM (safe:List ByteArray) (late:List (Nat×ByteArray)) (safe':List ByteArray):Prop where
 len:safe'.length=safe.length
 size:∀p (h:p<safe'.length),(safe'[p]).size=256
 sect:∀p (h:p<safe'.length) k,k<4->sect safe'[p] k=sect (safe[p]'(by omega)) k\/∃x∈late,x.1=p/\sect safe'[p] k=sect x.2 k
def Mq{safe:List ByteArray}{late:List (Nat×ByteArray)}(h:∀p (h:p<safe.length),(safe[p]).size=256):jM safe late safe:=⟨rfl,h,λ_ _ _ _=>.inl rfl⟩
def Hm(s d:ByteArray)(k:Nat):ByteArray:=⟨(s.data.toList.take (64 * k)++sect d k++s.data.toList.drop (64 * k+64)).toArray⟩
def iB(s:ByteArray):s.data.toList.length=s.size:=GG
def Zr {s d:ByteArray}(f:s.size=256)(c:d.size=256)(e:k<4):(Hm s d k).size=256:=by
 have a:=iB s;have b:=iB d;show(List.toArray _).size=256;simp only[sect,jA,jK,AY,BE];omega
def Zs {s d:ByteArray}(p:s.size=256)(h:d.size=256)(n:k<4)(m:j<4):sect (Hm s d k) j=if j=k then sect d k else sect s j:=by
 have f:=iB s;have g:=iB d;have e:(sect d k).length=64:=by simp only[sect,AY,BE];omega
 have a:(s.data.toList.take (64 * k)).length=64 * k:=by rw[AY];omega
 have b:(Hm s d k).data.toList=s.data.toList.take (64 * k)++sect d k++s.data.toList.drop (64 * k+64):=by simp[Hm]
 conv=>lhs;unfold sect
 rw[b];apply DU;intro i;by_cases hi:i<64
 .rw[FJ hi,DX,BU]
  by_cases hjk:j=k
  .subst hjk
   rw[AU rfl,BC (by omega),a,BO (by omega),show 64 * j+i-64 * j=i by omega]
  .rw[AR hjk]
   have c:(sect s j)[i]?=s.data.toList[64 * j+i]?:=by rw[sect,FJ hi,DX]
   rw[c];rcases BR j k with o|l
   .rw[BO (by omega),FJ (by omega)]
   .rw[BC (by omega),a,BC (by omega),e,DX,show 64 * k+64+(64 * j+i-64 * k-64)=64 * j+i by omega]
 .rw[DE,AR hi]
  split
  .rw[sect,DE,AR hi]
  .rw[sect,DE,AR hi]
def jM.step {safe:List ByteArray}{late:List (Nat×ByteArray)}{b:List ByteArray}(h:jM safe late b){x:Nat×ByteArray}(hx:x∈late)(g:x.2.size=256)(d:x.1<b.length)(i:k<4):jM safe late (b.set x.1 (Hm (b[x.1]) x.2 k)):=by
 refine⟨by rw[CL];exact h.len,λf a=>?_,λf a j c=>?_⟩
 .rw[CL]at a
  rw[DN];split
  .exact Zr (h.size _ d) g i
  .exact h.size f a
 .rw[CL]at a
  rw[DN];split
  .next e =>
   subst e;rw[Zs (h.size _ d) g i c];split
   .next e=>subst e;exact .inr ⟨x,hx,rfl,rfl⟩
   .exact h.sect _ d j c
  .exact h.sect f a j c
def Ts(s d:ByteArray)(k:Nat)(f:s.size=256)(c:d.size=256)(e:k<4):(s.extract 0 (64 * k)++d.extract (64 * k) (64 * k+64))++s.extract (64 * k+64) 256=Hm s d k:=by
 have a:=iB s;have b:=iB d;apply FO;apply Array.ext';simp only[ByteArray.data_append,KD,KZ,Array.toList_extract,Hm,sect,List.extract_eq_take_drop,List.toList_toArray];rw[CQ (l:=s.data.toList.drop (64 * k+64)) (by rw[BE];omega),show 64 * k+64-64 * k=64 by omega];simp
def Tc (w T g a zero z bytes)(b:P.underlying T=some (.slice a))(hi:(P.info? a).map (λi=>(i.zero,i.size,i.bytes))=some (some zero,z,bytes)):
  (Builtin.append_ #[T,T] g #[.n,.n]).run P w=.ok .n w:=by
 have⟨h,c,d,e,f⟩:=EX hi;simp[Builtin.append_,CZ b,sizeOf,typeInfo,c,d,e,f,go_sem]
def qHr (w T d a zero z bytes)(e:P.underlying T=some (.slice a))(hi:(P.info? a).map (λi=>(i.zero,i.size,i.bytes))=some (some zero,z,bytes))(t:zero.cells.size=z)(s:0<z)(v n xs)(h:w.ownsRow 0 a z v n xs)(l:∀u∈xs,u.oneCell'=true)(y:n<=140737488355328)(o:n * bytes<=140737488355328):
  ∃v' w',(Builtin.append_ #[T,T] d #[.n,v]).run P w=.ok v' w'/\w'.ownsRow 0 a z v' n xs/\bW w w'/\∀k,v'.ownBlock=some k->w.heap.size<=k:=by
 have⟨f,m⟩:=id h;rcases m with⟨rfl,rfl⟩|⟨g,j,x,rfl,_,A,_⟩
 .refine⟨_,_,Tc w T d a zero z bytes e hi,?_,AC _ _,by simp[Value.ownBlock]⟩
  omega
 .have⟨v',w',r,b⟩:=yF (P:=P) w T d a zero z bytes e hi t s .n 0 [] (AL _ _ _ _) (aD g 0) n j xs f (DG (w:=w) h (g:=g) rfl) l (by omega) (by grind);refine⟨v',w',r,by simpa using b.row,b.fr.below (jU _) (by simp[Value.ownBlock]),λk q=>?_⟩;rcases b.lies k q with c|c
  .simp[Value.ownBlock]at c
  .exact c
def qKl {ops c o a Q}(w)(r:o.guard=none)(x T b zero z bytes)(s:o.op=.call {callee:=.builtin .append,args:=#[.const .n,x],argTypes:=#[T,T]})(m:P.underlying T=some (.slice b))(hi:(P.info? b).map (λi=>(i.zero,i.size,i.bytes))=some (some zero,z,bytes))(C:zero.cells.size=z)(y:0<z)(v n xs)(B:a.eval x=v)(A:w.ownsRow 0 b z v n xs)(g:∀u∈xs,u.oneCell'=true)(j:n<=140737488355328)(p:n * bytes<=140737488355328)(h:∀v' w',w'.ownsRow 0 b z v' n xs->bW w w'->(nW v' w)->wpList P ops Q c (a.put o.dst v') w'):wpList P ops Q (o :: c) a w:=by
 refine EU r λK l=>?_;have⟨v',w',t,d,e,f⟩:=qHr (P:=P) w T o.type b zero z bytes m hi C y v n xs A g j p;have q:a.eval (.const .n)=.n:=rfl;unfold Oper.wp execOp;simp only[s,resolve,invoke,builtin,EG,DZ,DJ,DM,BH,DB,q,B,t];exact l _ _ (h v' w' d e f)
def Gp(β sv lv fs w)(h:aF w β sv lv fs):
  cL 15 #[.p β 0] w λe w'=>∃z M I,e=.r (.p z 0)/\aF w' z M I fs/\bW w w'/\∀k,fpF z M I k->w.heap.size<=k:=by
 obtain⟨v,y,rfl⟩:=aG h.safe;obtain⟨m,n,rfl⟩:=aG h.late;obtain⟨V,W,X,Y,Z⟩:=cV h.box;obtain⟨c,t,A,C,-⟩:=al1 w (.cells #[.s v fs.safe.length y,.s m fs.late.length n,.i fs.wait,.i fs.life,.i fs.failed] 63);have ao:w.heap.size<c.heap.size:=by rw[<-t];simp
 have l:=h.on (vV A h.lies);obtain⟨a0,a1,a2,a3,a4⟩:=cV l.box;have ac:=h.lies β (.inl rfl);have ad:β≠w.heap.size:=by omega
 have P:=h.small;have O:=h.few;have T:∀r∈fs.safe.map Value.string,r.oneCell'=true:=by simp[Value.oneCell']
 have U:∀r∈fs.late.flatMap dQ,r.oneCell'=true:=by intro r F;simp only[AX,dQ]at F;obtain⟨x,_,G⟩:=F;simp at G;rcases G with rfl|rfl<;>rfl
 go_enter Tryz.func15,Tryz.ntmps15;go_wp2_with (first
  |(at_builtin;refine qKl c rfl (.tmp 10) 60 9 _ 1 16 rfl Tryz.underlying60 rR rfl (by decide) _ fs.safe.length (fs.safe.map .string) rfl l.safe T (by omega) (by omega) ?_;intro au j J g H;obtain⟨o,q,rfl⟩:=aG J;have s:=(g.block _ (gL C)).t C;have aa:=aA s;obtain⟨ae,af,ag,ah,ai⟩:=cV s;obtain⟨b,f⟩:=nM (j.setCell (aD w.heap.size 0) (.s o fs.safe.length q));have D:cW b w.heap.size #[.s o fs.safe.length q,.s m fs.late.length n,.i fs.wait,.i fs.life,.i fs.failed] 63:=(by rw[<-f];simpa using aB s 0 (.s o fs.safe.length q));have N:=l.on (vV g l.lies);have E:aF b β (.s v fs.safe.length y) (.s m fs.late.length n) fs:=(by rw[<-f];exact N.on ((CN _ _).setCell (p:=(aD w.heap.size 0)) (λa=>by have:=h.lies _ a;exact Nat.lt_irrefl _ this) _));obtain⟨a5,a6,a7,a8,a9⟩:=cV E.box)
  |(at_builtin;refine qKl b rfl (.tmp 16) 61 104 _ 2 24 rfl Tryz.underlying61 Ka rfl (by decide) _ fs.late.length (fs.late.flatMap dQ) rfl E.late U (by omega) (by omega) ?_;intro av B u i Q;obtain⟨R,S,rfl⟩:=aG u;have d:=(i.block _ (gL D)).t D;have ab:=aA d;obtain⟨aj,ak,al,am,an⟩:=cV d))
 go_ret;have ap:=g.size;have aq:b.heap.size=j.heap.size:=by rw[<-f];simp[World.setCell]
 have ar:=i.size;have K:b.ownsRow 0 9 1 (.s o fs.safe.length q) fs.safe.length (fs.safe.map .string):=by
  rw[<-f];exact aS J ((CN (λk=>Value.ownBlock _=some k) j).setCell (p:=(aD w.heap.size 0)) (λa=>by have:=H _ a;simp at this;omega) _) (λk a=>a)
 refine⟨_,_,_,rfl,⟨by simpa using aB d 1 (.s R fs.late.length S),?_,?_,P,O⟩,?_,?_⟩
 .have L:=aS K (vV i (λk a=>aK K a)) (λk a=>a)
  exact aS L ((CN (λk=>Value.ownBlock _=some k) B).setCell (p:=(aD w.heap.size 1)) (λa=>aP L d (by decide) a) _) (λk a=>a)
 .exact aS u ((CN (λk=>Value.ownBlock _=some k) B).setCell (p:=(aD w.heap.size 1)) (λa=>aP u d (by decide) a) _) (λk a=>a)
 .exact(A.t ((g.m (by omega)).t ((Below.t (f▸(AC w.heap.size j).setCell (p:=(aD w.heap.size 0)) (jU _) _) (i.m (by omega)))))).setCell (p:=(aD w.heap.size 1)) (jU _) _
 .rintro k (a|a|a)
  .exact Nat.le_of_eq a.symm
  .have:=H k a;omega
  .have:=Q k a;omega
def Cr(s:Sp)(k w):
  cL 136 #[.agg #[.t s.lo,.t s.hi],.t k] w λe w'=>e=.r (.bool (s.has k))/\bW w w':=by
 have b:bW w (w.alloc (.cells #[.t s.lo,.t s.hi] 154)):=bA _ _;cases h1:Op.bytesLess k.toList s.lo.toList<;>cases h2:s.hi.toList.isEmpty<;>cases h3:Op.bytesLess k.toList s.hi.toList
 all_goals
  have a:Hid (s.has k=(!Op.bytesLess k.toList s.lo.toList&&(s.hi.toList.isEmpty||Op.bytesLess k.toList s.hi.toList))):=rfl;rw[h1,h2,h3]at a;go_enter Tryz.func136,Tryz.ntmps136;go_wp2;go_ret;exact⟨bZ (by rw[a.o];rfl),b⟩
def qBq(s o:Sp)(w):
  cL 162 #[.agg #[.t s.lo,.t s.hi],.agg #[.t o.lo,.t o.hi]] w λe w'=>e=.r (.bool (s.meets o))/\bW w w':=by
 have b:bW w ((w.alloc (.cells #[.t s.lo,.t s.hi] 154)).alloc (.cells #[.t o.lo,.t o.hi] 154)):=(bA _ _).alloc (by simp) _;cases h1:s.hi.toList.isEmpty<;>cases h2:Op.bytesLess o.lo.toList s.hi.toList<;>cases h3:o.hi.toList.isEmpty<;>cases h4:Op.bytesLess s.lo.toList o.hi.toList
 all_goals
  have a:Hid (s.meets o=((s.hi.toList.isEmpty||Op.bytesLess o.lo.toList s.hi.toList)&&(o.hi.toList.isEmpty||Op.bytesLess s.lo.toList o.hi.toList))):=rfl;rw[h1,h2,h3,h4]at a;go_enter Tryz.func162,Tryz.ntmps162;go_wp2;go_ret;exact⟨bZ (by rw[a.o];rfl),b⟩
def Ig(s:ByteArray)(g:Pg):Prop:=s.size=256/\(dN s.data.toList).encE=0/\(dN s.data.toList).encS=s/\g=dN s.data.toList
def Fs.has(fs:Fs)(p:Nat)(g:Pg):Prop:=p<fs.safe.length/\Ig (fs.at p) g
def New(w w':World):Bl:=λk=>w.heap.size<=k/\k<w'.heap.size
def yU {B e z v xs}(h:w'.ownsRow B e z v n xs)(i:B=w.heap.size):∃a c,v=.s a n c/\n<=c/\aH w' (New w w') a xs:=by
 have d:=EK (w:=w') h;have⟨l,f⟩:=id h;rcases f with⟨rfl,rfl⟩|⟨g,q,r,rfl,_,_,m,_⟩
 .exact⟨none,0,rfl,jU _,.inl (AH (by simpa using l))⟩
 .refine⟨_,_,rfl,m,.inr ⟨g,0,rfl,⟨i▸(d g rfl).1,(d g rfl).2⟩,λb p o=>?_⟩⟩
  have:=(λg k=>DG (w:=w') h (g:=g) k) g rfl b p o;have e:((aD g 0):Addr).add b=(aD g (0+b)):=by unfold Addr.add;split<;>simp_all
  rw[e]at this;exact this
def qDk.on {g v}(h:qDk w' w.heap.size g v):qDj w' (New w w') g v:=by
 obtain⟨t,s,r,rfl,c,d,e⟩:=h;obtain⟨m,n,rfl,j,o⟩:=yU c rfl;obtain⟨k,l,rfl,i,p⟩:=yU d rfl;obtain⟨a,b,rfl,f,q⟩:=yU e rfl;exact⟨m,k,a,n,l,b,rfl,o,p,q,j,i,f⟩
def Kl {g}(c:Ig s g)(w):
  cL 143 #[.t s] w λe w'=>∃h d a i f b,e=.r (.tuple #[.agg #[.i g.kind,.i g.ver,.i g.root,.i g.next,.s h g.keys.length i,.s d g.kids.length f,.s a g.ents.length b,.t g.data],.i 0]) /\
   aH w' (New w w') h (g.keys.map .string)/\aH w' (New w w') d (g.kids.map (.int .i64))/\aH w' (New w w') a (g.ents.flatMap Ent.cells)/\(g.keys.length<=i/\g.kids.length<=f/\g.ents.length<=b)/\bW w w':=by
 apply(wC s w).m;rintro e w' ⟨j,(⟨_,_,_,v,rfl,l⟩|⟨k,_⟩)⟩
 .obtain⟨h,d,a,i,f,b,rfl,r⟩:=qDk.on l
  obtain⟨_,_,_,rfl⟩:=c;exact⟨h,d,a,i,f,b,rfl,r.1,r.2.1,r.2.2.1,r.2.2.2,j⟩
 .exact absurd ⟨c.1,c.2.1,c.2.2.1⟩ k
def Cf(u:World)(β:Nat)(v0 v1 v2 v3 v4 v5 v6 v7:Value):World :=
 ((((((((u.setCell (aD β 0) v0).setCell (aD β 1) v1).setCell (aD β 2) v2).setCell (aD β 3) v3).setCell (aD β 4) v4).setCell (aD β 5) v5).setCell (aD β 6) v6).setCell (aD β 7) v7)
def Eb {u i j k l m n o p t}(h:cW u β #[i,j,k,l,m,n,o,p] t)(a b c v3 d e f g):(Cf u β a b c v3 d e f g).heap[β]?=some (.cells #[a,b,c,v3,d,e,f,g] t):=wL h a b c v3 d e f g
def Lr(u β e f g v3 h i j k):Fr (Bl.one β) u (Cf u β e f g v3 h i j k):=by
 have a:∀(c:World) (b:Nat) (v:Value),Fr (Bl.one β) u c->Fr (Bl.one β) u (c.setCell (aD β b) v):=λc b v d=>d.setCell (p:=(aD β b)) (.inl rfl) v;exact a _ _ _ (a _ _ _ (a _ _ _ (a _ _ _ (a _ _ _ (a _ _ _ (a _ _ _ (a _ _ _ (AE _ _))))))))
abbrev pgO(g:Pg)(ka ia ea:Option Addr)(kc ic ec:Nat):Obj:=.cells #[.int .i64 g.kind,.int .i64 g.ver,.int .i64 g.root,.int .i64 g.next,.slice ka g.keys.length kc,.slice ia g.kids.length ic,.slice ea g.ents.length ec,.string g.data] 80
def Ez(β sv lv fs root o r q p g w)(h:aF w β sv lv fs)(A:(fs.life==0)=false)(U:fs.has p g):
  cL 138 #[.agg #[.p β 0,.i root,.s o r q],.i p] w λe w'=>∃v,e=.r v/\qDj w' (New w w') g v/\bW w w':=by
 obtain⟨J,X⟩:=U;have W:fs.readS p=fs.at p:=by simp[Fs.readS,J,A]
 have V:(decide (p<fs.safe.length)&&!(fs.life==0))=true:=by simp[J,A]
 obtain⟨a,x,s,a5,K,-⟩:=al2 w (.cells #[.p β 0,.i root,.s o r q] 90) (.cells #[.i 0,.i 0,.i 0,.i 0,.n,.n,.n,.e] 80);have G:=h.on (vV s h.lies);have I:=mH β sv lv fs p a G;rw[W,V]at I;have H:=fU β sv lv fs a G;rw[A]at H; have ar:a.c w.heap.size 0=some (.p β 0):=by simp[World.cell?,a5]
 have a0:=(gL K);have T:=Kl X a;go_enter Tryz.func138,Tryz.ntmps138;go_wp2_with (first
  |(go_at_call 142;refine I.m ?_;rintro e w' ⟨rfl,Y⟩;subst w')
  |(go_at_call 49;refine H.m ?_;rintro e w' ⟨rfl,Y⟩;subst w')
  |(go_at_call 143;refine T.m ?_;rintro e l ⟨j,f,c,k,i,d,rfl,a1,a2,a3,a4,z⟩;obtain⟨b,y,-,a6,-⟩:=al1 l (pgO g j f c k i d);obtain⟨a9,aa,ab,ac,ad,ae,af,ag⟩:=bO a6;have t:bW a b:=z.t (y▸(AC _ _).alloc z.size _);have C:=(t.block _ a0).t K;obtain⟨ah,ai,aj,ak,al,am,an,ao⟩:=bO C;have ap:=aA C;have aq:=z.size))
 obtain⟨D,a8⟩:=nM (Cf b (w.heap.size+1) (.i g.kind) (.i g.ver) (.i g.root) (.i g.next) (.s j g.keys.length k) (.s f g.kids.length i) (.s c g.ents.length d) (.t g.data));have a7:=Eb C (.i g.kind) (.i g.ver) (.i g.root) (.i g.next) (.s j g.keys.length k) (.s f g.kids.length i) (.s c g.ents.length d) (.t g.data);have F:=Lr b (w.heap.size+1) (.i g.kind) (.i g.ver) (.i g.root) (.i g.next) (.s j g.keys.length k) (.s f g.kids.length i) (.s c g.ents.length d) (.t g.data);obtain⟨L,M,N,O,P,Q,R,S⟩:=bO a7;unfold Cf at L M N O P Q R S;refine BI (v:=.agg #[.i g.kind,.i g.ver,.i g.root,.i g.next,.s j g.keys.length k,.s f g.kids.length i,.s c g.ents.length d,.t g.data]) ?_ rfl ⟨_,rfl,?_,?_⟩
 .simp[results,Tryz.results138,go_sem,L,M,N,O,P,Q,R,S]
 .have E:Fr (Bl.one (w.heap.size+1)) l (Cf b (w.heap.size+1) (.i g.kind) (.i g.ver) (.i g.root) (.i g.next) (.s j g.keys.length k) (.s f g.kids.length i) (.s c g.ents.length d) (.t g.data)):=(y▸(AE _ l).alloc _:Fr (Bl.one (w.heap.size+1)) l b).t F
  have B:=E.on (Z:=New a l) (λn m=>⟨m.2,λe=>by simp only[Bl.one]at e;have:=m.1;omega⟩);have u:∀n,New a l n->New w (Cf b (w.heap.size+1) (.i g.kind) (.i g.ver) (.i g.root) (.i g.next) (.s j g.keys.length k) (.s f g.kids.length i) (.s c g.ents.length d) (.t g.data)) n:=λn m=>⟨by have:=m.1;have:=s.size;omega,jY m.2 E.size⟩;exact⟨j,f,c,k,i,d,rfl,(a1.on B).m u,(a2.on B).m u,(a3.on B).m u,a4⟩
 .exact(s.t (t.m (by omega))).t (F.below (by have:=t.size;omega) (oK (by omega)))
def Ml {l:List Ent}(a:j<l.length):(l.flatMap Ent.cells)[j * 4]?=some (.t (l[j]).key)/\(l.flatMap Ent.cells)[j * 4+1]?=some (.t (l[j]).val)/\(l.flatMap Ent.cells)[j * 4+2]?=some (.i (l[j]).size)/\(l.flatMap Ent.cells)[j * 4+3]?=some (.i (l[j]).over):=by
 induction l generalizing j with
 |nil=>simp at a
 |cons x l ih =>
  cases j with
  |zero=>simp[Ent.cells]
  |succ j =>
   have:=ih (j:=j) (by grind);have b:(j+1) * 4=j * 4+4:=by omega
   have c:(j+1) * 4+1=j * 4+1+4:=by omega
   have d:(j+1) * 4+2=j * 4+2+4:=by omega
   have e:(j+1) * 4+3=j * 4+3+4:=by omega
   rw[c,d,e,b];simpa[Ent.cells] using this
def aH.ent {S a}{l:List Ent}(h:aH w S a (l.flatMap Ent.cells))(n:j<l.length):∃b c,a=some (aD b c)/\S b/\w.c b (c+j * 4)=some (.t (l[j]).key)/\w.c b (c+j * 4+1)=some (.t (l[j]).val)/\w.c b (c+j * 4+2)=some (.i (l[j]).size)/\w.c b (c+j * 4+3)=some (.i (l[j]).over):=by
 have⟨e,f,g,i⟩:=Ml n;rcases h with h|⟨b,c,k,m,d⟩
 .grind
 grind
def wrap_small (h:n<=4294967296):IntKind.i64.wrap (n:Int)=(n:Int):=by simp[IntKind.wrap,IntKind.bits,IntKind.signed];omega
abbrev Ls:Obj:=.cells #[.int .i64 0,.int .i64 0,.int .i64 0,.int .i64 0,.slice none 0 0,.slice none 0 0,.slice none 0 0,.string ⟨#[]⟩] 80
