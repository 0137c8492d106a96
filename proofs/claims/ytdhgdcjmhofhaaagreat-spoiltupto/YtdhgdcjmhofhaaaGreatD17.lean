import Derived.Test.YtdhgdcjmhofhaaaGreatD14
import Derived.Test.YtdhgdcjmhofhaaaGreatD15
set_option linter.all false
set_option maxRecDepth 100000
set_option maxHeartbeats 8000000
namespace Go.Proofs.YtdhgdcjmhofhaaaGreat.Tree
open Go.RowKit Pages Tryz
variable {P:Program} {j k n β:Nat} {lv:Value} {s:ByteArray} {w w':World}
def eA(n:Nat):ByteArray:=⟨(List.replicate n (0:UInt8)).toArray⟩
theorem pQ(n):(eA n)=n:=by show(List.replicate n (0:UInt8)).toArray.size=n;simp
theorem xR(n):(madeCells (Value.int .u8 0).cells (n * 1)).toList=(List.replicate n (0:UInt8)).map eO:=by
 apply GB
 .simp[madeCells]
 .intro c a b;simp[madeCells,Value.cells,eO,Nat.mod_one]
theorem Kn(n:Nat)(w)(q:n<=100000):
  cL 19 #[.i n] w λe w'=>e=.r (.t (eA n))/\bW w w':=by
 have⟨l,g,i,j,k⟩:=FL Mo;have⟨c,p,b,a⟩:=KH (P:=prog) w 0 108 5 l (.int .u8 0) 1 underlying108 g i j .i64 .i64 n ω (by rw[k];omega) (by unfold maxLen;omega) (AG _);rw[xR]at b;have f:Buf c 0 (.q w n n) (List.replicate n 0):=by
  unfold Buf;simpa using b
 have o:=Buf.string f;have d:Hid (bW w c):=⟨a.os,a.tape,a.output,a.size,λm h=>a.block m h σ⟩;go_enter func19,ntmps19;go_wp2;go_ret;exact⟨rfl,d⟩
def Fs.chOk(fs:Fs):Bool:=!(fs.life==0)&&!(fs.wait==0)
def Fs.ch(fs:Fs):Fs :=
 if fs.chOk then {fs with wait:=if 0<fs.wait then fs.wait-1 else fs.wait,life:=if 0<fs.life then fs.life-1 else fs.life}
 else {fs with failed:=wrap64 (fs.failed+1),wait:=if fs.life==0 then fs.wait else -1}
theorem Fs.ch_safe(fs:Fs):fs.ch.safe=fs.safe:=by unfold Fs.ch;split<;>rfl
def DR:=@Fs.ch_safe
theorem Fs.ch_late(fs:Fs):fs.ch.late=fs.late:=by unfold Fs.ch;split<;>rfl
def DX:=@Fs.ch_late
theorem aA.rebox {sv lv fs c}(h:aA w β sv lv fs)(f:Fr (Bl.one β) w w')(e:c.safe=fs.safe)(g:c.late=fs.late)(i:cW w' β #[sv,lv,.i c.wait,.i c.life,.i c.failed] 63):aA w' β sv lv c:=by
 refine⟨i,?_,?_,e▸h.small,g▸h.few⟩
 .rw[e];exact aS h.safe (f.on (Z:=λb=>sv.ownBlock=some b) (λb a=>⟨aL h.safe a,λd=>by cases d;exact aQ h.safe h.box δ a⟩)) (λb a=>a)
 .rw[g];exact aS h.late (f.on (Z:=λb=>lv.ownBlock=some b) (λb a=>⟨aL h.late a,λd=>by cases d;exact aQ h.late h.box δ a⟩)) (λb a=>a)
theorem Dw(β sv lv fs w)(h:aA w β sv lv fs)(G : -1<=fs.wait)(H:fs.wait<=9223372036854775807)(E : -1<=fs.life)(F:fs.life<=9223372036854775807):
  cL 111 #[.p β 0] w λe w'=>e=.r (.bool fs.chOk)/\aA w' β sv lv fs.ch/\Fr (Bl.one β) w w':=by
 obtain⟨z,A,B,t,C⟩:=cS h.box;have D:=aF h.box;have f:∀w',Fr (Bl.one β) w w'->cW w' β #[sv,lv,.i fs.ch.wait,.i fs.ch.life,.i fs.ch.failed] 63->aA w' β sv lv fs.ch/\Fr (Bl.one β) w w' :=
  λw' j v=>⟨h.rebox j fs.ch_safe fs.ch_late v,j⟩
 have g:=AE (Bl.one β) w;have d:∀(m:World) (l:Nat) (n:Value),Fr (Bl.one β) w m->Fr (Bl.one β) w (m.setCell (aD β l) n):=λm l n j=>j.setCell (p:=(aD β l)) (.inl rfl) n;by_cases hl:fs.life=0
 .have a:Hid (fs.chOk=false):=by show _=_;simp[Fs.chOk,hl]
  have b:Hid (fs.ch = {fs with failed:=wrap64 (fs.failed+1)}):=by show _=_;simp[Fs.ch,a.o,hl]
  have c:=aC h.box 4 (.i (wrap64 (fs.failed+1)));obtain⟨o,q,r,k,s⟩:=cS (w:=w.setCell (aD β 4) (.i (wrap64 (fs.failed+1)))) (by simpa using c);rw[hl]at t k;go_enter func111,ntmps111;go_wp2;go_ret;refine⟨cF a.o.symm,f _ (d _ _ _ g) ?_⟩;rw[b.o];simpa[hl] using c
 .by_cases hw:fs.wait=0
  .have a:Hid (fs.chOk=false):=by show _=_;simp[Fs.chOk,hw]
   have x:(fs.life==0)=false:=by simpa using hl
   have y:(fs.wait==0)=true:=by simpa using hw
   have b:Hid (fs.ch = {fs with failed:=wrap64 (fs.failed+1),wait:=-1}):=by show _=_;simp[Fs.ch,a.o,hl]
   have c:=aC h.box 4 (.i (wrap64 (fs.failed+1)));obtain⟨o,q,r,k,s⟩:=cS (w:=w.setCell (aD β 4) (.i (wrap64 (fs.failed+1)))) (by simpa using c);have u:=aF c;have i:=aC c 2 (.i (-1));go_enter func111,ntmps111;go_wp2;go_ret;refine⟨cF a.o.symm,f _ (d _ _ _ (d _ _ _ g)) ?_⟩;rw[b.o];simpa using i
  .have a:Hid (fs.chOk=true):=by show _=_;simp[Fs.chOk,hl,hw]
   have x:(fs.life==0)=false:=by simpa using hl
   have y:(fs.wait==0)=false:=by simpa using hw
   by_cases hw2:0<fs.wait
   .have c:=aC h.box 2 (.i (fs.wait-1))
    obtain⟨o,q,r,k,s⟩:=cS (w:=w.setCell (aD β 2) (.i (fs.wait-1))) (by simpa using c);have u:=aF c;by_cases hl2:0<fs.life
    .have b:Hid (fs.ch = {fs with wait:=fs.wait-1,life:=fs.life-1}):=by show _=_;simp[Fs.ch,a.o,hw2,hl2]
     have i:=aC c 3 (.i (fs.life-1));go_enter func111,ntmps111;go_wp2;go_ret;refine⟨cF a.o.symm,f _ (d _ _ _ (d _ _ _ g)) ?_⟩;rw[b.o];simpa using i
    .have b:Hid (fs.ch = {fs with wait:=fs.wait-1}):=by show _=_;simp[Fs.ch,a.o,hw2,hl2]
     go_enter func111,ntmps111;go_wp2;go_ret;refine⟨cF a.o.symm,f _ (d _ _ _ g) ?_⟩;rw[b.o];simpa using c
   .by_cases hl2:0<fs.life
    .have b:Hid (fs.ch = {fs with life:=fs.life-1}):=by show _=_;simp[Fs.ch,a.o,hw2,hl2]
     have i:=aC h.box 3 (.i (fs.life-1));go_enter func111,ntmps111;go_wp2;go_ret;refine⟨cF a.o.symm,f _ (d _ _ _ g) ?_⟩;rw[b.o];simpa using i
    .have b:Hid (fs.ch=fs):=by show _=_;simp[Fs.ch,a.o,hw2,hl2]
     go_enter func111,ntmps111;go_wp2;go_ret;refine⟨cF a.o.symm,f _ g ?_⟩;rw[b.o];exact h.box
theorem Mn:(prog.info? 104).map (λi=>(i.zero,i.size,i.bytes))=some (some (.agg #[.i 0,.e]),2,24):=κ
theorem extract_all (h:s<=n):s.extract 0 n=s:=by
 apply FZ;simp_all
theorem Wq(s):s++eA 0=s:=by
 apply FZ;simp[eA,ByteArray.data_append]
def Fs.put(fs:Fs)(p:Nat)(data:ByteArray):Fs:={fs with late:=fs.late++[(p,data)]}
theorem aP {o}(x)(h:w.1[k]?=some o):(w.alloc x).1[k]?=some o:=(CY w x k (gL h)).t h
theorem aA.wrote{h d:World}{β p:Nat}{sv lv b:Value}{fs:Fs}{data:ByteArray}(c:aA h β sv lv fs)(e:fO 104 2 lv fs.late (fs.late.flatMap dY) [.i p,.t data] 1 h b d)(w:fs.late.length<1000000):
  aA (d.setCell (aD β 1) b) β sv b (fs.put p data)/\Fr (fpF β sv lv) h (d.setCell (aD β 1) b)/\aI h (fpF β sv lv) (fpF β sv b):=by
 have i:=e.fr.heap c.box (aQ c.late c.box δ);have o:=aC i 1 b;have r:Fr (fpF β sv lv) h d:=e.fr.m (λg a=>.inl (.inr (.inr a)));have k:∀{f:TypeId}{m n:Nat}{v:Value}{l:List Value},d.ownsRow 0 f m v n l->63≠f->(d.setCell (aD β 1) b).ownsRow 0 f m v n l:=λj t =>
  aS j ((CM (λg=>_=some g) d).setCell (p:=(aD β 1)) (λa=>aQ j i t a) b) (λg a=>a)
 refine⟨⟨by simpa[Fs.put] using o,k (e.keeps c.safe (dU c.safe c.late δ)) δ,?_,c.small,by simp[Fs.put];omega⟩,r.s β 1 (.inl (.inl rfl)),?_⟩
 .have f:(fs.put p data).late.flatMap dY=fs.late.flatMap dY++[.i p,.t data]:=by simp[Fs.put,dY]
  have q:(fs.put p data).late.length=fs.late+1:=by simp[Fs.put]
  rw[f,q];exact k e.row δ
 .rintro g (a|a|a)
  .exact .inl (.inl a)
  .exact .inl (.inr (.inl a))
  .exact(e.lies g a).imp (λs=>.inr (.inr s)) id
theorem Am(β sv lv fs p data w)(h:aA w β sv lv fs)(z : -1<=fs.wait)(A:fs.wait<=9223372036854775807)(v : -1<=fs.life)(x:fs.life<=9223372036854775807)(P:data.size=256)(Q:p<fs.safe.length)(y:fs.late.length<1000000):
  cL 116 #[.p β 0,.i p,.t data] w λe w'=>e=.r (.bool fs.chOk) /\
   ∃r,aA w' β sv r (if fs.chOk then fs.ch.put p data else fs.ch)/\Fr (fpF β sv lv) w w'/\aI w (fpF β sv lv) (fpF β sv r):=by
 have g:=Dw β sv lv fs w h z A v x;obtain⟨a,c,rfl⟩:=aG h.safe;cases hok:fs.chOk
 .rw[hok]at g;go_enter func116,ntmps116;go_wp2_with (apply g.m;rintro e t ⟨rfl,f,k⟩);go_ret;exact⟨rfl,lv,f,k.m (λi d=>.inl (.inl d)),CS _ _⟩
 .rw[hok]at g;have T:=extract_all (s:=data) (n:=256) ω;go_enter func116,ntmps116;go_wp2_with (apply g.m;rintro e t ⟨rfl,f,k⟩;have⟨E,F,G,H,I⟩:=cS f.box;have S:fs.ch.safe.length=fs.safe:=by rw[Fs.ch_safe]);have U:=pQ 0;have V:=Wq data;go_region_law (first
   |(go_simp;go_at_call 19;apply(Kn 0 _ ω).m;rintro e l ⟨rfl,u⟩;have q:Fr Bl.none t l:=(AE _ _).drew.t (AB u);have b:=f.on (q.on (λi d=>⟨f.lies i d,λh=>h⟩));have⟨J,K,L,M,N⟩:=cS b.box;have a3:=(cS (aP (.cells #[.i p,.t data] 104) b.box)).2.1)
   |(apply kA l rfl (.tmp 35) (.tmp 44) 61 104 _ 2 24 rfl underlying61 Mn rfl δ lv fs.ch.late (fs.ch.late.flatMap dY) ξ b.late [.i p,.t data] ξ rfl υ (by rw[Fs.ch_late];omega) (by rw[Fs.ch_late];omega);intro v3 a4 j;obtain⟨O,W,rfl⟩:=j.shape δ;have o:=j.fr.heap b.box (aQ b.late b.box δ);have⟨X,Y,Z,a0,R⟩:=cS o;have a2:=aF o))
  all_goals go_wp2
  all_goals go_ret
  all_goals
   have⟨B,C,D⟩:=b.wrote j (by rw[Fs.ch_late];exact y);have m:Fr (fpF β (.s a fs.safe c) lv) w l:=(k.m (λi d=>.inl (.inl d))).t (q.m (λi d=>d.elim));exact⟨rfl,_,ω,m.t C,aI.t (CS w _) m.size D⟩
def laid(safe:List ByteArray)(late:List (Nat×ByteArray)):List ByteArray:=late.foldl (λs x=>s.set x.1 x.2) safe
theorem dM:∀(a:List (Nat×ByteArray)) (b:List ByteArray),(laid b a).length=b
 |[],_=>rfl
 |x :: a,b=>by
  show(laid (b.set x.1 x.2) a).length=_;rw[dM a];simp
theorem qGd(b a x):laid b (a++[x])=(laid b a).set x.1 x.2:=by simp[laid]
def Fs.synced(fs:Fs):Fs:={fs with safe:=laid fs.safe fs.late,late:=[]}
def Fs.fits(fs:Fs):Prop:=∀x∈fs.late,x.1<fs.safe.length
theorem On.drew{Y a w}(h:On Y a w):On Y a w.drew:=h.t ⟨rfl,rfl,rfl,jU _,λ_ _=>rfl⟩
theorem aA.stored {β s n e p:Nat}{fs:Fs}{data:ByteArray}(h:aA w β (.q s n e) lv fs)(f:n=fs.safe):
  aA (w.setCell (aD s p) (.t data)) β (.q s n e) lv {fs with safe:=fs.safe.set p data}:=by
 subst f;have i:s≠β:=λa=>aQ h.safe h.box δ (by rw[a];rfl);refine⟨(DI w (aD s p) _ β (λa=>i a.symm)).t h.box,?_,?_,by simpa using h.small,h.few⟩
 .have a:(fs.safe.set p data).map Value.string=(fs.safe.map Value.string).set p (.t data):=by rw[List.map_set]
  simp only[a,BQ];exact ((World.ownsRow.stored (w:=w) h.safe p (.t data)).1)
 .refine aS h.late ((CM (λd=>lv.ownBlock=some d) w).setCell (p:=(aD s p)) (λc=>?_) _) (λd c=>c);rcases dU h.safe h.late δ with b|b
  .simp[Value.ownBlock]at b
  .exact b (by rw[c];rfl)
theorem yJ(β sv lv fs w)(h:aA w β sv lv fs)(hw0 : -1<=fs.wait)(hw1:fs.wait<=9223372036854775807)(hl0 : -1<=fs.life)(hl1:fs.life<=9223372036854775807)(hfit:fs.fits):
  cL 82 #[.p β 0] w λe w'=>e=.r (.bool fs.chOk) /\
   ∃lv',aA w' β sv lv' (if fs.chOk then fs.ch.synced else fs.ch)/\Fr (fpF β sv lv) w w'/\aI w (fpF β sv lv) (fpF β sv lv'):=by
 have o:=Dw β sv lv fs w h hw0 hw1 hl0 hl1;obtain⟨z,D,rfl⟩:=aG h.safe;obtain⟨B,E,rfl⟩:=aG h.late;cases hok:fs.chOk
 .rw[hok]at o;go_enter func82,ntmps82;go_wp2_with (apply o.m;rintro e W ⟨rfl,m,y⟩);go_ret;exact⟨rfl,_,m,y.m (λk c=>.inl (.inl c)),CS _ _⟩
 .rw[hok]at o;have R:=h.few;go_enter func82,ntmps82;go_wp2_with (apply o.m;rintro e W ⟨rfl,m,y⟩);have⟨F,v⟩:∃F:Fs,F=fs.ch:=⟨_,rfl⟩;rw[<-v]at m;have O:F.safe=fs.safe:=by rw[v];exact Fs.ch_safe fs
  have e2:F.late=fs.late:=by rw[v];exact Fs.ch_late fs
  go_loopw [4] (λi wr=>∃j:Nat,j<=fs.late/\i=.i j/\aA wr β (.s z fs.safe D) (.s B fs.late E) {F with safe:=laid fs.safe (fs.late.take j)}/\Fr (fpF β (.s z fs.safe D) (.s B fs.late E)) w wr) (λi _=>fs.late-(intOf i).toNat)
  case atStart=>exact⟨0,AG _,rfl,by simpa[laid,<-O] using m,y.m (λk c=>.inl (.inl c))⟩
  case round =>
   obtain⟨j,hj,rfl,d,K⟩:=hrel;have⟨c0,c1,c2,c3,c4⟩:=cS d.box;have U:=aF d.box;by_cases hlt:j<fs.late
   .have⟨q1,q2⟩:=vI (l:=fs.late) (j:=j) hlt
    have N:=by have:=d.late;simp only[e2]at this;exact this
    have J:=by have:=d.safe;simp only[dM]at this;exact this
    have⟨g,S,L,X,Q⟩:=gU N q1;have⟨g',G,_,_,H⟩:=gU N q2;subst S;cases G;have M:=hfit _ (AA hlt);have⟨s,Z,I,T,a2⟩:=gU J (j:=(fs.late[j]).1) (u:=.t ((laid fs.safe (fs.late.take j))[(fs.late[j]).1]'(by rw[dM];exact M))) (by simp[dM,M]);subst Z;have a0:=JJ (w:=wr) J;have V:((fs.late[j]).1:Int)<(fs.safe.length:Int):=ω
    go_wp2;go_region_with (fail)
    all_goals go_wp2
    all_goals
     refine⟨⟨j+1,ω,ν,?_,(K.s s ((fs.late[j]).1) (.inl (.inr (.inl rfl)))).drew⟩,θ⟩;rw[AJ hlt,qGd];exact (d.stored (p:=(fs.late[j]).1) (data:=(fs.late[j]).2) (by simp[dM])).on (CM _ _).drew
   .obtain rfl:j=fs.late:=ω
    have C:=aC d.box 1 .n;go_wp2;go_ret;refine⟨rfl,.n,?_,K.s β 1 (.inl (.inl rfl)),?_⟩
    .have A:fs.ch.synced = {F with safe:=laid fs.safe fs.late,late:=[]}:=by rw[v];simp[Fs.synced,Fs.ch_safe,Fs.ch_late]
     rw[A];rw[BN]at d;refine⟨by simpa using C,?_,AO _ _ _ _,d.small,σ⟩;exact aS d.safe ((CM (λk=>Value.ownBlock _=some k) wr).setCell (p:=(aD β 1)) (λc=>aQ d.safe d.box δ c) _) (λk c=>c)
    .rintro k (c|c|c)
     .exact .inl (.inl c)
     .exact .inl (.inr (.inl c))
     .simp[Value.ownBlock]at c
theorem sV:(prog.info? 9).map (λi=>(i.zero,i.size,i.bytes))=some (some .e,1,16):=κ
def Fs.new(n:Nat):Fs:=⟨List.replicate n (eA 256),[],-1,-1,0⟩
theorem qRm(z)(n:Nat)(w)(h:(z=(n:Int)/\n<=4096)\/(4096<z/\n=4096))(R)(HR:Hid (∀e w',(∃β sv lv,e=.r (.p β 0)/\aA w' β sv lv (Fs.new n)/\bW w w'/\∀k,fpF β sv lv k->w<=k)->R e w')):
  cL 8 #[.i z] w R:=by
 have hn:n<=4096:=ω;have s:=aB w (.cells #[.n,.n,.i (-1),.i (-1),.i 0] 63);have m:Hid (bW w (w.alloc (.cells #[.n,.n,.i (-1),.i (-1),.i 0] 63))):=bA _ _;have t:Hid (aA (w.alloc (.cells #[.n,.n,.i (-1),.i (-1),.i 0] 63)) w .n .n (Fs.new 0)):=
  ⟨by simpa[Fs.new] using s,AO _ _ _ _,AO _ _ _ _,by simp[Fs.new],by simp[Fs.new]⟩
 have L:Hid (n=4096\/z=(n:Int)):=by
  rcases h with h|h
  .exact .inr h.1
  .exact .inl h.2
 rcases h with⟨rfl,_⟩|⟨hz,K⟩;rotate_left;clear K;have o:min z 4096=4096:=ω
 rotate_left;have o:min (n:Int) 4096=(n:Int):=ω
 all_goals
  go_enter func8,ntmps8;go_wp2;go_loopw [4] (λi wr=>∃(j:Nat) (sv:Value),j<=n/\i=.i j/\aA wr w sv .n (Fs.new j)/\bW w wr/\∀k,sv.ownBlock=some k->w<=k) (λi _=>n-(intOf i).toNat)
  case atStart=>exact⟨0,_,AG _,rfl,t,m,ι⟩
  case round =>
   obtain⟨j,sv,hj,rfl,f,F,x⟩:=hrel;clear s m t;have⟨O,c1,Z,W,U⟩:=cS f.box;by_cases hlt:j<n
   .have C:(Fs.new j).safe=j:=by simp[Fs.new]
    have M:(j:Int)<4096:=ω
    go_wp2;go_region_law (first
     |(go_simp;go_at_call 19;apply(Kn 256 _ ω).m;rintro e w2 ⟨rfl,y⟩;have v:Fr Bl.none wr w2:=(AE _ _).drew.t (AB y);have g:=f.on (v.on (λk b=>⟨f.lies k b,λh=>h⟩));have⟨X,A,D,e3,H⟩:=cS g.box;have q1:=(cS (aP (.cells #[.t (eA 256)] 9) g.box)).1)
     |(apply kA w2 rfl (.tmp 17) (.tmp 19) 60 9 _ 1 16 rfl underlying60 sV rfl δ sv (Fs.new j).safe ((Fs.new j).safe.map .string) ξ g.safe [.t (eA 256)] ξ rfl υ ω ω;intro v3 J d;obtain⟨B,E,rfl⟩:=d.shape δ;have u:=d.fr.heap g.box (aQ g.safe g.box δ);have⟨T,S,V,Y,N⟩:=cS u;have G:=aF u))
    all_goals go_wp2
    all_goals
     have I:=aC u 0 (.q B ((Fs.new j).safe+1) E);have c:=(gL f.box);refine⟨⟨j+1,.q B ((Fs.new j).safe+1) E,ω,ν,?_,(F.t ((v.below (MI c) (λ_ h=>h.elim)).t (d.fr.below (vJ (MI c) v.size) x))).setCell (p:=(aD w 0)) (jU _) _,?_⟩,θ⟩
     .refine⟨by simpa[Fs.new] using I,?_,AO _ _ _ _,by simp[Fs.new];omega,by simp[Fs.new]⟩;have A:(Fs.new (j+1)).safe.map Value.string=(Fs.new j).safe.map .string++[.t (eA 256)]:=by simp[Fs.new,List.replicate_succ']
      have D:(Fs.new (j+1)).safe.length=(Fs.new j).safe+1:=by simp[Fs.new]
      rw[A,D];exact aS d.row ((CM (λk=>Value.ownBlock _=some k) J).setCell (p:=(aD w 0)) (λb=>aQ d.row u δ b) _) (λk b=>b)
     .intro k b;rcases d.lies k b with h|h
      .exact x k h
      .exact vJ (vJ (MI c) v.size) h
   .obtain rfl:j=n:=ω
    first
     |(have Q:¬(j:Int)<4096:=(η L.o))
     |skip
    go_wp2;refine HR _ _ ⟨w,sv,.n,rfl,f,F,?_⟩;rintro k (b|b|b)
    .exact Nat.le_of_eq b.symm
    .exact x k b
    .simp[Value.ownBlock]at b
theorem qKc(z)(n:Nat)(w)(h:(z=(n:Int)/\n<=4096)\/(4096<z/\n=4096)):
  cL 8 #[.i z] w λe w'=>∃β sv lv,e=.r (.p β 0)/\aA w' β sv lv (Fs.new n)/\bW w w'/\∀k,fpF β sv lv k->w<=k:=qRm z n w h _ (λ_ _ h=>h)
theorem qNz(n:Nat)(w)(a:n<=4096):
  cL 8 #[.i n] w λe w'=>∃β sv lv,e=.r (.p β 0)/\aA w' β sv lv (Fs.new n)/\bW w w'/\∀k,fpF β sv lv k->w<=k:=qKc n n w (.inl ⟨rfl,a⟩)
theorem qNy(z w)(l:z<0):
  cL 8 #[.i z] w λe w'=>∃β sv lv,e=.r (.p β 0)/\aA w' β sv lv (Fs.new 0)/\bW w w'/\∀k,fpF β sv lv k->w<=k:=by
 have i:min z 4096=z:=ω;have g:=aB w (.cells #[.n,.n,.i (-1),.i (-1),.i 0] 63);have d:Hid (bW w (w.alloc (.cells #[.n,.n,.i (-1),.i (-1),.i 0] 63))):=bA _ _;have f:Hid (aA (w.alloc (.cells #[.n,.n,.i (-1),.i (-1),.i 0] 63)) w .n .n (Fs.new 0)):=
  ⟨by simpa[Fs.new] using g,AO _ _ _ _,AO _ _ _ _,by simp[Fs.new],by simp[Fs.new]⟩
 go_enter func8,ntmps8;go_wp2;go_loopw [4] (λh c=>h=.i 0/\Hid (aA c w .n .n (Fs.new 0)/\bW w c)) (λ_ _=>0)
 case atStart=>exact⟨rfl,f,d⟩
 case round =>
  obtain⟨rfl,b⟩:=hrel;go_wp2;go_ret;refine⟨w,.n,.n,rfl,b.1,b.2,?_⟩;rintro k (a|a|a)
  .exact Nat.le_of_eq a.symm
  .simp[Value.ownBlock]at a
  .simp[Value.ownBlock]at a
def sect(s:ByteArray)(k:Nat):List UInt8:=(s.data.toList.drop (64 * k)).take 64
structure iB (safe:List ByteArray) (late:List (Nat×ByteArray)) (safe':List ByteArray):Prop where
 len:safe'.length=safe.length
 size:∀p (h:p<safe'.length),(safe'[p]).size=256
 sect:∀p (h:p<safe'.length) k,k<4->sect safe'[p] k=sect (safe[p]'(by omega)) k\/∃x∈late,x.1=p/\sect safe'[p] k=sect x.2 k
theorem Pq{safe:List ByteArray}{late:List (Nat×ByteArray)}(h:∀p (h:p<safe.length),(safe[p]).size=256):iB safe late safe:=⟨rfl,h,λ_ _ _ _=>.inl rfl⟩
def Jw(s d:ByteArray)(k:Nat):ByteArray:=⟨(s.data.toList.take (64 * k)++sect d k++s.data.toList.drop (64 * k+64)).toArray⟩
theorem fT(s:ByteArray):s.data.toList=s.size:=GA
theorem qDl {s d:ByteArray}(f:s.size=256)(c:d.size=256)(e:k<4):(Jw s d k).size=256:=by
 have a:=fT s;have b:=fT d;show(List.toArray _).size=256;simp only[sect,jA,jK,AX,BJ];omega
theorem qDm {s d:ByteArray}(p:s.size=256)(h:d.size=256)(n:k<4)(m:j<4):sect (Jw s d k) j=if j=k then sect d k else sect s j:=by
 have f:=fT s;have g:=fT d;have e:(sect d k).length=64:=by simp only[sect,AX,BJ];omega
 have a:(s.data.toList.take (64 * k))=64 * k:=by rw[AX];omega
 have b:(Jw s d k).data.toList=s.data.toList.take (64 * k)++sect d k++s.data.toList.drop (64 * k+64):=by simp[Jw]
 conv=>lhs;unfold sect
 rw[b];apply CZ;intro i;by_cases hi:i<64
 .rw[DW hi,DE,CA];by_cases hjk:j=k
  .subst hjk;rw[AU rfl,AZ ω,a,BK ω,show 64 * j+i-64 * j=i by omega]
  .rw[AQ hjk];have c:(sect s j)[i]?=s.data.toList[64 * j+i]?:=by rw[sect,DW hi,DE]
   rw[c];rcases BT j k with o|l
   .rw[BK ω,DW ω]
   .rw[AZ ω,a,AZ ω,e,DE,show 64 * k+64+(64 * j+i-64 * k-64)=64 * j+i by omega]
 .rw[DF,AQ hi];split
  .rw[sect,DF,AQ hi]
  .rw[sect,DF,AQ hi]
theorem iB.step {safe:List ByteArray}{late:List (Nat×ByteArray)}{b:List ByteArray}(h:iB safe late b){x:Nat×ByteArray}(hx:x∈late)(g:x.2.size=256)(d:x.1<b)(i:k<4):iB safe late (b.set x.1 (Jw (b[x.1]) x.2 k)):=by
 refine⟨by rw[BQ];exact h.len,λf a=>?_,λf a j c=>?_⟩
 .rw[BQ]at a;rw[DK];split
  .exact qDl (h.size _ d) g i
  .exact h.size f a
 .rw[BQ]at a;rw[DK];split
  .next e =>
   subst e;rw[qDm (h.size _ d) g i c];split
   .next e=>subst e;exact .inr ⟨x,hx,rfl,rfl⟩
   .exact h.sect _ d j c
  .exact h.sect f a j c
theorem Xi(s d:ByteArray)(k:Nat)(f:s.size=256)(c:d.size=256)(e:k<4):(s.extract 0 (64 * k)++d.extract (64 * k) (64 * k+64))++s.extract (64 * k+64) 256=Jw s d k:=by
 have a:=fT s;apply FZ;apply Array.ext';simp only[ByteArray.data_append,KZ,LW,Array.toList_extract,Jw,sect,List.extract_eq_take_drop,List.toList_toArray];rw[CN (l:=s.data.toList.drop (64 * k+64)) (by rw[BJ];omega),show 64 * k+64-64 * k=64 by omega];simp
theorem Wp (w T g a zero z bytes)(b:P.underlying T=some (.slice a))(hi:(P.info? a).map (λi=>(i.zero,i.size,i.bytes))=some (some zero,z,bytes)):
  (Builtin.append_ #[T,T] g #[.n,.n]).run P w=.ok .n w:=by
 have⟨h,c,d,e,f⟩:=FL hi;simp[Builtin.append_,DA b,sizeOf,typeInfo,c,d,e,f,go_sem]
theorem qMb (w T d a zero z bytes)(e:P.underlying T=some (.slice a))(hi:(P.info? a).map (λi=>(i.zero,i.size,i.bytes))=some (some zero,z,bytes))(t:zero.cells.size=z)(s:0<z)(v n xs)(h:w.ownsRow 0 a z v n xs)(l:∀u∈xs,u.oneCell'=true)(y:n<=140737488355328)(o:n * bytes<=140737488355328):
  ∃v' w',(Builtin.append_ #[T,T] d #[.n,v]).run P w=.ok v' w'/\w'.ownsRow 0 a z v' n xs/\bW w w'/\∀k,v'.ownBlock=some k->w<=k:=by
 have⟨f,m⟩:=id h;rcases m with⟨rfl,rfl⟩|⟨g,j,x,rfl,_,A,_⟩
 .refine⟨_,_,Wp w T d a zero z bytes e hi,?_,AC _ _,ι⟩;omega
 .have⟨v',w',r,b⟩:=Ai (P:=P) w T d a zero z bytes e hi t s .n 0 [] (AO _ _ _ _) (aD g 0) n j xs f (DH (w:=w) h (g:=g) rfl) l ω ζ;refine⟨v',w',r,by simpa using b.row,b.fr.below (jU _) ι,λk q=>?_⟩;rcases b.lies k q with c|c
  .simp[Value.ownBlock]at c
  .exact c
theorem qPh {ops c o a Q}(w)(r:o.guard=none)(x T b zero z bytes)(s:o.op=.call {callee:=.builtin .append,args:=#[.const .n,x],argTypes:=#[T,T]})(m:P.underlying T=some (.slice b))(hi:(P.info? b).map (λi=>(i.zero,i.size,i.bytes))=some (some zero,z,bytes))(C:zero.cells.size=z)(y:0<z)(v n xs)(B:a.eval x=v)(A:w.ownsRow 0 b z v n xs)(g:∀u∈xs,u.oneCell'=true)(j:n<=140737488355328)(p:n * bytes<=140737488355328)(h:∀v' w',w'.ownsRow 0 b z v' n xs->bW w w'->(nW v' w)->wpList P ops Q c (a.put o.dst v') w'):wpList P ops Q (o :: c) a w:=by
 refine FH r λK l=>?_;have⟨v',w',t,d,e,f⟩:=qMb (P:=P) w T o.type b zero z bytes m hi C y v n xs A g j p;have q:a.eval (.const .n)=.n:=rfl;unfold Oper.wp execOp;simp only[s,resolve,invoke,builtin,EK,ED,DN,DQ,BE,DB,q,B,t];exact l _ _ (h v' w' d e f)
theorem Iu(β sv lv fs w)(h:aA w β sv lv fs):
  cL 15 #[.p β 0] w λe w'=>∃z M I,e=.r (.p z 0)/\aA w' z M I fs/\bW w w'/\∀k,fpF z M I k->w<=k:=by
 obtain⟨v,y,rfl⟩:=aG h.safe;obtain⟨m,n,rfl⟩:=aG h.late;obtain⟨V,W,X,Y,Z⟩:=cS h.box;obtain⟨c,t,A,C,-⟩:=al1 w (.cells #[.s v fs.safe y,.s m fs.late n,.i fs.wait,.i fs.life,.i fs.failed] 63);have ao:w.1.size<c:=by rw[<-t];simp
 have l:=h.bl A;obtain⟨a0,a1,a2,a3,a4⟩:=cS l.box;have ac:=h.lies β (.inl rfl)
 have P:=h.small;have O:=h.few;have T:∀r∈fs.safe.map Value.string,r.oneCell'=true:=υ
 have U:∀r∈fs.late.flatMap dY,r.oneCell'=true:=by intro r F;simp only[AV,dY]at F;obtain⟨x,_,G⟩:=F;simp at G;rcases G with rfl|rfl<;>rfl
 go_enter func15,ntmps15;go_wp2_with (first
  |(at_builtin;refine qPh c rfl (.tmp 10) 60 9 _ 1 16 rfl underlying60 sV rfl δ _ fs.safe (fs.safe.map .string) rfl l.safe T ω ω ?_;intro au j J g H;obtain⟨o,q,rfl⟩:=aG J;have s:=g.kp C;have aa:=aF s;obtain⟨ae,af,ag,ah,ai⟩:=cS s;obtain⟨b,f⟩:=nM (j.setCell (aD w 0) (.s o fs.safe q));have D:cW b w #[.s o fs.safe q,.s m fs.late n,.i fs.wait,.i fs.life,.i fs.failed] 63:=(by rw[<-f];simpa using aC s 0 (.s o fs.safe q));have N:=l.bl g;have E:aA b β (.s v fs.safe y) (.s m fs.late n) fs:=(by rw[<-f];exact N.on ((CM _ _).setCell (p:=(aD w 0)) (λa=>by have:=h.lies _ a;exact Nat.lt_irrefl _ this) _));obtain⟨a5,a6,a7,a8,a9⟩:=cS E.box)
  |(at_builtin;refine qPh b rfl (.tmp 16) 61 104 _ 2 24 rfl underlying61 Mn rfl δ _ fs.late (fs.late.flatMap dY) rfl E.late U ω ω ?_;intro av B u i Q;obtain⟨R,S,rfl⟩:=aG u;have d:=i.kp D;have ab:=aF d;obtain⟨aj,ak,al,am,an⟩:=cS d))
 go_ret;have ap:=g.size;have aq:b.1.size=j:=by rw[<-f];simp[World.setCell]
 have K:b.ownsRow 0 9 1 (.s o fs.safe q) fs.safe (fs.safe.map .string):=by
  rw[<-f];exact aS J ((CM (λk=>Value.ownBlock _=some k) j).setCell (p:=(aD w 0)) (λa=>by have:=H _ a;simp at this;omega) _) (λk a=>a)
 refine⟨_,_,_,rfl,⟨by simpa using aC d 1 (.s R fs.late S),?_,?_,P,O⟩,?_,?_⟩
 .have L:=aS K (vV i (λk a=>aL K a)) (λk a=>a);exact aS L ((CM (λk=>Value.ownBlock _=some k) B).setCell (p:=(aD w 1)) (λa=>aQ L d δ a) _) (λk a=>a)
 .exact aS u ((CM (λk=>Value.ownBlock _=some k) B).setCell (p:=(aD w 1)) (λa=>aQ u d δ a) _) (λk a=>a)
 .exact(A.t ((g.m ω).t ((Below.t (f▸(AC w j).setCell (p:=(aD w 0)) (jU _) _) (i.m ω))))).setCell (p:=(aD w 1)) (jU _) _
 .rintro k (a|a|a)
  .exact Nat.le_of_eq a.symm
  .have:=H k a;omega
  .have:=Q k a;omega
theorem Et(s:Sp)(k w):
  cL 136 #[.agg #[.t s.lo,.t s.hi],.t k] w λe w'=>e=.r (.bool (s.has k))/\bW w w':=by
 have b:bW w (w.alloc (.cells #[.t s.lo,.t s.hi] 154)):=bA _ _;cases h1:Op.bytesLess k.toList s.lo.toList<;>cases h2:s.hi.toList.isEmpty<;>cases h3:Op.bytesLess k.toList s.hi.toList
 all_goals
  have a:Hid (s.has k=(!Op.bytesLess k.toList s.lo.toList&&(s.hi.toList.isEmpty||Op.bytesLess k.toList s.hi.toList))):=rfl;rw[h1,h2,h3]at a;go_enter func136,ntmps136;go_wp2;go_ret;exact⟨cF (by rw[a.o];rfl),b⟩
theorem qFr(s o:Sp)(w):
  cL 162 #[.agg #[.t s.lo,.t s.hi],.agg #[.t o.lo,.t o.hi]] w λe w'=>e=.r (.bool (s.meets o))/\bW w w':=by
 have b:bW w ((w.alloc (.cells #[.t s.lo,.t s.hi] 154)).alloc (.cells #[.t o.lo,.t o.hi] 154)):=(bA _ _).alloc σ _;cases h1:s.hi.toList.isEmpty<;>cases h2:Op.bytesLess o.lo.toList s.hi.toList<;>cases h3:o.hi.toList.isEmpty<;>cases h4:Op.bytesLess s.lo.toList o.hi.toList
 all_goals
  have a:Hid (s.meets o=((s.hi.toList.isEmpty||Op.bytesLess o.lo.toList s.hi.toList)&&(o.hi.toList.isEmpty||Op.bytesLess s.lo.toList o.hi.toList))):=rfl;rw[h1,h2,h3,h4]at a;go_enter func162,ntmps162;go_wp2;go_ret;exact⟨cF (by rw[a.o];rfl),b⟩
def yE(s:ByteArray)(g:Pg):Prop:=s.size=256/\(dG s.data.toList).encE=0/\(dG s.data.toList).encS=s/\g=dG s.data.toList
def Fs.has(fs:Fs)(p:Nat)(g:Pg):Prop:=p<fs.safe.length/\yE (fs.at p) g
def New(w w':World):Bl:=λk=>w.1.size<=k/\k<w'.1.size
theorem Ba {B:Nat}{e:TypeId}{z:Nat}{v:Value}{xs:List Value}(h:w'.ownsRow B e z v n xs)(i:B=w):∃a c,v=.s a n c/\n<=c/\aH w' (New w w') a xs:=by
 have d:=EQ (w:=w') h;have⟨l,f⟩:=id h;rcases f with⟨rfl,rfl⟩|⟨g,q,r,rfl,_,_,m,_⟩
 .exact⟨none,0,rfl,jU _,.inl (AH (by simpa using l))⟩
 .refine⟨_,_,rfl,m,.inr ⟨g,0,rfl,⟨i▸(d g rfl).1,(d g rfl).2⟩,λb p o=>?_⟩⟩;have:=(λg k=>DH (w:=w') h (g:=g) k) g rfl b p o;have e:((aD g 0):Addr).add b=(aD g (0+b)):=by unfold Addr.add;split<;>simp_all
  rw[e]at this;exact this
theorem qHp.on {g:Pg}{v:Value}(h:qHp w' w g v):Wt w' (New w w') g v:=by
 obtain⟨t,s,r,rfl,c,d,e⟩:=h;obtain⟨m,n,rfl,j,o⟩:=Ba c rfl;obtain⟨k,l,rfl,i,p⟩:=Ba d rfl;obtain⟨a,b,rfl,f,q⟩:=Ba e rfl;exact⟨m,k,a,n,l,b,rfl,o,p,q,j,i,f⟩
theorem Nb {g:Pg}(c:yE s g)(w):
  cL 143 #[.t s] w λe w'=>∃h d a i f b,e=.r (.tuple #[.agg #[.i g.kind,.i g.ver,.i g.root,.i g.next,.s h g.keys i,.s d g.kids f,.s a g.ents b,.t g.data],.i 0]) /\
   aH w' (New w w') h (g.keys.map .string)/\aH w' (New w w') d (g.kids.map (.int .i64))/\aH w' (New w w') a (g.ents.flatMap Ent.cells)/\(g.keys<=i/\g.kids<=f/\g.ents<=b)/\bW w w':=by
 apply(yB s w).m;rintro e w' ⟨j,(⟨_,_,_,v,rfl,l⟩|⟨k,_⟩)⟩
 .obtain⟨h,d,a,i,f,b,rfl,r⟩:=qHp.on l;obtain⟨_,_,_,rfl⟩:=c;exact⟨h,d,a,i,f,b,rfl,r.1,r.2.1,r.2.2.1,r.2.2.2,j⟩
 .exact absurd ⟨c.1,c.2.1,c.2.2.1⟩ k
def Oj(u:World)(β:Nat)(v0 v1 v2 v3 v4 v5 v6 v7:Value):World :=
 ((((((((u.setCell (aD β 0) v0).setCell (aD β 1) v1).setCell (aD β 2) v2).setCell (aD β 3) v3).setCell (aD β 4) v4).setCell (aD β 5) v5).setCell (aD β 6) v6).setCell (aD β 7) v7)
theorem Gj {u i j k l m n o p t}(h:cW u β #[i,j,k,l,m,n,o,p] t)(a b c v3 d e f g):(Oj u β a b c v3 d e f g).1[β]?=some (.cells #[a,b,c,v3,d,e,f,g] t):=yN h a b c v3 d e f g
theorem Oi(u β e f g v3 h i j k):Fr (Bl.one β) u (Oj u β e f g v3 h i j k):=by
 have a:∀(c:World) (b:Nat) (v:Value),Fr (Bl.one β) u c->Fr (Bl.one β) u (c.setCell (aD β b) v):=λc b v d=>d.setCell (p:=(aD β b)) (.inl rfl) v;exact a _ _ _ (a _ _ _ (a _ _ _ (a _ _ _ (a _ _ _ (a _ _ _ (a _ _ _ (a _ _ _ (AE _ _))))))))
abbrev pgO(g:Pg)(ka ia ea:Option Addr)(kc ic ec:Nat):Obj:=.cells #[.int .i64 g.kind,.int .i64 g.ver,.int .i64 g.root,.int .i64 g.next,.slice ka g.keys.length kc,.slice ia g.kids.length ic,.slice ea g.ents.length ec,.string g.data] 80
theorem Hj(β sv lv fs root o r q p g w)(h:aA w β sv lv fs)(A:(fs.life==0)=false)(U:fs.has p g):
  cL 138 #[.agg #[.p β 0,.i root,.s o r q],.i p] w λe w'=>∃v,e=.r v/\Wt w' (New w w') g v/\bW w w':=by
 obtain⟨J,X⟩:=U;have W:fs.readS p=fs.at p:=by simp[Fs.readS,J,A]
 have V:(decide (p<fs.safe)&&!(fs.life==0))=true:=by simp[J,A]
 obtain⟨a,x,s,a5,K,-⟩:=al2 w (.cells #[.p β 0,.i root,.s o r q] 90) (.cells #[.i 0,.i 0,.i 0,.i 0,.n,.n,.n,.e] 80);have G:=h.bl s;have I:=lH β sv lv fs p a G;rw[W,V]at I;have H:=fH β sv lv fs a G;rw[A]at H; have ar:a.c w 0=some (.p β 0):=by simp[World.cell?,a5]
 have a0:=(gL K);have T:=Nb X a;go_enter func138,ntmps138;go_wp2_with (first
  |(refine I.m ?_;rintro e w' ⟨rfl,Y⟩;subst w')
  |(refine H.m ?_;rintro e w' ⟨rfl,Y⟩;subst w')
  |(refine T.m ?_;rintro e l ⟨j,f,c,k,i,d,rfl,a1,a2,a3,a4,z⟩;obtain⟨b,y,-,a6,-⟩:=al1 l (pgO g j f c k i d);obtain⟨a9,aa,ab,ac,ad,ae,af,ag⟩:=bU a6;have t:=z.t (y▸(AC _ _).alloc z.size _);have C:=(t.block _ a0).t K;obtain⟨ah,ai,aj,ak,al,am,an,ao⟩:=bU C;have ap:=aF C))
 obtain⟨D,a8⟩:=nM (Oj b (w+1) (.i g.kind) (.i g.ver) (.i g.root) (.i g.next) (.s j g.keys k) (.s f g.kids i) (.s c g.ents d) (.t g.data));have a7:=Gj C (.i g.kind) (.i g.ver) (.i g.root) (.i g.next) (.s j g.keys k) (.s f g.kids i) (.s c g.ents d) (.t g.data);have F:=Oi b (w+1) (.i g.kind) (.i g.ver) (.i g.root) (.i g.next) (.s j g.keys k) (.s f g.kids i) (.s c g.ents d) (.t g.data);obtain⟨L,M,N,O,P,Q,R,S⟩:=bU a7;unfold Oj at L M N O P Q R S;refine BH (v:=.agg #[.i g.kind,.i g.ver,.i g.root,.i g.next,.s j g.keys k,.s f g.kids i,.s c g.ents d,.t g.data]) ?_ rfl ⟨_,rfl,?_,?_⟩
 .simp[results,results138,go_sem,L,M,N,O,P,Q,R,S]
 .have E:=(y▸(AE _ l).alloc _:Fr (Bl.one (w+1)) l b).t F;have B:=E.on (Z:=New a l) (λn m=>⟨m.2,λe=>by simp only[Bl.one]at e;have:=m.1;omega⟩);have u:∀n,New a l n->New w (Oj b (w+1) (.i g.kind) (.i g.ver) (.i g.root) (.i g.next) (.s j g.keys k) (.s f g.kids i) (.s c g.ents d) (.t g.data)) n:=λn m=>⟨by have:=m.1;have:=s.size;omega,jY m.2 E.size⟩;exact⟨j,f,c,k,i,d,rfl,(a1.on B).m u,(a2.on B).m u,(a3.on B).m u,a4⟩
 .exact(s.t (t.m ω)).t (F.below (η t.size) (λ_=>φ))
theorem Pl {l:List Ent}(a:j<l):(l.flatMap Ent.cells)[j * 4]?=some (.t (l[j]).key)/\(l.flatMap Ent.cells)[j * 4+1]?=some (.t (l[j]).val)/\(l.flatMap Ent.cells)[j * 4+2]?=some (.i (l[j]).size)/\(l.flatMap Ent.cells)[j * 4+3]?=some (.i (l[j]).over):=by
 induction l generalizing j with
 |nil=>simp at a
 |cons x l ih =>
  cases j with
  |zero=>simp[Ent.cells]
  |succ j =>
   have:=ih (j:=j) ζ;have b:(j+1) * 4=j * 4+4:=ω;have c:(j+1) * 4+1=j * 4+1+4:=ω;have d:(j+1) * 4+2=j * 4+2+4:=ω;have e:(j+1) * 4+3=j * 4+3+4:=ω;rw[c,d,e,b];simpa[Ent.cells] using this
theorem aH.ent {S:Bl}{a:Option Addr}{l:List Ent}(h:aH w S a (l.flatMap Ent.cells))(n:j<l):∃b c,a=some (aD b c)/\S b/\w.c b (c+j * 4)=some (.t (l[j]).key)/\w.c b (c+j * 4+1)=some (.t (l[j]).val)/\w.c b (c+j * 4+2)=some (.i (l[j]).size)/\w.c b (c+j * 4+3)=some (.i (l[j]).over):=by
 have⟨e,f,g,i⟩:=Pl n;rcases h with h|⟨b,c,k,m,d⟩
 .grind
 grind
theorem wrap_small (h:n<=4294967296):IntKind.i64.wrap (n:Int)=(n:Int):=by simp[IntKind.wrap,IntKind.bits,IntKind.signed];omega
abbrev xI:Obj:=.cells #[.int .i64 0,.int .i64 0,.int .i64 0,.int .i64 0,.slice none 0 0,.slice none 0 0,.slice none 0 0,.string ⟨#[]⟩] 80
