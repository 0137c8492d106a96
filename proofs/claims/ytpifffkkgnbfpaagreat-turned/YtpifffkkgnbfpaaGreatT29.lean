import Derived.Test.YtpifffkkgnbfpaaGreatT28
set_option linter.unusedSimpArgs false
set_option linter.unusedVariables false
set_option maxRecDepth 100000
set_option maxHeartbeats 8000000
namespace Go.Proofs.YtpifffkkgnbfpaaGreat.Tree
open Go.RowKit Pages
variable {k:Nat} {v:UInt8}
def kX (s:ByteArray) (k:Nat) (v:UInt8):ByteArray:=⟨(s.data.toList.set k v).toArray⟩
theorem Ov (s:ByteArray) (k:Nat) (v:UInt8):(kX s k v).size=s.size:=by
 show (s.data.toList.set k v).toArray.size=s.data.size
 simp
theorem tK {s:ByteArray} (h:¬ Dt s):Whole s.data.toList:=by
 obtain⟨h1,h2,h3⟩:=Classical.not_not.1 h
 rw [← h3]
 exact Hm _ h2
theorem Sx (a b r:Nat):Crc.shN (a+b) r=Crc.shN a (Crc.shN b r):=by
 induction a with
 | zero=>rw [Nat.zero_add];rfl
 | succ a ih=>rw [Nat.succ_add];show Crc.sh _=Crc.sh _;rw [ih]
theorem Mt (n r:Nat):(List.replicate n (0:UInt8)).foldl Crc.kN r=Crc.shN (8 * n) r:=by
 induction n generalizing r with
 | zero=>rfl
 | succ n ih =>
  rw [List.replicate_succ,List.foldl_cons,ih,show 8 * (n+1)=8 * n+8 by omega,Sx]
  show Crc.shN (8 * n) (Crc.shN 8 (r ^^^ 0))=_
  rw [Nat.xor_zero]
theorem qHa:Crc.shN 251 1526341860=48625151:=by decide +kernel
theorem qGz:Crc.shN 251 48625151=354338160:=by decide +kernel
theorem qGy:Crc.shN 251 354338160=3035271648:=by decide +kernel
theorem qGx:Crc.shN 251 3035271648=1514285444:=by decide +kernel
theorem qGw:Crc.shN 251 1514285444=17263586:=by decide +kernel
theorem qGv:Crc.shN 251 17263586=885061734:=by decide +kernel
theorem qGu:Crc.shN 251 885061734=4001143132:=by decide +kernel
theorem qGt:Crc.shN 251 4001143132=1516592749:=by decide +kernel
theorem qGs:Crc.shN 251 3287511390=3150771856:=by decide +kernel
theorem qGr:Crc.shN 251 3150771856=3872784585:=by decide +kernel
theorem qGq:Crc.shN 251 3872784585=3787034778:=by decide +kernel
theorem qGp:Crc.shN 251 3787034778=3551516782:=by decide +kernel
theorem qGo:Crc.shN 251 3551516782=505639771:=by decide +kernel
theorem qGn:Crc.shN 251 505639771=2769994205:=by decide +kernel
theorem qGm:Crc.shN 251 2769994205=2395324279:=by decide +kernel
theorem qGl:Crc.shN 251 2395324279=1584355016:=by decide +kernel
theorem qGk:Crc.shN 251 3035906504=3542874037:=by decide +kernel
theorem qGj:Crc.shN 251 3542874037=3079781470:=by decide +kernel
theorem qGi:Crc.shN 251 3079781470=3532165196:=by decide +kernel
theorem qGh:Crc.shN 251 3532165196=500927223:=by decide +kernel
theorem qGg:Crc.shN 251 500927223=348161228:=by decide +kernel
theorem qGf:Crc.shN 251 348161228=3584874164:=by decide +kernel
theorem qGe:Crc.shN 251 3584874164=2930597230:=by decide +kernel
theorem qGd:Crc.shN 251 2930597230=1570156203:=by decide +kernel
theorem qGc:Crc.shN 251 714134635=317715983:=by decide +kernel
theorem qGb:Crc.shN 251 317715983=3661008378:=by decide +kernel
theorem qGa:Crc.shN 251 3661008378=1260360302:=by decide +kernel
theorem qFz:Crc.shN 251 1260360302=453328379:=by decide +kernel
theorem qFy:Crc.shN 251 453328379=543900201:=by decide +kernel
theorem qFx:Crc.shN 251 543900201=1574941930:=by decide +kernel
theorem qFw:Crc.shN 251 1574941930=1337455393:=by decide +kernel
theorem qFv:Crc.shN 251 1337455393=1450919810:=by decide +kernel
theorem rV {r r0 r1 r2 r3 r4 r5 r6 r7:Nat} (h0:Crc.shN 251 r=r0) (h1:Crc.shN 251 r0=r1) (h2:Crc.shN 251 r1=r2) (h3:Crc.shN 251 r2=r3) (h4:Crc.shN 251 r3=r4) (h5:Crc.shN 251 r4=r5) (h6:Crc.shN 251 r5=r6) (h7:Crc.shN 251 r6=r7):(List.replicate 251 (0:UInt8)).foldl Crc.kN r=r7:=by
 rw [Mt,show 8 * 251=251+(251+(251+(251+(251+(251+(251+251)))))) from rfl]
 simp only [Sx,h0,h1,h2,h3,h4,h5,h6,h7]
theorem qBl (v:UInt8) (h0:v≠0) (h4:v.toNat≤4):Crc.uD (v :: List.replicate 251 0)≠4294967295:=by
 have hv:v=1∨v=2∨v=3∨v=4:=by
  have h:v.toNat=0∨v.toNat=1∨v.toNat=2∨v.toNat=3∨v.toNat=4:=by omega
  rcases h with h|h|h|h|h
  ·exact absurd (UInt8.toNat_inj.1 h) h0
  ·exact .inl (UInt8.toNat_inj.1 h)
  ·exact .inr (.inl (UInt8.toNat_inj.1 h))
  ·exact .inr (.inr (.inl (UInt8.toNat_inj.1 h)))
  ·exact .inr (.inr (.inr (UInt8.toNat_inj.1 h)))
 unfold Crc.uD
 rw [List.foldl_cons]
 rcases hv with rfl|rfl|rfl|rfl
 ·rw [show Crc.kN 4294967295 1=1526341860 from by decide +kernel,rV qHa qGz qGy qGx qGw qGv qGu qGt];decide
 ·rw [show Crc.kN 4294967295 2=3287511390 from by decide +kernel,rV qGs qGr qGq qGp qGo qGn qGm qGl];decide
 ·rw [show Crc.kN 4294967295 3=3035906504 from by decide +kernel,rV qGk qGj qGi qGh qGg qGf qGe qGd];decide
 ·rw [show Crc.kN 4294967295 4=714134635 from by decide +kernel,rV qGc qGb qGa qFz qFy qFx qFw qFv];decide
theorem Ew (s:ByteArray) (k:Nat) (v:UInt8):(kX s k v).data.toList=s.data.toList.set k v:=rfl
theorem tB:(dV 256).data.toList=List.replicate 256 0:=rfl
theorem Ep (hk:k<256)  (hv:v≠0):Dt (kX (dV 256) k v):=by
 intro ⟨h1,hE,hS⟩
 have hl:(kX (dV 256) k v).data.toList=(List.replicate 256 0).set k v:=rfl
 by_cases h0:k=0
 ·subst h0
  have hl0:(kX (dV 256) 0 v).data.toList=v :: List.replicate 255 0:=rfl
  by_cases h4:v.toNat≤4
  ·have hW:Whole (v :: List.replicate 255 0):=hl0▸hS▸Hm _ hE
   have hp:=qI hW
   have e1:(v :: List.replicate 255 (0:UInt8)).drop 252=[0,0,0,0]:=by rw [show 252=251+1 from rfl,List.drop_succ_cons,List.drop_replicate];rfl
   have e2:(v :: List.replicate 255 (0:UInt8)).take 252=v :: List.replicate 251 0:=by rw [show 252=251+1 from rfl,List.take_succ_cons,List.take_replicate,Nat.min_eq_left (by decide)]
   rw [e1,e2] at hp
   have e3:beB 4 ((0:Nat):Int)=[0,0,0,0]:=by decide
   rw [← e3] at hp
   have e4:=Uf (by decide) (Crc.Jk _) hp
   have e5:=Crc.nO (v :: List.replicate 251 0)
   unfold Crc.crc at e4
   exact qBl v hv h4 (by omega)
  ·unfold dE kZ at hE
   rw [hl0,show (v :: List.replicate 255 (0:UInt8)).getD 0 0=v from rfl,if_neg (by omega),if_neg (by omega),if_neg (by omega),if_neg (by omega)] at hE
   have n1:((v.toNat:Nat):Int)≠1:=by omega
   have n2:((v.toNat:Nat):Int)≠2:=by omega
   have n3:((v.toNat:Nat):Int)≠3:=by omega
   have n4:((v.toNat:Nat):Int)≠4:=by omega
   simp [Pg.encE,Pages.cH,dL,n1,n2,n3,n4] at hE
 ·have hh:(kX (dV 256) k v).data.toList.getD 0 0=0:=by
   rw [hl,List.getD_eq_getElem?_getD,List.getElem?_set_ne h0]
   rfl
  unfold dE at hE
  rw [hh] at hE
  simp [kZ,Pg.encE,Pages.cH,dL] at hE
theorem Fv {s:ByteArray} {g:Pg} (h:Ju s g)  (hk:k<256)  (hv:s.data.toList[k]?≠some v):Dt (kX s k v):=by
 intro hb
 have h1:=tK (s:=s) (fun hn=>hn ⟨h.1,h.2.1,h.2.2.1⟩)
 have h2:=tK (s:=kX s k v) (fun hn=>hn hb)
 have hl:=wI h1
 refine Kf h1 k (by omega) v (fun e=>hv ?_) h2
 rw [jQ (by omega),e]
theorem Vt {fs:Fs} {q ver root:Nat} (h:dO fs q ver root)  (hk:k<256)  (hv:(fs.at q).data.toList[k]?≠some v):wG (kX (fs.at q) k v):=by
 rcases h with⟨h,_⟩|h
 ·rw [h] at hv ⊢
  have hv0:v≠0:=fun e=>hv (by rw [e,tB,List.getElem?_replicate,if_pos hk])
  refine⟨fun e=>?_,Ep hk hv0⟩
  have:=congrArg (fun s:ByteArray=>s.data.toList[k]?) e
  simp only [Ew,tB] at this
  rw [List.getElem?_set_self (by rw [List.length_replicate];exact hk),List.getElem?_replicate,if_pos hk] at this
  exact hv0 (Option.some.inj this)
 ·refine⟨fun e=>?_,Fv h hk hv⟩
  -- the page would be zeros with a byte turned
  have hlen:(fs.at q).data.toList.length=256:=wI (tK (fun hn=>hn ⟨h.1,h.2.1,h.2.2.1⟩))
  have hget:(fs.at q).data.toList[k]?=some ((fs.at q).data.toList[k]'(by omega)):=jQ _
  obtain⟨u,hu⟩:=nM ((fs.at q).data.toList[k]'(by omega))
  rw [hu] at hget
  have hz:=congrArg (fun s:ByteArray=>s.data.toList) e
  simp only [Ew,tB] at hz
  have hs:fs.at q=kX (dV 256) k u:=by
   apply ByteArray.ext
   apply Array.ext'
   rw [show (kX (dV 256) k u).data.toList=(List.replicate 256 0).set k u from rfl,← hz,List.set_set]
   obtain⟨hx,hy⟩:=List.getElem?_eq_some_iff.1 hget
   rw [← hy]
   exact(List.set_getElem_self hx).symm
  have hu0:u≠0:=fun e0=>by
   have hv':v=0:=by
    have this:((fs.at q).data.toList.set k v)[k]?=(List.replicate 256 (0:UInt8))[k]?:=by rw [hz]
    rw [List.getElem?_set_self (by omega),List.getElem?_replicate,if_pos hk] at this
    exact Option.some.inj this
   exact hv (by rw [hget,e0,hv'])
  exact Ep hk hu0 (hs▸⟨h.1,h.2.1,h.2.2.1⟩)
theorem Xx (b:UInt8) (m:Int) (h0:0≤m) (h1:m<255):∃ t:UInt8,t≠b∧bits BinOp.xor IntKind.u8 (b.toNat:Int) (1+m)=(t.toNat:Int):=by
 obtain⟨n,rfl⟩:∃ n:Nat,m=n:=⟨m.toNat,by omega⟩
 have hb:=b.toNat_lt
 have e:(1:Int)+(n:Int)=((1+n:Nat):Int):=by omega
 have hx:b.toNat ^^^ (1+n)<256:=Nat.xor_lt_two_pow (n:=8) (by omega) (by omega)
 refine⟨UInt8.ofNat (b.toNat ^^^ (1+n)),fun h=>?_,?_⟩
 ·have h2:=congrArg UInt8.toNat h
  rw [UInt8.toNat_ofNat_of_lt' (by simpa [UInt8.size] using hx)] at h2
  have h3:=congrArg (fun x=>b.toNat ^^^ x) h2
  simp only [← Nat.xor_assoc,Nat.xor_self,Nat.zero_xor] at h3
  omega
 ·rw [e,u8_xor_nat _ _ (by omega) (by omega),UInt8.toNat_ofNat_of_lt' (by simpa [UInt8.size] using hx)]
theorem Us (β:Nat) (sv lv:Value) (fs:Fs) (p k:Nat) (m:Int) (w:World) (h:aD w β sv lv fs) (h0:0≤m) (h1:m<255) (hp:p<fs.safe.length) (hk:k<256) (hz:(fs.safe[p]).size=256) :
  Calls Tryz.prog 31 #[.pointer (some ⟨β,0,none⟩),.int .i64 (p:Nat),.int .i64 (k:Nat),.int .i64 (1+m)] w fun e w'=>(∃ v,e=.returned v)∧∃ t:UInt8,(fs.safe[p]).data.toList[k]?≠some t∧aD w' β sv lv { fs with safe:=fs.safe.set p (kX fs.safe[p] k t) }∧Fr (fpF β sv lv) w w':=by
 obtain⟨sa,sc,rfl⟩:=aP h.safe
 obtain⟨s,hs⟩:=nM (fs.safe[p])
 rw [hs] at hz ⊢
 have hl:s.data.toList.length=256:=by rw [Array.length_toList];exact hz
 obtain⟨c0,c1,c2,c3,c4⟩:=dS h.box
 obtain⟨g,hg,hglt,hgc,hgv⟩:=mH h.safe (j:=p) (u:=.string s) (by rw [List.getElem?_map,jQ hp,hs];rfl)
 subst hg
 obtain⟨c,v,hcv,hvb,hvc,hvf,row,fz,hrow,hrs⟩:=Nq s w
 have hkl:k<s.data.toList.length:=by omega
 obtain⟨b,hb⟩:=nM (s.data.toList[k]'hkl)
 have hcb:v.cell? ⟨w.heap.size,k,none⟩=some (.int .u8 (b.toNat:Int)):=hb▸hvc k hkl
 obtain⟨t,ht,hx⟩:=Xx b m h0 h1
 have hff:=hvf k (by omega)
 obtain⟨v2,hv2⟩:=nM (v.setCell ⟨w.heap.size,k,none⟩ (.int .u8 (t.toNat:Int)))
 have hset:v2.heap[w.heap.size]?=some (.cells (row.setIfInBounds k (cV t)) 5 fz):=hv2▸qCm hrow _
 have F2:Fr (Bl.one w.heap.size) v v2:=hv2▸(Fr.refl (Bl.one w.heap.size) v).setCell (p:=⟨w.heap.size,k,none⟩) (.inl rfl) _
 have B2:Below w.heap.size w v2:=hvb.trans (F2.below hvb.size (oK (by omega)))
 have h2:=h.on (vV B2 h.lies)
 obtain⟨d0,d1,d2,d3,d4⟩:=dS h2.box
 obtain⟨g',hg',_,_,hgv'⟩:=mH h2.safe (j:=p) (u:=.string s) (by rw [List.getElem?_map,jQ hp,hs];rfl)
 cases hg'
 have sfr:=World.ownsRow.frozenAt (w:=v2) h2.safe
 have hpi:(p:Int)<(fs.safe.length:Int):=by omega
 have hki:(k:Int)<256:=by omega
 obtain⟨s2,hs2⟩:=nM (kX s k t)
 have hback:(convert 115 9 (.slice (some ⟨w.heap.size,0,none⟩) 256 c)).run Tryz.prog v2.drew=.ok (.string s2) v2.drew:=hs2▸yT v v2.drew w.heap.size k c s.data.toList t hvc row fz hrow hset hkl 256 (by omega)
 have hset3:(v2.drew.setCell ⟨g,p,none⟩ (.string s2)).heap[w.heap.size]?=some (.cells (row.setIfInBounds k (cV t)) 5 fz):=((Fr.refl (Bl.one g) v2.drew).setCell (p:=⟨g,p,none⟩) (.inl rfl) (.string s2)).heap hset (oN (by omega))
 have hback2:(convert 115 9 (.slice (some ⟨w.heap.size,0,none⟩) 256 c)).run Tryz.prog (v2.drew.setCell ⟨g,p,none⟩ (.string s2))=.ok (.string s2) (v2.drew.setCell ⟨g,p,none⟩ (.string s2)):=hs2▸yT v _ w.heap.size k c s.data.toList t hvc row fz hrow (hs2▸hset3) hkl 256 (by omega)
 have ngb:g≠β:=fun e=>aX h2.safe h2.box (by decide) (by simp [Value.ownBlock,e])
 have d0s:(v2.drew.setCell ⟨g,p,none⟩ (.string s2)).cell? ⟨β,0,none⟩=some (.slice (some ⟨g,0,none⟩) fs.safe.length sc):=by rw [World.cell?_setCell_other _ _ _ _ (by intro e;exact ngb (congrArg Addr.block e))];exact d0
 have HSt:=h2.stored (p:=p) (data:=s2) rfl
 have HT:Hid (s.data.toList[k]?≠some t):=fun e=>ht (by rw [jQ hkl,hb] at e;exact(Option.some.inj e).symm)
 have H2:Hid (aD v2 β (.slice (some ⟨g,0,none⟩) fs.safe.length sc) lv fs):=h2
 have HS:Hid (aD (v2.setCell ⟨g,p,none⟩ (.string s2)) β (.slice (some ⟨g,0,none⟩) fs.safe.length sc) lv { fs with safe:=fs.safe.set p s2 }):=HSt
 clear hvc hvf hrow hset hset3 hb hl h2 HSt h
 go_enter Tryz.func31,Tryz.ntmps31
 go_wp2
 go_region_held3 (fun X=>X.cell? ⟨β,0,none⟩=some (.slice (some ⟨g,0,none⟩) fs.safe.length sc)∧(convert 115 9 (.slice (some ⟨w.heap.size,0,none⟩) 256 c)).run Tryz.prog X=.ok (.string s2) X)
  ((first|(with_reducible exact⟨d0,hback⟩)|(with_reducible exact⟨d0s,hback2⟩)|exact⟨d0,hback⟩|exact⟨d0s,hback2⟩))
  (fail)
 all_goals
  go_wp2
  go_end0
  refine⟨⟨_,rfl⟩,t,HT.out,?_,(((Fr.of_below B2).setCell (p:=⟨g,p,none⟩) (.inl (.inr (.inl rfl))) _)).drew⟩
  rw [hs2]
  exact HS.out.on (On.refl _ _).drew
open Go.Shelf
variable {p0:Nat}
attribute [local go_sem] Oper.semAt_some
theorem fZ.ok {fs fs':Fs}  (hS:fZ fs fs' p0) {x:En} (h:x.ok fs) (hn:p0 ∉ x.pages):x.ok fs':=by
 obtain⟨size,over,h1,h2,h3,h4⟩:=h
 refine⟨size,over,h1,h2,h3,h4.imp id (fun ⟨a,b⟩=>⟨a,nP b (fun y hy g hg=>hS.has hg (fun e=>hn ?_))⟩)⟩
 rw [← e];exact List.mem_map_of_mem hy
theorem Zi {s:Sp} {ks:List ByteArray} {kids:List T} {x:T×Sp} (h:x∈parts s ks kids):x.1∈kids:=by
 obtain⟨i,hi,rfl⟩:=List.getElem_of_mem h
 have hk:i<kids.length:=by rwa [dB] at hi
 have:=fK s ks kids i hk
 rw [jQ hi,Option.some.injEq] at this
 rw [this]
 exact List.getElem_mem hk
theorem fZ.stands {fs fs':Fs}  (hS:fZ fs fs' p0):∀ {h:Nat} {t:T} {s:Sp},aT fs h t s→p0 ∉ T.pages h t→aT fs' h t s
 | 0,.leaf p es,s,ht,hn=>Ii ht (fun q hq g hg=>hS.has hg (fun e=>hn (e▸hq)))
 | 0,.branch ..,_,ht,_=>ht.elim
 | h+1,.leaf ..,_,ht,_=>ht.elim
 | h+1,.branch p ks kids,s,ht,hn=>by
  obtain⟨g,hg,h1,h2,h3,h4,h5,hall⟩:=ht
  simp only [T.pages,List.mem_cons,List.mem_flatMap,not_or,not_exists,not_and] at hn
  exact⟨g,hS.has hg (fun e=>hn.1 e.symm),h1,h2,h3,h4,h5,fun x hx=>hS.stands (hall x hx) (hn.2 x.1 (Zi hx))⟩
theorem sU (β:Nat) (sv lv:Value) (fs fs':Fs) (p0:Nat) (hS:fZ fs fs' p0) (root:Int) (ca:Option Addr) (cn cc:Nat) (ub:Nat)
  (s:Sp) (u:List Bool) (w:World) (hu:u.length=4096) (hf:aD w β sv lv fs') (hU:aK w ub u) (hnot:¬ on u p0) :
  Calls Tryz.prog 86 #[.agg (tA β root ca cn cc),.int .i64 p0,.agg #[.string s.lo,.string s.hi],.slice (some ⟨ub,0,none⟩) 4096 4096] w fun e w' =>
    e=.panicked (nW 10)∧Fr (Bl.one ub) w w':=by
 obtain⟨p,hp0⟩:=nM (p0)
 rw [hp0] at hnot ⊢
 have hp:p<4096:=hp0▸jY hS.lt (hS.len▸hf.small)
 have hpi:(p:Int)<4096:=by omega
 obtain⟨W1,hW1⟩:=nM (((w.alloc (.cells (tA β root ca cn cc) 95)).alloc (.cells #[.string s.lo,.string s.hi] 135)).alloc (.cells #[.slice (some ⟨ub,0,none⟩) 4096 4096] 121))
 have B1:Below w.heap.size w W1:=hW1▸((bA _ _).alloc (by simp) _).alloc (by simp;omega) _
 have t1:W1.heap[w.heap.size]?=some (.cells (tA β root ca cn cc) 95):=hW1▸aB _ (aB _ (aA w _))
 have s1:W1.heap[w.heap.size+1]?=some (.cells #[.string s.lo,.string s.hi] 135):=by
  rw [← hW1];refine aB _ ?_;have:=aA (w.alloc (.cells (tA β root ca cn cc) 95)) (.cells #[.string s.lo,.string s.hi] 135);simpa using this
 have b1:W1.heap[w.heap.size+1+1]?=some (.cells #[.slice (some ⟨ub,0,none⟩) 4096 4096] 121):=by
  rw [← hW1];have:=aA ((w.alloc (.cells (tA β root ca cn cc) 95)).alloc (.cells #[.string s.lo,.string s.hi] 135)) (.cells #[.slice (some ⟨ub,0,none⟩) 4096 4096] 121);simpa using this
 have z1:W1.heap.size=w.heap.size+3:=by rw [← hW1];simp
 have hU1:aK W1 ub u:=hU.on (vV B1 (Y:=Bl.one ub) (fun k hk=>by simp only [Bl.one] at hk;subst hk;exact hU.lt)) rfl
 have hcu:=hU1.cell hp hu
 have hval:u[p]'(by omega)=false:=by
  cases hv:u[p]'(by omega) with
  | false=>rfl
  | true=>exact absurd (List.getElem?_eq_some_iff.2 ⟨by omega,hv⟩) hnot
 rw [hval] at hcu
 have hfz:=hU1.free
 obtain⟨W2,hW2⟩:=nM (W1.setCell ⟨ub,p,none⟩ (.bool true))
 have lub:=hU.lt
 have f2:Fr (Bl.one ub) W1 W2:=hW2▸(Fr.refl (Bl.one ub) W1).setCell (p:=⟨ub,p,none⟩) (.inl rfl) _
 have hU2:aK W2 ub (u.set p true):=hW2▸hU1.set p
 have t2:=f2.heap t1 (oN (by omega))
 have s2:=f2.heap s1 (oN (by omega))
 have b2:=f2.heap b1 (oN (by omega))
 obtain⟨tc0,tc1,tc2⟩:=dR t2
 obtain⟨sc0,sc1⟩:=bQ s2
 have bc0:W2.cell? ⟨w.heap.size+1+1,0,none⟩=some (.slice (some ⟨ub,0,none⟩) 4096 4096):=by simp [World.cell?,b2]
 have bc1:W1.cell? ⟨w.heap.size+1+1,0,none⟩=some (.slice (some ⟨ub,0,none⟩) 4096 4096):=by simp [World.cell?,b1]
 have hf1:aD W1 β sv lv fs':=hf.on (vV B1 hf.lies)
 have hf2:aD W2 β sv lv fs':=hf1.on (f2.on (fun k hk=>⟨hf1.lies k hk,fun h=>by simp only [Bl.one] at h;subst h;exact hU1.apart hf1 hk⟩))
 have hNd:=Zw β sv lv fs' root ca cn cc p s W2 hf2 hS.alive (hp0▸hS.len▸hS.lt) (hp0▸hS.bad)
 clear hval z1
 refine(callsIn_wide (n:=0)).1 (callsIn_of_wp_marks Tryz.func86 rfl trivial ?_ rfl)
 simp only [Tryz.ntmps86,jA,jB,jN,Nat.reduceAdd,Nat.reduceSub,jR,jO,jP,jT,jE,jF]
 gi_wp2_with (refine⟨trivial,rfl,?_⟩;gi_at_call 117;refine(callsIn_wide.2 hNd).mono ?_;clear hNd;rintro e W3 ⟨rfl,hb3⟩)
 exact⟨rfl,((Fr.of_below B1).trans f2).trans (Fr.of_below hb3)⟩
theorem qAx {l:List (Nat×Pg)} (h:p0∈l.map (·.1)):∃ xs g post,l=xs++(p0,g) :: post∧∀ x∈xs,x.1≠p0:=by
 induction l with
 | nil=>simp at h
 | cons y l ih =>
  by_cases e:y.1=p0
  ·exact⟨[],y.2,l,by rw [← e];rfl,by simp⟩
  ·obtain⟨xs,g,post,h1,h2⟩:=ih (by simpa [Ne.symm e] using h)
   exact⟨y :: xs,g,post,by rw [h1];rfl,by simpa [e] using h2⟩
theorem Eb (β:Nat) (sv lv:Value) (fs fs':Fs) (p0:Nat) (hSp:fZ fs fs' p0) (root:Int) (ca:Option Addr) (cn cc:Nat) (ub:Nat)
  (p:Nat) (es:List En) (s:Sp) (u:List Bool) (w:World) (ht:aT fs 0 (.leaf p es) s) (hs:Shut u 0 (.leaf p es)) (hu:u.length=4096) (hf:aD w β sv lv fs') (hU:aK w ub u) (hnot:¬ on u p) (hpp:p≠p0) (hin0:p0∈es.flatMap En.pages) :
  Calls Tryz.prog 86 #[.agg (tA β root ca cn cc),.int .i64 p,.agg #[.string s.lo,.string s.hi],.slice (some ⟨ub,0,none⟩) 4096 4096] w fun e w' =>
    e=.panicked (nW 10)∧Fr (Bl.one ub) w w':=by
 have hl:=hSp.alive
 have ht0:=ht
 obtain⟨g,hg,hk3,hes,hne,hin,hok⟩:=ht
 have hg:=hSp.has hg hpp
 have hp:p<4096:=jY hg.1 hf.small
 have hpi:(p:Int)<4096:=by omega
 obtain⟨W1,hW1⟩:=nM (((w.alloc (.cells (tA β root ca cn cc) 95)).alloc (.cells #[.string s.lo,.string s.hi] 135)).alloc (.cells #[.slice (some ⟨ub,0,none⟩) 4096 4096] 121))
 have B1:Below w.heap.size w W1:=hW1▸((bA _ _).alloc (by simp) _).alloc (by simp;omega) _
 have t1:W1.heap[w.heap.size]?=some (.cells (tA β root ca cn cc) 95):=hW1▸aB _ (aB _ (aA w _))
 have s1:W1.heap[w.heap.size+1]?=some (.cells #[.string s.lo,.string s.hi] 135):=by
  rw [← hW1];refine aB _ ?_;have:=aA (w.alloc (.cells (tA β root ca cn cc) 95)) (.cells #[.string s.lo,.string s.hi] 135);simpa using this
 have b1:W1.heap[w.heap.size+1+1]?=some (.cells #[.slice (some ⟨ub,0,none⟩) 4096 4096] 121):=by
  rw [← hW1];have:=aA ((w.alloc (.cells (tA β root ca cn cc) 95)).alloc (.cells #[.string s.lo,.string s.hi] 135)) (.cells #[.slice (some ⟨ub,0,none⟩) 4096 4096] 121);simpa using this
 have z1:W1.heap.size=w.heap.size+3:=by rw [← hW1];simp
 have hU1:aK W1 ub u:=hU.on (vV B1 (Y:=Bl.one ub) (fun k hk=>by simp only [Bl.one] at hk;subst hk;exact hU.lt)) rfl
 have hcu:=hU1.cell hp hu
 have hval:u[p]'(by omega)=false:=by
  cases hv:u[p]'(by omega) with
  | false=>rfl
  | true=>exact absurd (List.getElem?_eq_some_iff.2 ⟨by omega,hv⟩) hnot
 rw [hval] at hcu
 have hfz:=hU1.free
 obtain⟨W2,hW2⟩:=nM (W1.setCell ⟨ub,p,none⟩ (.bool true))
 have lub:=hU.lt
 have f2:Fr (Bl.one ub) W1 W2:=hW2▸(Fr.refl (Bl.one ub) W1).setCell (p:=⟨ub,p,none⟩) (.inl rfl) _
 have hU2:aK W2 ub (u.set p true):=hW2▸hU1.set p
 have t2:=f2.heap t1 (oN (by omega))
 have s2:=f2.heap s1 (oN (by omega))
 have b2:=f2.heap b1 (oN (by omega))
 obtain⟨tc0,tc1,tc2⟩:=dR t2
 obtain⟨sc0,sc1⟩:=bQ s2
 have bc0:W2.cell? ⟨w.heap.size+1+1,0,none⟩=some (.slice (some ⟨ub,0,none⟩) 4096 4096):=by simp [World.cell?,b2]
 have bc1:W1.cell? ⟨w.heap.size+1+1,0,none⟩=some (.slice (some ⟨ub,0,none⟩) 4096 4096):=by simp [World.cell?,b1]
 have hf1:aD W1 β sv lv fs':=hf.on (vV B1 hf.lies)
 have hf2:aD W2 β sv lv fs':=hf1.on (f2.on (fun k hk=>⟨hf1.lies k hk,fun h=>by simp only [Bl.one] at h;subst h;exact hU1.apart hf1 hk⟩))
 obtain⟨sm1,sm2,sm3⟩:=fS hg
 have he0:0<g.ents.length:=by rw [hes,List.length_map];exact List.length_pos_iff.2 hne
 have hel:g.ents.length=es.length:=by rw [hes,List.length_map]
 have hin':∀ e∈g.ents,s.has e.key=true:=fun e he=>by rw [hes,List.mem_map] at he;obtain⟨x,hx,rfl⟩:=he;exact hin x hx
 have hNd:=oO β sv lv fs' root ca cn cc p s g W2 hf2 hl hg (by simp [hk3]) (by simp [hk3]) he0 (hin' _ (List.getElem_mem _)) (hin' _ (List.getElem_mem _)) sm1 sm3
 obtain⟨nk,nkd⟩:=mD hg hk3
 have HK:Hid (g.kids=[]):=nkd
 have HE:Hid (g.ents=es.map (·.e)):=hes
 have HL:Hid (g.ents.length=es.length):=hel
 have HU:Hid (u.length=4096):=hu
 clear hk3 hes nk nkd hel hu hval z1
 refine(callsIn_wide (n:=0)).1 (callsIn_of_wp_marks Tryz.func86 rfl trivial ?_ rfl)
 simp only [Tryz.ntmps86,jA,jB,jN,Nat.reduceAdd,Nat.reduceSub,jR,jO,jP,jT,jE,jF]
 gi_wp2_with (first
  | (refine⟨trivial,rfl,?_⟩;gi_at_call 117;refine(callsIn_wide.2 hNd).mono ?_;clear hNd;rintro e W3 ⟨vv,rfl,⟨ka,ia,ea,kc,ic,ec,rfl,q1,q2,q3,qq⟩,hb3⟩;obtain⟨W4,hW4⟩:=nM (W3.alloc (pgO g ka ia ea kc ic ec));have x4:W4.heap[W3.heap.size]?=some (pgO g ka ia ea kc ic ec):=hW4▸aA W3 _;obtain⟨m0,m1,m2,m3,m4,m5,m6,m7⟩:=bF x4;have f4:Fr Bl.none W2 W4:=(Fr.of_below hb3).trans (hW4▸(Fr.refl _ W3).alloc _);have s4:=f4.heap s2 (fun h=>h);obtain⟨sd0,sd1⟩:=bQ s4;have hKc:=kI g s ka ia ea kc ic ec W4)
  | (refine⟨trivial,rfl,?_⟩;gi_at_call 118;refine(callsIn_wide.2 hKc).mono ?_;clear hKc;rintro e W5 ⟨rfl,y1,y2,hb5⟩))
 have f5:Fr Bl.none W2 W5:=f4.trans (Fr.of_below hb5)
 have z4:W3.heap.size<W4.heap.size:=(gL x4)
 have z3:=hb3.size
 have hU5:aK W5 ub (u.set p true):=hU2.fr f5 (fun h=>h)
 have hf5:aD W5 β sv lv fs':=hf2.on (f5.on (fun k hk=>⟨hf2.lies k hk,fun h=>h⟩))
 have z5:W4.heap.size+1<W5.heap.size:=(gL y2)
 have zW2:w.heap.size+1+1<W2.heap.size:=(gL b2)
 have o35:On (New W2 W3) W3 W5:=(hW4▸(On.refl _ W3).alloc (fun k hk=>hk.2) _:On (New W2 W3) W3 W4).trans (vV hb5 (fun k hk=>by have:=hk.2;omega))
 let Rd:Bl:=fun k=>k=W4.heap.size∨k=W4.heap.size+1∨New W2 W3 k
 have hseq:=lS (W4.heap.size+1) W4.heap.size s g.kind g.ver g.root g.next ka ia ea kc ic g.ents.length ec g.data g.keys g.kids Rd W5 y2 y1 ((q1.on o35).mono (fun k hk=>.inr (.inr hk))) ((q2.on o35).mono (fun k hk=>.inr (.inr hk))) (.inr (.inl rfl)) (.inl rfl) sm1 sm2 qq.1 qq.2.1
 have hxs:parts s g.keys g.kids=[]:=by rw [HK.out];cases g.keys<;>rfl
 have HXS:Hid (parts s g.keys g.kids=[]):=hxs
 clear hxs
 let I:List (Int×Sp)→Bl→World→Prop:=fun pre Y W=>aK W ub (u.set p true)∧Y=Bl.one ub
 have t5:=f5.heap t2 (fun h=>h)
 have b5:=f5.heap b2 (fun h=>h)
 have x5:=(hb5.block _ z4).trans x4
 refine eM (P:=Tryz.prog) (Has:=kL) (Rd:=Rd) rfl (enters_of Tryz.func140 (by kernel_rfl) rfl) hseq (fun x args S W hH=>by rw [hH];rfl) I (fun _ _ _ _=>False) ?_ (fun _ _ _ _ _ h=>h.elim) ?_ (fun _ _ _ _ h=>h.elim) (Bl.one ub) ⟨hU5,rfl⟩ ?_ ?_ ?_ (fun _ _ _ _ _ _ _ _ _ h=>h.elim)
 ·rintro pre Y W W' ⟨h1,rfl⟩ ho
  exact⟨h1.on ho rfl,rfl⟩
 ·rintro pre Y W ⟨h1,rfl⟩ k hk
  simp only [Bl.one] at hk;subst hk;exact h1.lt
 ·rintro k (rfl|rfl|hk)
  ·exact⟨oN (by omega),by omega⟩
  ·exact⟨oN (by omega),by omega⟩
  ·exact⟨fun h=>by simp only [Bl.one] at h;have:=hk.1;omega,by have:=hk.2;omega⟩
 ·intro l pre x rest args S Y' W hx
  rw [HXS.out] at hx
  simp at hx
 ·-- behind the loop
  rintro D Y' W hD hYD ⟨hUp,rfl⟩ hFW hGW hDW
  have xW:=hFW.heap x5 (oN (by omega))
  obtain⟨n0,n1,n2,n3,n4,n5,n6,n7⟩:=bF xW
  have hm:Marks w.heap.size [mk D] W:=(Marks.nil w.heap.size W5).cons (fun D' _ h=>hFW.heap h (fun e=>by simp only [Bl.one] at e;subst e;exact hU5.nodef h)) (by have:=B1.size;omega) hDW hD
  have F0:Fr (Bl.one ub) w W:=((Fr.of_below B1).trans f2).trans ((f5.mono (fun _ h=>h.elim)).trans hFW)
  have tW:=hFW.heap t5 (oN (by omega))
  have bW:=hFW.heap b5 (oN (by omega))
  have hfW:aD W β sv lv fs':=hf5.on (hFW.on (fun k hk=>⟨hf5.lies k hk,fun h=>by simp only [Bl.one] at h;subst h;exact hU5.apart hf5 hk⟩))
  have zW:W5.heap.size≤W.heap.size:=hFW.size
  have qW:aI W (New W2 W3) ea (g.ents.flatMap Ent.cells):=(q3.on o35).on (hFW.on (fun k hk=>⟨by have:=hk.2;omega,fun h=>by simp only [Bl.one] at h;have:=hk.1;omega⟩))
  have hec:=qq.2.2
  clear q1 q2 q3
  gi_wp2
  refine wpIn_loop (fun a wr=>∃ (j:Nat) (ds:List Deferred) (x12 x39 x40 x41 x42 x43 x44 x50:Value),j≤g.ents.length∧a = { tmps:=#[.agg (tA β root ca cn cc),.int .i64 p,.agg #[.string s.lo,.string s.hi],.slice (some ⟨ub,0,none⟩) 4096 4096,.pointer (some ⟨w.heap.size,0,none⟩),undef,.pointer (some ⟨w.heap.size+1,0,none⟩),.pointer (some ⟨w.heap.size+1+1,0,none⟩),.pointer (some ⟨W3.heap.size,0,none⟩),undef,undef,undef,x12,undef,.slice (some ⟨ub,0,none⟩) 4096 4096,.int .i64 p,.pointer (some ⟨ub,p,none⟩),.bool false,.slice (some ⟨ub,0,none⟩) 4096 4096,.int .i64 p,.pointer (some ⟨ub,p,none⟩),.agg (tA β root ca cn cc),.int .i64 p,.agg #[.string s.lo,.string s.hi],.agg #[.int .i64 g.kind,.int .i64 g.ver,.int .i64 g.root,.int .i64 g.next,.slice ka g.keys.length kc,.slice ia g.kids.length ic,.slice ea g.ents.length ec,.string g.data],.agg #[.int .i64 g.kind,.int .i64 g.ver,.int .i64 g.root,.int .i64 g.next,.slice ka g.keys.length kc,.slice ia g.kids.length ic,.slice ea g.ents.length ec,.string g.data],.agg #[.string s.lo,.string s.hi],.func (.func 140) #[] #[.pointer (some ⟨W4.heap.size+1,0,none⟩),.pointer (some ⟨W4.heap.size,0,none⟩)],undef,undef,undef,undef,undef,undef,undef,.pointer (some ⟨W3.heap.size,6,none⟩),.slice ea g.ents.length ec,.int .i64 g.ents.length,.int .i64 j,x39,x40,x41,x42,x43,x44,undef,undef,undef,undef,undef,x50],defers:=ds } ∧
    (∃ um,um.length=4096∧aK wr ub um)∧p0 ∉ (es.take j).flatMap En.pages∧Fr (Bl.one ub) W wr∧Marks w.heap.size ds wr) (fun a _=>g.ents.length-(intOf (a.tmps.getD 38 undef)).toNat) ?_ ?_
  ·exact⟨0,_,undef,undef,undef,undef,undef,undef,undef,undef,Nat.zero_le _,rfl,⟨_,by simpa using HU.out,hUp⟩,by simp,Fr.refl _ _,hm⟩
  ·rintro a wr ⟨j,ds,x12,x39,x40,x41,x42,x43,x44,x50,hj,rfl,⟨um0,hul,hUr⟩,hnj,hFr,hMr⟩
   have tR:=hFr.heap tW (oN (by omega))
   have bR:=hFr.heap bW (oN (by omega))
   have hfR:aD wr β sv lv fs':=hfW.on (hFr.on (fun k hk=>⟨hfW.lies k hk,fun h=>by simp only [Bl.one] at h;subst h;exact hUp.apart hfW hk⟩))
   have zR:W.heap.size≤wr.heap.size:=hFr.size
   have qR:=qW.on (hFr.on (fun k hk=>⟨by have:=hk.2;omega,fun h=>by simp only [Bl.one] at h;have:=hk.1;omega⟩))
   by_cases hlt:j<g.ents.length
   ·have hje:j<es.length:=by rw [← HL.out];exact hlt
    obtain⟨E,hE⟩:=nM (g.ents[j])
    obtain⟨X,hX⟩:=nM (es[j])
    have hEX:E=X.e:=by rw [← hE,← hX];simp only [HE.out];simp
    have hXok:X.ok fs:=hok X (hX▸List.getElem_mem hje)
    obtain⟨eb,eo,hea,hebS,r0,r1,r2,r3⟩:=qR.ent hlt
    rw [hE] at r0 r1 r2 r3
    subst hea
    obtain⟨d0,d1,d2⟩:=dR tR
    have d3:wr.cell? ⟨w.heap.size+1+1,0,none⟩=some (.slice (some ⟨ub,0,none⟩) 4096 4096):=by simp [World.cell?,bR]
    obtain⟨Wa,hWa⟩:=nM (wr.alloc (.cells #[.string E.key,.string E.val,.int .i64 E.size,.int .i64 E.over] 108))
    have xa:Wa.heap[wr.heap.size]?=some (.cells #[.string E.key,.string E.val,.int .i64 E.size,.int .i64 E.over] 108):=hWa▸aA wr _
    obtain⟨g0,g1,g2,g3⟩:=gH xa
    have fa:Fr Bl.none wr Wa:=hWa▸(Fr.refl _ wr).alloc _
    have tA:=fa.heap tR (fun h=>h)
    obtain⟨k0,k1,k2⟩:=dR tA
    have hCc:=uF root β ca cn cc E.key E.val E.size E.over Wa
    have HEX:Hid (E=X.e):=hEX
    have HXX:Hid (es[j]=X):=hX
    clear hEX hE hX
    gi_wp2_with (refine⟨trivial,rfl,?_⟩;gi_at_call 79;refine(callsIn_wide.2 hCc).mono ?_;clear hCc;rintro e Wb ⟨rfl,v1,v2,hbb⟩)
    have fb:Fr Bl.none wr Wb:=fa.trans (Fr.of_below hbb)
    have za:wr.heap.size<Wa.heap.size:=(gL xa)
    have hfB:aD Wb β sv lv fs':=hfR.on (fb.on (fun k hk=>⟨hfR.lies k hk,fun h=>h⟩))
    have hUB:=hUr.fr fb (fun h=>h)
    have bB:=fb.heap bR (fun h=>h)
    let Rc:Bl:=fun k=>k=Wa.heap.size∨k=Wa.heap.size+1∨fpF β sv lv k
    have zb:Wa.heap.size+1<Wb.heap.size:=(gL v2)
    have hRc:∀ k,Rc k→¬ Bl.one ub k∧k<Wb.heap.size:=by
     have lu:=hUr.lt
     rintro k (rfl|rfl|hk)
     ·exact⟨oN (by omega),by omega⟩
     ·exact⟨oN (by omega),by omega⟩
     ·exact⟨fun h=>by simp only [Bl.one] at h;subst h;exact hUB.apart hfB hk,hfB.lies k hk⟩
    have hMb:Marks w.heap.size ds Wb:=hMr.on (fun D' _ h=>fb.heap h (fun h=>h))
    by_cases hpx:p0∈X.pages
    ·-- the value's page is none
     obtain⟨size,over,hsz,hov,hle,hch⟩:=hXok
     obtain⟨h0,hch⟩:0<over∧dJ fs over size X.ch:=by
      rcases hch with⟨_,h⟩|h
      ·rw [En.pages,h] at hpx;simp at hpx
      ·exact h
     rw [HEX.out,hsz,hov] at v2
     obtain⟨xs0,g0,post0,hxs0,hno0⟩:=qAx hpx
     have hch0:=hch
     rw [hxs0] at hch
     have hit:=Xv (Wa.heap.size+1) Wa.heap.size β sv lv fs fs' p0 hSp root ca cn cc X.e.key X.e.val size over xs0 post0 g0 Rc Wb v2 v1 hfB (.inr (.inl rfl)) (.inl rfl) (fun k hk=>.inr (.inr hk)) (by omega) h0 hch hno0
     refine Uj (P:=Tryz.prog) (Has:=Hx) (Rd:=Rc) rfl (enters_of Tryz.func111 (by kernel_rfl) rfl) hit (fun x args S W hH=>by obtain⟨v,rfl,_⟩:=hH;rfl) (fun _ Y W'=>(∃ um,um.length=4096∧aK W' ub um)∧Y=Bl.one ub) ?_ ?_ (Bl.one ub) ⟨⟨_,hul,hUB⟩,rfl⟩ hRc ?_ ?_
     ·rintro pre Y W W' ⟨⟨um,h1,h2⟩,rfl⟩ ho
      exact⟨⟨um,h1,h2.on ho rfl⟩,rfl⟩
     ·rintro pre Y W ⟨⟨um,h1,h2⟩,rfl⟩ k hk
      simp only [Bl.one] at hk;subst hk;exact h2.lt
     ·rintro l pre x rest args S Y' Wc hx ⟨⟨um,hlm,hUp2⟩,rfl⟩ hH hS hFW2 hGW2 hl0 hl1 hl2 ⟨rr,hrr⟩
      obtain⟨v,rfl,_⟩:=hH
      obtain⟨q,gq⟩:=x
      have hq:q<4096:=by
       have hm2:(q,gq)∈X.ch:=by rw [hxs0,hx];simp
       obtain⟨gg,hgg,_⟩:=kA (fs:=fs) (x:=X) ⟨size,over,hsz,hov,hle,.inr ⟨h0,hch0⟩⟩ q (by simp only [En.pages,List.mem_map];exact⟨_,hm2,rfl⟩)
       exact jY hgg.1 (hSp.len▸hf.small)
      have hqi:(q:Int)<4096:=by omega
      have bC:=hFW2.heap bB (oN (by omega))
      unfold gI
      gi_wp2
      refine⟨Fr.refl _ _,?_⟩
      intro W₂ hT
      have zc:Wb.heap.size≤Wc.heap.size:=hFW2.size
      have bX:=hT.heap bC (by omega)
      have hUX:aK W₂ ub um:=hUp2.fr hT.fr (fun h=>by simp only [Bl.one] at h;have:=hUr.lt;omega)
      have c0:W₂.cell? ⟨w.heap.size+1+1,0,none⟩=some (.slice (some ⟨ub,0,none⟩) 4096 4096):=by simp [World.cell?,bX]
      have c1:=hUX.cell hq hlm
      have c2:=hUX.free
      gi_wp2
      exact⟨Bl.one ub,⟨⟨um.set q true,by simpa using hlm,hUX.set q⟩,rfl⟩,(Fr.refl (Bl.one ub) W₂).setCell (p:=⟨ub,q,none⟩) (.inl rfl) _,aH.refl _ _⟩
     ·rintro D2 Y' Wd hD2 hYD2 ⟨_,rfl⟩ hFd hGd hDd
      have hMd:Marks w.heap.size (mk D2 :: ds) Wd:=hMb.cons (fun D' _ h=>hFd.heap h (fun e=>by simp only [Bl.one] at e;subst e;exact hUB.nodef h)) (by have:=hUr.lt;have:=B1.size;have:=F0.size;omega) hDd hD2
      refine iQ (B:=w.heap.size) (u:=.panicking (nW 10)) (by simp) hMd (fun w' ht'=>?_)
      exact⟨rfl,(F0.trans (hFr.trans ((fb.mono (fun _ h=>h.elim)).trans hFd))).took ht' (jU _)⟩
    ·have hXok:=hSp.ok hXok hpx
     obtain⟨size,over,hsz,hov,hle,hch⟩:=hXok
     rw [HEX.out,hsz,hov] at v2
     have hit:=uE (Wa.heap.size+1) Wa.heap.size β sv lv fs' root ca cn cc X.e.key X.e.val size over X.ch Rc Wb v2 v1 hfB hl (.inr (.inl rfl)) (.inl rfl) (fun k hk=>.inr (.inr hk)) (by omega) hch
     refine eM (P:=Tryz.prog) (Has:=Hx) (Rd:=Rc) rfl (enters_of Tryz.func111 (by kernel_rfl) rfl) hit (fun x args S W hH=>by obtain⟨v,rfl,_⟩:=hH;rfl) (fun _ Y W'=>(∃ um,um.length=4096∧aK W' ub um)∧Y=Bl.one ub) (fun _ _ _ _=>False) ?_ (fun _ _ _ _ _ h=>h.elim) ?_ (fun _ _ _ _ h=>h.elim) (Bl.one ub) ⟨⟨_,hul,hUB⟩,rfl⟩ hRc ?_ ?_ (fun _ _ _ _ _ _ _ _ _ h=>h.elim)
     ·rintro pre Y W W' ⟨⟨um,h1,h2⟩,rfl⟩ ho
      exact⟨⟨um,h1,h2.on ho rfl⟩,rfl⟩
     ·rintro pre Y W ⟨⟨um,h1,h2⟩,rfl⟩ k hk
      simp only [Bl.one] at hk;subst hk;exact h2.lt
     ·rintro l pre x rest args S Y' Wc hx ⟨⟨um,hlm,hUp2⟩,rfl⟩ hH hS hFW2 hGW2 hl0 hl1 hl2 ⟨rr,hrr⟩
      obtain⟨v,rfl,_⟩:=hH
      obtain⟨q,gq⟩:=x
      have hq:q<4096:=by
       have hm2:(q,gq)∈X.ch:=by rw [hx];simp
       obtain⟨gg,hgg,_⟩:=kA (fs:=fs') (x:=X) ⟨size,over,hsz,hov,hle,hch⟩ q (by simp only [En.pages,List.mem_map];exact⟨_,hm2,rfl⟩)
       exact jY hgg.1 hf.small
      have hqi:(q:Int)<4096:=by omega
      have bC:=hFW2.heap bB (oN (by omega))
      unfold gI
      gi_wp2
      refine⟨Fr.refl _ _,?_⟩
      intro W₂ hT
      have zc:Wb.heap.size≤Wc.heap.size:=hFW2.size
      have bX:=hT.heap bC (by omega)
      have hUX:aK W₂ ub um:=hUp2.fr hT.fr (fun h=>by simp only [Bl.one] at h;have:=hUr.lt;omega)
      have c0:W₂.cell? ⟨w.heap.size+1+1,0,none⟩=some (.slice (some ⟨ub,0,none⟩) 4096 4096):=by simp [World.cell?,bX]
      have c1:=hUX.cell hq hlm
      have c2:=hUX.free
      gi_wp2
      exact⟨Bl.one ub,⟨⟨um.set q true,by simpa using hlm,hUX.set q⟩,rfl⟩,(Fr.refl (Bl.one ub) W₂).setCell (p:=⟨ub,q,none⟩) (.inl rfl) _,aH.refl _ _⟩
     ·rintro D2 Y' Wd hD2 hYD2 ⟨⟨um,hlm,hUd⟩,rfl⟩ hFd hGd hDd
      have hMd:Marks w.heap.size (mk D2 :: ds) Wd:=hMb.cons (fun D' _ h=>hFd.heap h (fun e=>by simp only [Bl.one] at e;subst e;exact hUB.nodef h)) (by have:=hUr.lt;have:=B1.size;have:=F0.size;omega) hDd hD2
      have Fd:Fr (Bl.one ub) W Wd:=hFr.trans ((fb.mono (fun _ h=>h.elim)).trans hFd)
      have hj1:((j+1:Nat):Int)=(j:Int)+1:=by omega
      have HN:Hid (p0 ∉ (es.take (j+1)).flatMap En.pages):=by
       show p0 ∉ _
       rw [List.take_succ_eq_append_getElem hje,List.flatMap_append,HXX.out,List.mem_append]
       rintro(h|h)
       ·exact hnj h
       ·simp only [List.flatMap_cons,List.flatMap_nil,List.append_nil] at h;exact hpx h
      gi_wp2
      refine⟨⟨j+1,_,_,_,_,_,_,_,_,_,by omega,by rw [hj1];rfl,⟨um,hlm,hUd⟩,HN.out,Fd,hMd⟩,?_⟩
      simp [intOf]
      omega
   ·obtain rfl:j=g.ents.length:=by omega
    rw [HL.out,List.take_length] at hnj
    exact absurd hin0 hnj
theorem zK (β:Nat) (sv lv:Value) (fs fs':Fs) (p0:Nat) (hSp:fZ fs fs' p0) (root:Int) (ca:Option Addr) (cn cc:Nat) (ub:Nat) (h:Nat)
  (ih:∀ (t:T) (s:Sp) (u:List Bool) (w:World),aT fs h t s→Shut u h t→u.length=4096→aD w β sv lv fs'→aK w ub u→p0∈T.pages h t→¬ on u p0 →
   Calls Tryz.prog 86 #[.agg (tA β root ca cn cc),.int .i64 t.place,.agg #[.string s.lo,.string s.hi],.slice (some ⟨ub,0,none⟩) 4096 4096] w fun e w' =>
    e=.panicked (nW 10)∧Fr (Bl.one ub) w w')
  (p:Nat) (ks:List ByteArray) (kids:List T) (s:Sp) (u:List Bool) (w:World) (ht:aT fs (h+1) (.branch p ks kids) s) (hs:Shut u (h+1) (.branch p ks kids)) (hu:u.length=4096) (hf:aD w β sv lv fs') (hU:aK w ub u) (hnot:¬ on u p) (hpp:p≠p0) (hin0:p0∈kids.flatMap (T.pages h)) (hn0:¬ on u p0) :
  Calls Tryz.prog 86 #[.agg (tA β root ca cn cc),.int .i64 p,.agg #[.string s.lo,.string s.hi],.slice (some ⟨ub,0,none⟩) 4096 4096] w fun e w' =>
    e=.panicked (nW 10)∧Fr (Bl.one ub) w w':=by
 have hl:=hSp.alive
 have ht0:=ht
 obtain⟨g,hg,hk2,hks,hkd,hlen,⟨h0,c1,c2⟩,hall⟩:=ht
 have hg:=hSp.has hg hpp
 have hp:p<4096:=jY hg.1 hf.small
 have hpi:(p:Int)<4096:=by omega
 obtain⟨W1,hW1⟩:=nM (((w.alloc (.cells (tA β root ca cn cc) 95)).alloc (.cells #[.string s.lo,.string s.hi] 135)).alloc (.cells #[.slice (some ⟨ub,0,none⟩) 4096 4096] 121))
 have B1:Below w.heap.size w W1:=hW1▸((bA _ _).alloc (by simp) _).alloc (by simp;omega) _
 have t1:W1.heap[w.heap.size]?=some (.cells (tA β root ca cn cc) 95):=hW1▸aB _ (aB _ (aA w _))
 have s1:W1.heap[w.heap.size+1]?=some (.cells #[.string s.lo,.string s.hi] 135):=by
  rw [← hW1];refine aB _ ?_;have:=aA (w.alloc (.cells (tA β root ca cn cc) 95)) (.cells #[.string s.lo,.string s.hi] 135);simpa using this
 have b1:W1.heap[w.heap.size+1+1]?=some (.cells #[.slice (some ⟨ub,0,none⟩) 4096 4096] 121):=by
  rw [← hW1];have:=aA ((w.alloc (.cells (tA β root ca cn cc) 95)).alloc (.cells #[.string s.lo,.string s.hi] 135)) (.cells #[.slice (some ⟨ub,0,none⟩) 4096 4096] 121);simpa using this
 have z1:W1.heap.size=w.heap.size+3:=by rw [← hW1];simp
 have hU1:aK W1 ub u:=hU.on (vV B1 (Y:=Bl.one ub) (fun k hk=>by simp only [Bl.one] at hk;subst hk;exact hU.lt)) rfl
 have hcu:=hU1.cell hp hu
 have hval:u[p]'(by omega)=false:=by
  cases hv:u[p]'(by omega) with
  | false=>rfl
  | true=>exact absurd (List.getElem?_eq_some_iff.2 ⟨by omega,hv⟩) hnot
 rw [hval] at hcu
 have hfz:=hU1.free
 obtain⟨W2,hW2⟩:=nM (W1.setCell ⟨ub,p,none⟩ (.bool true))
 have lub:=hU.lt
 have f2:Fr (Bl.one ub) W1 W2:=hW2▸(Fr.refl (Bl.one ub) W1).setCell (p:=⟨ub,p,none⟩) (.inl rfl) _
 have hU2:aK W2 ub (u.set p true):=hW2▸hU1.set p
 have t2:=f2.heap t1 (oN (by omega))
 have s2:=f2.heap s1 (oN (by omega))
 have b2:=f2.heap b1 (oN (by omega))
 obtain⟨tc0,tc1,tc2⟩:=dR t2
 obtain⟨sc0,sc1⟩:=bQ s2
 have bc0:W2.cell? ⟨w.heap.size+1+1,0,none⟩=some (.slice (some ⟨ub,0,none⟩) 4096 4096):=by simp [World.cell?,b2]
 have bc1:W1.cell? ⟨w.heap.size+1+1,0,none⟩=some (.slice (some ⟨ub,0,none⟩) 4096 4096):=by simp [World.cell?,b1]
 have hf1:aD W1 β sv lv fs':=hf.on (vV B1 hf.lies)
 have hf2:aD W2 β sv lv fs':=hf1.on (f2.on (fun k hk=>⟨hf1.lies k hk,fun h=>by simp only [Bl.one] at h;subst h;exact hU1.apart hf1 hk⟩))
 obtain⟨sm1,sm2,sm3⟩:=fS hg
 have hNd:=nF β sv lv fs' root ca cn cc p s g W2 hf2 hl hg (by simp [hk2]) (by rw [hks];exact h0) (by simp only [hks];exact c1) (by simp only [hks];exact c2) sm1 sm3
 have HK2:Hid (g.kind=2):=hk2
 have HKS:Hid (g.keys=ks):=hks
 have HKD:Hid (g.kids=kids.map (fun t=>(t.place:Int))):=hkd
 have HLN:Hid (kids.length=ks.length+1):=hlen
 have HU:Hid (u.length=4096):=hu
 clear hk2 hks hkd hlen hu hval z1
 refine Jq Tryz.func86 rfl ?_
 simp only [Tryz.ntmps86,jA,jB,jN,Nat.reduceAdd,Nat.reduceSub,jR,jO,jP,jT,jE,jF]
 refine lO (fun K0 hK0=>Aj (n:=0) ?_)
 gi_wp2
 refine lO (fun K1 hK1=>Aj (n:=0) ?_)
 gi_wp2
 refine lO (fun K2 hK2=>Aj (n:=0) ?_)
 gi_wp2
 refine lO (fun K3 hK3=>Aj (n:=0) ?_)
 gi_wp2_with (refine⟨trivial,rfl,?_⟩;gi_at_call 117;refine(callsIn_wide.2 hNd).mono ?_;clear hNd;rintro e W3 ⟨vv,rfl,⟨ka,ia,ea,kc,ic,ec,rfl,q1,q2,q3,qq⟩,hb3⟩;obtain⟨W4,hW4⟩:=nM (W3.alloc (pgO g ka ia ea kc ic ec));have x4:W4.heap[W3.heap.size]?=some (pgO g ka ia ea kc ic ec):=hW4▸aA W3 _;obtain⟨m0,m1,m2,m3,m4,m5,m6,m7⟩:=bF x4;have f4:Fr Bl.none W2 W4:=(Fr.of_below hb3).trans (hW4▸(Fr.refl _ W3).alloc _);have s4:=f4.heap s2 (fun h=>h);obtain⟨sd0,sd1⟩:=bQ s4;have hKc:=kI g s ka ia ea kc ic ec W4)
 refine lO (fun K4 hK4=>?_)
 refine lO (fun K5 hK5=>Aj (n:=0) ?_)
 gi_wp2_with (refine⟨trivial,rfl,?_⟩;gi_at_call 118;refine(callsIn_wide.2 hKc).mono ?_;clear hKc;rintro e W5 ⟨rfl,y1,y2,hb5⟩)
 have f5:Fr Bl.none W2 W5:=f4.trans (Fr.of_below hb5)
 have z4:W3.heap.size<W4.heap.size:=(gL x4)
 have z3:=hb3.size
 have hU5:aK W5 ub (u.set p true):=hU2.fr f5 (fun h=>h)
 have hf5:aD W5 β sv lv fs':=hf2.on (f5.on (fun k hk=>⟨hf2.lies k hk,fun h=>h⟩))
 have z5:W4.heap.size+1<W5.heap.size:=(gL y2)
 have zW2:w.heap.size+1+1<W2.heap.size:=(gL b2)
 have o35:On (New W2 W3) W3 W5:=(hW4▸(On.refl _ W3).alloc (fun k hk=>hk.2) _:On (New W2 W3) W3 W4).trans (vV hb5 (fun k hk=>by have:=hk.2;omega))
 let Rd:Bl:=fun k=>k=W4.heap.size∨k=W4.heap.size+1∨New W2 W3 k
 have hseq:=Qm (nW 10) (W4.heap.size+1) W4.heap.size s g.kind g.ver g.root g.next ka ia ea kc ic g.ents.length ec g.data g.keys g.kids Rd W5 y2 y1 ((q1.on o35).mono (fun k hk=>.inr (.inr hk))) ((q2.on o35).mono (fun k hk=>.inr (.inr hk))) (.inr (.inl rfl)) (.inl rfl) sm1 sm2 qq.1 qq.2.1
 have hxs:parts s g.keys g.kids=(parts s ks kids).map (fun x=>((x.1.place:Int),x.2)):=by rw [HKS.out,HKD.out,lP]
 let I:List (Int×Sp)→Bl→World→Prop:=fun pre Y W=>aK W ub (marks (u.set p true) ((kids.take pre.length).flatMap (T.pages h)))∧Y=Bl.one ub∧p0 ∉ (kids.take pre.length).flatMap (T.pages h)
 have t5:=f5.heap t2 (fun h=>h)
 have b5:=f5.heap b2 (fun h=>h)
 have x5:=(hb5.block _ z4).trans x4
 refine Ul ?_
 refine Ui (P:=Tryz.prog) (Has:=kL) (Rd:=Rd) Tryz.func86 rfl (enters_of Tryz.func140 (by kernel_rfl) rfl) hseq (fun x args S W hH=>by rw [hH];rfl) I (fun Y W=>Y=Bl.one ub∧ub<W.heap.size) ?_ ?_ ?_ ?_ (fun h=>h.elim) (Bl.one ub) ⟨by simpa [oP] using hU5,rfl,by simp⟩ ?_ ?_ ?_ ?_
 ·rintro pre Y W W' ⟨h1,rfl,h2⟩ ho
  exact⟨h1.on ho rfl,rfl,h2⟩
 ·rintro Y W W' ⟨rfl,h1⟩ ho
  exact⟨rfl,jY h1 ho.size⟩
 ·rintro pre Y W ⟨h1,rfl,_⟩ k hk
  simp only [Bl.one] at hk;subst hk;exact h1.lt
 ·rintro Y W ⟨rfl,h1⟩ k hk
  simp only [Bl.one] at hk;subst hk;exact h1
 ·rintro k (rfl|rfl|hk)
  ·exact⟨oN (by omega),by omega⟩
  ·exact⟨oN (by omega),by omega⟩
  ·exact⟨fun h=>by simp only [Bl.one] at h;have:=hk.1;omega,by have:=hk.2;omega⟩
 ·-- a round
  rintro l pre x rest args S Y' W hx ⟨hUp,rfl,hnp⟩ hH hS hFW hGW hl0 hl1 hl2 ⟨r,hr⟩
  have hjl:pre.length<kids.length:=by
   have:=congrArg List.length hx
   rw [hxs] at this
   simp [dB] at this
   omega
  obtain⟨kid,hkid⟩:=nM (kids[pre.length]'hjl)
  obtain⟨sp,hsp⟩:=nM ((⟨iV s ks pre.length,iH s ks pre.length⟩:Sp))
  have hpa:=fK s ks kids pre.length hjl
  rw [hkid,hsp] at hpa
  have hxe:x=((kid.place:Int),sp):=by
   have h1:(parts s g.keys g.kids)[pre.length]?=some x:=by rw [hx];simp
   rw [hxs,List.getElem?_map,hpa] at h1
   simpa using h1.symm
  have hst:aT fs h kid sp:=hall _ (List.mem_of_getElem? hpa)
  have hkm:kid∈kids:=hkid▸List.getElem_mem hjl
  subst hxe
  have hH':args=#[.int .i64 kid.place,.agg #[.string sp.lo,.string sp.hi]]:=hH
  subst hH'
  have zW:W5.heap.size≤W.heap.size:=hFW.size
  obtain⟨um,hum⟩:=nM (marks (u.set p true) ((kids.take pre.length).flatMap (T.pages h)))
  rw [hum] at hUp
  have hlm:um.length=4096:=by rw [← hum,eL];simpa using HU.out
  have hsh:Shut um h kid:=by
   rw [← hum]
   exact Shut.afters (fs:=fs) (fun k hk=>by obtain⟨s',hs'⟩:=iZ (s:=s) (ks:=ks) (List.mem_of_mem_take hk);exact⟨s',hall _ hs'⟩) hst (by simp [HU.out];exact hSp.len▸hf.small) (hs.down ht0 hkm)
  have tW:=hFW.heap t5 (oN (by omega))
  have bW:=hFW.heap b5 (oN (by omega))
  have hfW:aD W β sv lv fs':=hf5.on (hFW.on (fun k hk=>⟨hf5.lies k hk,fun h=>by simp only [Bl.one] at h;subst h;exact hU5.apart hf5 hk⟩))
  have HM:Hid (marks um (T.pages h kid)=marks (u.set p true) ((kids.take (pre.length+1)).flatMap (T.pages h))):=by
   show _=_
   rw [← hum,← gR,List.take_succ_eq_append_getElem hjl,List.flatMap_append,hkid]
   simp
  have hnm:¬ on um p0:=fun hon=>by
   rw [← hum] at hon
   rcases qX.1 hon with h'|⟨h',_⟩
   ·exact hn0 (by unfold on at h' ⊢;rwa [List.getElem?_set_ne hpp] at h')
   ·exact hnp h'
  have HNP:Hid (p0 ∉ T.pages h kid→p0 ∉ (kids.take (pre.length+1)).flatMap (T.pages h)):=fun hk0=>by
   rw [List.take_succ_eq_append_getElem hjl,List.flatMap_append,hkid,List.mem_append]
   rintro(h'|h')
   ·exact hnp h'
   ·simp only [List.flatMap_cons,List.flatMap_nil,List.append_nil] at h';exact hk0 h'
  have ihk:=fun W' hf' hU' hin=>ih kid sp um W' hst hsh hlm hf' hU' hin hnm
  have imk:=fun W' hf' hU' hin=>Lm β sv lv fs' hl root ca cn cc ub h kid sp um W' (hSp.stands hst hin) hsh hlm hf' hU'
  clear hum hlm hkid hsp hpa hxs hx hsh
  unfold Jt
  gi_wp2
  refine⟨(Fr.refl _ W).alloc _,?_⟩
  intro W₂ hT
  have aW:Fr Bl.none W (W.alloc (.cells #[.string sp.lo,.string sp.hi] 135)):=(Fr.refl _ W).alloc _
  have x2:=hT.heap (aA W (.cells #[.string sp.lo,.string sp.hi] 135)) (by omega)
  have tX:=hT.heap (aW.heap tW (fun h=>h)) (by omega)
  have bX:=hT.heap (aW.heap bW (fun h=>h)) (by omega)
  have fX:Fr (Bl.one l) W W₂:=(aW.mono (fun _ h=>h.elim)).trans hT.fr
  have hUX:aK W₂ ub um:=hUp.fr fX (oN (by omega))
  have hfX:aD W₂ β sv lv fs':=hfW.on (fX.on (fun k hk=>⟨hfW.lies k hk,fun h=>by simp only [Bl.one] at h;have:=hf5.lies k hk;omega⟩))
  obtain⟨d0,d1,d2⟩:=dR tX
  obtain⟨e0,e1⟩:=bQ x2
  have c0:W₂.cell? ⟨w.heap.size+1+1,0,none⟩=some (.slice (some ⟨ub,0,none⟩) 4096 4096):=by simp [World.cell?,bX]
  by_cases hk0:p0∈T.pages h kid
  ·have hC:=ihk W₂ hfX hUX hk0
   clear ihk imk
   gi_wp2_with (refine⟨trivial,rfl,?_⟩;gi_at_call 86;refine(CallsIn.inRound l (callsIn_wide.2 hC)).mono ?_;rintro e W₃ ⟨rfl,f3⟩)
   exact⟨rfl,rfl,Bl.one ub,⟨rfl,jY hUX.lt f3.size⟩,f3,aH.refl _ _⟩
  ·have hC:=imk W₂ hfX hUX hk0
   clear ihk imk
   gi_wp2_with (refine⟨trivial,rfl,?_⟩;gi_at_call 86;refine(CallsIn.inRound l (callsIn_wide.2 hC)).mono ?_;rintro e W₃ ⟨⟨v,rfl⟩,hU3,f3⟩)
   refine⟨Bl.one ub,⟨?_,rfl,?_⟩,f3,aH.refl _ _⟩
   ·rw [jK,List.length_singleton,← HM.out]
    exact hU3
   ·rw [jK,List.length_singleton]
    exact HNP.out hk0
 ·rintro _ D Y' W hD hYD ⟨hUp,rfl,hnp⟩
  rw [hxs,List.length_map,dB,List.take_length] at hnp
  exact absurd hin0 hnp
 ·rintro D Y' W hD hYD ⟨rfl,_⟩ hFW hGW hDW
  have hm:Marks w.heap.size [mk D] W:=(Marks.nil w.heap.size W5).cons (fun D' _ h=>hFW.heap h (fun e=>by simp only [Bl.one] at e;subst e;exact hU5.nodef h)) (by have:=B1.size;omega) hDW hD
  have F0:Fr (Bl.one ub) w W:=((Fr.of_below B1).trans f2).trans ((f5.mono (fun _ h=>h.elim)).trans hFW)
  refine iQ (B:=w.heap.size) (u:=.panicking (nW 10)) (by simp) hm (fun w' ht'=>?_)
  exact⟨rfl,F0.took ht' (jU _)⟩
theorem qAd (β:Nat) (sv lv:Value) (fs fs':Fs) (p0:Nat) (hSp:fZ fs fs' p0) (root:Int) (ca:Option Addr) (cn cc:Nat) (ub:Nat):∀ (h:Nat) (t:T) (s:Sp) (u:List Bool) (w:World),aT fs h t s→Shut u h t→u.length=4096→aD w β sv lv fs'→aK w ub u→p0∈T.pages h t→¬ on u p0 →
  Calls Tryz.prog 86 #[.agg (tA β root ca cn cc),.int .i64 t.place,.agg #[.string s.lo,.string s.hi],.slice (some ⟨ub,0,none⟩) 4096 4096] w fun e w' =>
   e=.panicked (nW 10)∧Fr (Bl.one ub) w w':=by
 intro h
 induction h with
 | zero =>
  intro t s u w ht hs hu hf hU hin hn0
  cases t with
  | branch p ks kids=>exact ht.elim
  | leaf p es =>
   by_cases e:p=p0
   ·subst e;exact sU β sv lv fs fs' p hSp root ca cn cc ub s u w hu hf hU hn0
   ·have hnp:¬ on u p:=fun hon=>hn0 (hs (0,.leaf p es) (by simp [T.subs]) hon p0 hin)
    simp only [T.pages,List.mem_cons] at hin
    exact Eb β sv lv fs fs' p0 hSp root ca cn cc ub p es s u w ht hs hu hf hU hnp e (hin.resolve_left (fun h=>e h.symm))
 | succ h ih =>
  intro t s u w ht hs hu hf hU hin hn0
  cases t with
  | leaf p es=>exact ht.elim
  | branch p ks kids =>
   by_cases e:p=p0
   ·subst e;exact sU β sv lv fs fs' p hSp root ca cn cc ub s u w hu hf hU hn0
   ·have hnp:¬ on u p:=fun hon=>hn0 (hs (h+1,.branch p ks kids) (by simp [T.subs]) hon p0 hin)
    simp only [T.pages,List.mem_cons] at hin
    exact zK β sv lv fs fs' p0 hSp root ca cn cc ub h ih p ks kids s u w ht hs hu hf hU hnp e (hin.resolve_left (fun h=>e h.symm)) hn0
theorem Ol (β:Nat) (sv lv:Value) (fs fs':Fs) (p0:Nat) (hSp:fZ fs fs' p0) (root:Nat) (ca:Option Addr) (cn cc:Nat) (ub:Nat) (o:Option (Nat×T)) (u:List Bool) (w:World) (ho:aY fs root o) (hs:sZ u o) (hu:u.length=4096) (hf:aD w β sv lv fs') (hU:aK w ub u) (hin:p0∈bH o) (hn0:¬ on u p0) :
  Calls Tryz.prog 63 #[.agg (tA β root ca cn cc),.slice (some ⟨ub,0,none⟩) 4096 4096] w fun e w' =>
   e=.panicked (nW 10)∧Fr (Bl.one ub) w w':=by
 obtain⟨W1,hW1⟩:=nM (w.alloc (.cells (tA β root ca cn cc) 95))
 have B1:Below w.heap.size w W1:=hW1▸(bA _ _)
 have t1:W1.heap[w.heap.size]?=some (.cells (tA β root ca cn cc) 95):=hW1▸aA w _
 obtain⟨c0,c1,c2⟩:=dR t1
 have hf1:=hf.on (vV B1 hf.lies)
 have hU1:aK W1 ub u:=hU.on (vV B1 (Y:=Bl.one ub) (fun k hk=>by simp only [Bl.one] at hk;subst hk;exact hU.lt)) rfl
 cases o with
 | none=>simp [bH] at hin
 | some x =>
  obtain⟨h,t⟩:=x
  obtain⟨hr,hp,hst⟩:=ho
  have hM:=qAd β sv lv fs fs' p0 hSp root ca cn cc ub h t ⟨⟨#[]⟩,⟨#[]⟩⟩ u W1 hst hs hu hf1 hU1 hin hn0
  rw [hp] at hM
  have hrb:((root:Int) != 0)=true:=by simp;omega
  clear hp
  go_enter Tryz.func63,Tryz.ntmps63
  go_wp2_with (go_at_call 86;refine hM.mono ?_;rintro e W2 ⟨rfl,f2⟩)
  exact⟨rfl,rfl,(Fr.of_below B1).trans f2⟩
open Go.MuLone
abbrev qFi (z:Int):List PanicEntry:=[{ v:=.iface 151 (.agg #[.int .i64 z]),recovered:=true }]
theorem Jo (b:Nat) (z:Int) (w:World) (hb:w.heap[b]?=some (.cells #[.int .i64 0] 37)) :
  CallsD Tryz.prog 82 #[.pointer (some ⟨b,0,none⟩)] (.panicking (nW z)) w fun e u' w'=>e=.returned (.tuple #[])∧u'=.panicking (qFi z)∧w'=(w.alloc (.cells #[.int .i64 z] 151)).setCell ⟨b,0,none⟩ (.int .i64 z):=by
 obtain⟨W1,hW1⟩:=nM (w.alloc (.cells #[.int .i64 z] 151))
 have x1:W1.heap[w.heap.size]?=some (.cells #[.int .i64 z] 151):=hW1▸aA w _
 have xb:W1.heap[b]?=some (.cells #[.int .i64 0] 37):=hW1▸aB _ hb
 have c1:W1.cell? ⟨w.heap.size,0,none⟩=some (.int .i64 z):=by simp [World.cell?,x1]
 have cb:W1.cell? ⟨b,0,none⟩=some (.int .i64 0):=by simp [World.cell?,xb]
 have fb:=aG xb
 have hta:∀ X,(Instr.typeAssert (.iface 151 (.agg #[.int .i64 z])) 20 151 true).run Tryz.prog X=.ok (.tuple #[.agg #[.int .i64 z],.bool true]) X:=fun X=>by kernel_rfl
 refine callsD_of_wpS Tryz.func82 rfl fun c₀ cs hu=>?_
 apply wpS_seq
 apply wpS_region
 simp [wpOpsS,go_sem,recoverD,hu,Tryz.ntmps82,Exit.thenS]
 refine wpS_of_wp ?_
 simp only [jR,jO,jP,jT,jE,jF,jV,jZ,jX]
 go_wp2
 rw [hW1]
 simp [bodyPostS,results,Tryz.results82]
theorem yZ (g:Nat) (first lb:Array Value) (eg:∀ args w,(callFunc g args).run Tryz.prog w=.ok (.enter g args) w) (z:Int) (w:World) (R:World→Prop)
  (h:Calls Tryz.prog g (first++lb) (w.alloc (.cells #[.int .i64 0] 37)) fun e w'=>e=.panicked (nW z)∧w'.heap[w.heap.size]?=some (.cells #[.int .i64 0] 37)∧R w') :
  Calls Tryz.prog 59 #[.func (.func g) first lb] w fun e w'=>e=.returned (.int .i64 z)∧∃ W,R W∧w'=(W.alloc (.cells #[.int .i64 z] 151)).setCell ⟨w.heap.size,0,none⟩ (.int .i64 z):=by
 have hmf:∀ (fn:Fn) (first cap:Array Value) (w:World),(Instr.makeFunc fn first cap).run Tryz.prog w=.ok (.func fn first cap) w:=fun _ _ _ _=>rfl
 go_enter_defers Tryz.func59,Tryz.ntmps59
 go_wp2_with (fail)
 refine h.mono ?_
 rintro e W ⟨rfl,hb,hR⟩
 refine leaves_cons (f:=82) (args:=#[.pointer (some ⟨w.heap.size,0,none⟩)]) (by simp) (by simp [go_sem]) ?_
 refine(Jo w.heap.size z W hb).mono ?_
 rintro e u' w'' ⟨rfl,rfl,rfl⟩
 have xb:(W.alloc (.cells #[.int .i64 z] 151)).heap[w.heap.size]?=some (.cells #[.int .i64 0] 37):=aB _ hb
 have hc:(W.alloc (.cells #[.int .i64 z] 151)).cell? ⟨w.heap.size,0,none⟩=some (.int .i64 0):=by simp [World.cell?,xb]
 have hs:((W.alloc (.cells #[.int .i64 z] 151)).setCell ⟨w.heap.size,0,none⟩ (.int .i64 z)).cell? ⟨w.heap.size,0,none⟩=some (.int .i64 z):=World.cell?_setCell_same _ _ _ hc
 simp only [Leaves,settle]
 refine⟨.int .i64 z,?_,rfl,W,hR,rfl⟩
 simp [results,Tryz.results59,go_sem,hs]
theorem Xl (d:Nat) (g:Nat) (first lb:Array Value) (eg:∀ args w,(callFunc g args).run Tryz.prog w=.ok (.enter g args) w) (z:Int) (w:World) (R:World→Prop) (cs:Array Value) (hd:w.heap[d]?=some (.cells cs 88)) (h0:cs[0]?=some (.int .i32 0))
  (h:Calls Tryz.prog g (first++lb) ((w.setCell ⟨d,0,none⟩ (.int .i32 1)).alloc (.cells #[.int .i64 0] 37)) fun e w'=>e=.panicked (nW z)∧w'.heap[w.heap.size]?=some (.cells #[.int .i64 0] 37)∧(∃ cs',w'.heap[d]?=some (.cells cs' 88)∧cs'[0]?=some (.int .i32 1))∧R w') :
  Calls Tryz.prog 35 #[.pointer (some ⟨d,0,none⟩),.func (.func g) first lb] w fun e w'=>e=.returned (.int .i64 z)∧∃ W,R W∧w'=((W.alloc (.cells #[.int .i64 z] 151)).setCell ⟨w.heap.size,0,none⟩ (.int .i64 z)).setCell ⟨d,0,none⟩ (.int .i32 0):=by
 have c0:w.cell? ⟨d,0,none⟩=some (.int .i32 0):=by simp [World.cell?,hd,h0]
 have f0:w.frozen? ⟨d,0,none⟩=false:=by simp [World.frozen?,hd]
 have hdlt:d<w.heap.size:=(gL hd)
 have hC:=yZ g first lb eg z (w.setCell ⟨d,0,none⟩ (.int .i32 1)) (fun w'=>(∃ cs',w'.heap[d]?=some (.cells cs' 88)∧cs'[0]?=some (.int .i32 1))∧R w') (by simpa using h)
 go_enter_defers Tryz.func35,Tryz.ntmps35
 go_wp2_with (first
  | (go_at_call 37;refine(lock_free yH ⟨d,0,none⟩ _ c0 f0).mono ?_;rintro e w' ⟨rfl,rfl⟩)
  | (go_at_call 59;refine hC.mono ?_;rintro e w' ⟨rfl,W,⟨⟨cs',hd',h1'⟩,hR⟩,rfl⟩))
 have hd2:(W.alloc (.cells #[.int .i64 z] 151)).heap[d]?=some (.cells cs' 88):=aB _ hd'
 refine leaves_cons (f:=38) (args:=#[.pointer (some ⟨d,0,none⟩)]) (by simp) (by simp [go_sem]) ?_
 refine(unlock_deferred yH ⟨d,0,none⟩ .returning _ ?_ ?_).mono ?_
 ·rw [World.cell?_setCell_other _ _ _ _ (by simp)]
  simp [World.cell?,hd2,h1']
 ·rw [World.frozen?_setCell]
  simp [World.frozen?,hd2]
 rintro e u' w'' ⟨rfl,rfl,rfl⟩
 exact⟨_,results_tmp rfl _ _ _,rfl,W,hR,rfl⟩
variable {ao o:Option (Nat×T)} {fs fs':Fs} {p0 v:Nat}
theorem Kn (β:Nat) (sv lv:Value) (fs fs':Fs) (p0:Nat) (hSp:fZ fs fs' p0) (root:Nat) (ca:Option Addr) (cn cc:Nat) (ub:Nat) (o:Option (Nat×T)) (u:List Bool) (w:World) (ho:aY fs root o) (hs:sZ u o) (hu:u.length=4096) (hf:aD w β sv lv fs') (hU:aK w ub u) (hin:p0∈bH o) (hn0:¬ on u p0)
  (b1 b2:Nat) (x1:w.heap[b1]?=some (.cells (tA β root ca cn cc) 95)) (x2:w.heap[b2]?=some (.cells #[.slice (some ⟨ub,0,none⟩) 4096 4096] 121)) :
  Calls Tryz.prog 87 #[.pointer (some ⟨b1,0,none⟩),.pointer (some ⟨b2,0,none⟩)] w fun e w'=>e=.panicked (nW 10)∧Fr (Bl.one ub) w w':=by
 have hC:=Ol β sv lv fs fs' p0 hSp root ca cn cc ub o u w ho hs hu hf hU hin hn0
 obtain⟨c0,c1,c2⟩:=dR x1
 have d0:w.cell? ⟨b2,0,none⟩=some (.slice (some ⟨ub,0,none⟩) 4096 4096):=by simp [World.cell?,x2]
 clear hf hU ho hs x1 x2
 go_enter Tryz.func87,Tryz.ntmps87
 go_wp2_with (go_at_call 63;(with_reducible refine jC hC ?_);rintro e w2 ⟨rfl,hF2⟩)
 exact⟨rfl,rfl,hF2⟩
theorem Oz (β:Nat) (sv lv:Value) (fs fs':Fs) (p0:Nat) (hSp:fZ fs fs' p0) (root:Nat) (ca:Option Addr) (cn cc:Nat) (ub:Nat) (o:Option (Nat×T)) (u:List Bool) (w:World) (ho:aY fs root o) (hs:sZ u o) (hu:u.length=4096) (hf:aD w β sv lv fs') (hU:aK w ub u) (hin:p0∈bH o) (hn0:¬ on u p0) (hub:ub<w.heap.size) :
  Calls Tryz.prog 64 #[.agg (tA β root ca cn cc),.slice (some ⟨ub,0,none⟩) 4096 4096] w fun e w'=>e=.returned (.bool false)∧Fr (Bl.one ub) w w':=by
 obtain⟨W1,hW1⟩:=nM ((w.alloc (.cells (tA β root ca cn cc) 95)).alloc (.cells #[.slice (some ⟨ub,0,none⟩) 4096 4096] 121))
 have B1:Below w.heap.size w W1:=hW1▸(bA _ _).alloc (by simp) _
 have x1:W1.heap[w.heap.size]?=some (.cells (tA β root ca cn cc) 95):=hW1▸aB _ (aA w _)
 have x2:W1.heap[w.heap.size+1]?=some (.cells #[.slice (some ⟨ub,0,none⟩) 4096 4096] 121):=by
  rw [← hW1];have:=aA (w.alloc (.cells (tA β root ca cn cc) 95)) (.cells #[.slice (some ⟨ub,0,none⟩) 4096 4096] 121);simpa using this
 have hs1:w.heap.size+1<W1.heap.size:=(gL x2)
 obtain⟨W2,hW2⟩:=nM (W1.alloc (.cells #[.int .i64 0] 37))
 have B2:Below w.heap.size w W2:=hW2▸B1.alloc B1.size _
 have e2:W2.heap[W1.heap.size]?=some (.cells #[.int .i64 0] 37):=hW2▸aA W1 _
 have h1:=Kn β sv lv fs fs' p0 hSp root ca cn cc ub o u W2 ho hs hu (hf.on (vV B2 hf.lies)) (hU.on (Y:=Bl.one ub) (vV B2 (oK (by omega))) rfl) hin hn0 w.heap.size (w.heap.size+1) (hW2▸aB _ x1) (hW2▸aB _ x2)
 have hC:=yZ 87 #[] #[.pointer (some ⟨w.heap.size,0,none⟩),.pointer (some ⟨w.heap.size+1,0,none⟩)] (fun _ _=>rfl) 10 W1 (fun w'=>Fr (Bl.one ub) W2 w') (by
  rw [hW2]
  exact h1.mono fun e w' ⟨he,hf'⟩=>⟨he,hf'.heap e2 (fun e=>by simp only [Bl.one] at e;have:=B1.size;omega),hf'⟩)
 have HE:Hid (W1.heap.size<W2.heap.size):=(gL e2)
 clear h1 hf hU ho hs e2 hW2
 go_enter Tryz.func64,Tryz.ntmps64
 go_wp2_with (go_at_call 59;(with_reducible refine jC hC ?_);rintro e w3 ⟨rfl,W3,hF3,hw3⟩)
 go_ret
 have hsz:=B1.size
 refine⟨rfl,?_⟩
 exact(((Fr.of_below B2).trans hF3).alloc _).setCell (p:=⟨W1.heap.size,0,none⟩) (.inr hsz) _
theorem Ta {p:Nat}:¬ on (List.replicate 4096 false) p:=fun h=>by
 unfold on at h
 rw [List.getElem?_replicate] at h
 split at h<;>simp at h
theorem fZ.metas {p0 q v r:Nat} (hSp:fZ fs fs' p0) (h2:2≤p0) (hq:q<2) (h:dO fs q v r):dO fs' q v r:=by
 unfold dO;rw [hSp.same q (by omega)];exact h
theorem Pl {r:Nat}  (h:aY fs r o) (h':aY fs r ao):bH o=bH ao:=by
 cases o with
 | none=>cases ao with
  | none=>rfl
  | some y=>obtain⟨a,_⟩:=h';have:r=0:=h;omega
 | some x=>cases ao with
  | none=>obtain⟨a,_⟩:=h;have:r=0:=h';omega
  | some y =>
   obtain⟨_,e1,s1⟩:=h
   obtain⟨_,e2,s2⟩:=h'
   obtain⟨a1,a2⟩:=tG s1 s2 (e1.trans e2.symm)
   obtain⟨x1,x2⟩:=x
   obtain⟨y1,y2⟩:=y
   simp only at a1 a2
   subst a1 a2
   rfl
theorem Zr {K:List ByteArray} {n:Nat}    (S:gK K n fs v o ao) (hSp:fZ fs fs' p0) (hp2:2≤p0) (hin:p0∈bH o) (hlate:fs'.late=[]) (h2:40≤n) (hw:fs'.well) (β:Nat) (sv lv:Value) (w:World) (hf:aD w β sv lv fs') :
  Calls Tryz.prog 16 #[.pointer (some ⟨β,0,none⟩)] w fun e w'=>e=.returned (.tuple #[.pointer none,.int .i64 10])∧Fr (fpF β sv lv) w w':=by
 have hln:fs'.safe.length=n:=hSp.len.trans S.len
 have hal:=Fs.well_alive hw
 obtain⟨v',hm1,hv'⟩:=S.meta1
 obtain⟨W1,hW1⟩:=nM (w.alloc (.cells (db0 0 β) 88))
 have B1:Below w.heap.size w W1:=hW1▸(bA _ _)
 have x1:W1.heap[w.heap.size]?=some (.cells (db0 0 β) 88):=hW1▸aA w _
 have z1:W1.heap.size=w.heap.size+1:=by rw [← hW1];simp
 obtain⟨W2,hW2⟩:=nM (W1.setCell ⟨w.heap.size,0,none⟩ (.int .i32 1))
 have x2:W2.heap[w.heap.size]?=some (.cells (db0 1 β) 88):=by rw [← hW2];have:=aF x1 0 (.int .i32 1);simpa using this
 have F2:Fr (Bl.one w.heap.size) W1 W2:=hW2▸(Fr.refl (Bl.one w.heap.size) W1).setCell (p:=⟨w.heap.size,0,none⟩) (.inl rfl) _
 have z2:W2.heap.size=w.heap.size+1:=by rw [← hW2];simp [z1]
 obtain⟨W3,hW3⟩:=nM (W2.alloc (.cells #[.int .i64 0] 37))
 have B3:Below W2.heap.size W2 W3:=hW3▸(bA _ _)
 have y3:W3.heap[w.heap.size+1]?=some (.cells #[.int .i64 0] 37):=by rw [← hW3,← z2];exact aA W2 _
 have x3:=(B3.block w.heap.size (by omega)).trans x2
 have z3:W3.heap.size=w.heap.size+2:=by rw [← hW3];simp [z2]
 have BB3:Below w.heap.size w W3:=(B1.trans (F2.below (by omega) (oK (by omega)))).trans (B3.mono (by omega))
 have hf3:aD W3 β sv lv fs':=hf.on (vV BB3 hf.lies)
 have hLd:=qA (v:=v) (o:=o) (rootOf ao) 0 (by omega) true false true hlate S.sure.root (by rw [hln];omega) hw w.heap.size β sv lv W3 x3 hf3 (fun lv1 X ub hX hU=>(Ol β sv lv1 fs fs' p0 hSp (rootOf o) none 0 0 ub o _ X S.sure.rooted (mI _ _) List.length_replicate hX hU hin Ta).mono fun e w' ⟨h1,h2⟩=>⟨.inr ⟨rfl,h1⟩,h2⟩) (fun _ h=>by cases h)
  (fun lv1 X hX=>(wV (hSp.metas hp2 (Nat.mod_lt _ (by decide)) S.meta0) ⟨v',hSp.metas hp2 (Nat.mod_lt _ (by decide)) hm1,hv'⟩ (by rw [hln];omega) β sv lv1 hal X hX).mono fun e w' ⟨m,m',he,hb,h1,h2,h3,h4⟩=>⟨m,m'.g,he,hb,h1,h2,rfl,fun _=>h3,fun h=>by cases h⟩)
 have hPg:=wP β sv lv fs' w hf
 have hn:¬ ((fs'.safe.length:Int)<40):=by omega
 have hFc:=Xl w.heap.size 36 #[.pointer (some ⟨w.heap.size,0,none⟩)] #[] (enters_of Tryz.func36 (by kernel_rfl) rfl) 10 W1 (fun W=>Fr (Bl.or (Bl.one w.heap.size) (fpF β sv lv)) W3 W) _ x1 rfl (by
  rw [hW2,hW3,z1]
  refine hLd.mono ?_
  rintro e w' (⟨_,rfl,hc,hF⟩|⟨hc,_⟩)
  ·refine⟨rfl,hF.heap y3 ?_,hc,hF⟩
   rintro(hk|hk)
   ·simp only [Bl.one] at hk;omega
   ·have:=hf.lies _ hk;omega
  ·cases hc)
 clear hLd
 go_enter Tryz.func16,Tryz.ntmps16
 go_wp2_with (first
  | (go_at_call 34;(with_reducible refine jC hPg ?_);rintro e w' ⟨rfl,hw'⟩;subst w')
  | (go_at_call 35;(with_reducible refine jC hFc ?_);rintro e X ⟨rfl,W,hF,hX⟩))
 go_ret2
 refine⟨rfl,?_⟩
 have:Fr (fpF β sv lv) w W:=(Fr.of_below BB3).grow hF (fun k hk=>by
  rcases hk with hk|hk
  ·exact .inr (by simp only [Bl.one] at hk;omega)
  ·exact .inl hk)
 exact((this.alloc _).setCell (p:=⟨w.heap.size+1,0,none⟩) (.inr (by show w.heap.size≤w.heap.size+1;omega)) _).setCell (p:=⟨w.heap.size,0,none⟩) (.inr (jU _)) _
theorem Zq {K:List ByteArray} {n:Nat}    (S:gK K n fs v o ao) (hSp:fZ fs fs' p0) (hp2:2≤p0) (hin:p0∈bH ao) (hno:p0 ∉ bH o) (hlate:fs'.late=[]) (h2:40≤n) (hw:fs'.well) (β:Nat) (sv lv:Value) (w:World) (hf:aD w β sv lv fs') :
  Calls Tryz.prog 16 #[.pointer (some ⟨β,0,none⟩)] w fun e w'=>∃ D:Db,e=.returned (.tuple #[.pointer (some ⟨D.d,0,none⟩),.int .i64 0])∧aO w' 0 D∧D.β=β∧D.sv=sv∧D.fs=(fs'.put (1-v % 2) (bM (v:Nat) (rootOf o:Nat)).encS).synced∧D.ver=v∧D.root=rootOf o∧D.aroot=rootOf o∧D.failed=false∧D.last=0∧D.ts=[]∧Fr (fpF β sv lv) w w'∧aH w (fpF β sv lv) (fpD D):=by
 have hln:fs'.safe.length=n:=hSp.len.trans S.len
 have hal:=Fs.well_alive hw
 obtain⟨v',hm1,hv'⟩:=S.meta1
 have hro:aY fs' (rootOf o) o:=Sr S.sure.rooted S.sure.flat (fun p hp g hg=>hSp.has hg (fun e=>hno (e▸hp)))
 have hne:rootOf ao≠rootOf o:=fun e=>hno (by rw [Pl S.sure.rooted (e▸S.ahead.rooted:aY fs (rootOf o) ao)];exact hin)
 refine Bq (by rw [hln];exact h2) β sv lv w hf (fun d X hX hfX=>(qA (v:=v) (o:=o) (rootOf ao) (1-v % 2) (by omega) true true false hlate S.sure.root (by rw [hln];omega) hw d β sv lv X hX hfX (fun lv1 X ub hX hU=>Iw hal hro hX hU) (fun _ _ lv1 X ub hX hU=>?_)
  (fun lv1 X hX=>(wV (hSp.metas hp2 (Nat.mod_lt _ (by decide)) S.meta0) ⟨v',hSp.metas hp2 (Nat.mod_lt _ (by decide)) hm1,hv'⟩ (by rw [hln];omega) β sv lv1 hal X hX).mono fun e w' ⟨m,m',he,hb,h1,h2,h3,h4⟩=>⟨m,m'.g,he,hb,h1,h2,rfl,fun _=>h3,fun _=>(h4 hne).trans (by omega)⟩)).mono fun e w' h=>?_)
 ·exact Oz β sv lv1 fs fs' p0 hSp (rootOf ao) none 0 0 ub ao _ X S.ahead.rooted (qV S.ahead.rooted S.sure.rooted (by rw [List.length_replicate,S.len,← hln];exact hf.small) (mI _ _)) (by rw [eL,List.length_replicate]) hX hU hin (fun hon=>(qX.1 hon).elim Ta (fun h=>hno h.1)) hU.lt
 ·rcases h with h|h
  ·cases h.1
  ·exact h.2
