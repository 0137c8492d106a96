import Derived.Test.YtpifffkkgnbfpaaGreatQ32
set_option linter.unusedSimpArgs false
set_option linter.unusedVariables false
set_option maxRecDepth 100000
set_option maxHeartbeats 8000000
namespace Go.Proofs.YtpifffkkgnbfpaaGreat.Tree
open Go.RowKit Pages
variable {K:List ByteArray} {cs:List Ch} {n:Nat}
theorem Wk (β:Nat) (sv lv:Value) (fs:Fs) (hl:(fs.life==0)=false) (o:Option (Nat×T)) (root:Nat) (hro:bI fs root o) (hf2:fW o) (ca:Option Addr) (cc:Nat) (cs:List Ch) (S:Bl) (w:World) (hf:aG w β sv lv fs) (hR:aH w S ca (cs.flatMap Ch.cells)) (hS:∀ b,S b→b<w.heap.size) (hr:cH cs) (hn:cs.length≤1000) (hc:cs.length≤cc) (hca:(ca=none∧cc=0)∨∃ b off,ca=some ⟨b,off,none⟩) (hG:tY fs o cs) :
  Calls Tryz.prog 146 #[.agg #[.pointer (some ⟨β,0,none⟩),.int .i64 (root:Nat),.slice ca cs.length cc]] w fun e w'=>∃ a c ms,e=.returned (.slice a ms.length c)∧iS w w' (mU (cM o cs)) a c ms:=by
 rcases iV hro hf2 with rfl|⟨p,es,rfl,hs⟩|⟨p,ks,kids,rfl,hs⟩
 ·have e:root=0:=hro
  subst e
  exact Qt β sv lv fs hl ca cc cs S w hf hR hS hr hn hc hca hG
 ·obtain⟨h1,h2,_⟩:=hro
  have e:p=root:=h2
  subst e
  exact Qu β sv lv fs hl p es h1 hs ca cc cs S w hf hR hS hr hn hc hca hG
 ·obtain⟨h1,h2,_⟩:=hro
  have e:p=root:=h2
  subst e
  exact Jb β sv lv fs hl p ks kids h1 hs ca cc cs S w hf hR hS hr hn hc hca hG
theorem tT {α:Type} (f:α→List UInt8) (b:Nat):∀ (l:List α),(∀ x∈l,(f x).length≤b)→(l.flatMap f).length≤b * l.length
 | [],_=>by simp
 | x :: l,h=>by
  have h1:=h x (by simp)
  have h2:=tT f b l (fun y hy=>h y (by simp [hy]))
  rw [List.flatMap_cons,jK,jB,Nat.mul_succ];omega
theorem Uy (b:Nat) (Sf:Bl) (fs:Fs) (ns:List NT) (hne:0<ns.length) (hn:∀ n∈ns,Ok0 fs n∧mR n∧n.ents0.length≤1000) (m:MN) (S:Bl) (fa:Option Addr) (fc:Nat) (fr:List Nat) (wv:Value) (ws:List (Nat×ByteArray)) (w:World) (h:dS w b Sf fa fc fr wv ws) (hm:gV w S (iI (ns.map nd0)) m) (hS:∀ k,S k→k<w.heap.size∧¬ fpL b wv k) (hlen:ns.length≤1000) (hl:(aY ns fr).2.length<fr.length) (hp:∀ p∈fr,aS (p:Nat)=true) (hws:ws.length+(aY ns fr).2.length≤10000)
  (hE:(eM (ns.tail.map (fun n=>n.sp.lo)) ((aY ns fr).1.map T.place)).encE=0) (hsm:(eM (ns.tail.map (fun n=>n.sp.lo)) ((aY ns fr).1.map T.place)).small) :
  Calls Tryz.prog 147 #[.pointer (some ⟨b,0,none⟩),.agg #[.string m.lo,.string m.hi,.int .i64 m.place,.slice m.ea m.en m.ec,.slice m.ka m.kn m.kc]] w fun e w'=>e=.returned (.int .i64 ((gD ns fr).1.place:Nat)) ∧
   ∃ fa' fc' wv',dS w' b Sf fa' fc' (fr.drop (gD ns fr).2.length) wv' (ws++(gD ns fr).2.map enc1)∧Fr (fpL b wv) w w'∧∀ k,wv'.ownBlock=some k→wv.ownBlock=some k∨w.heap.size≤k:=by
 obtain⟨lo,hi,pl,ea,en,ec,ka,kn,kc⟩:=m
 obtain⟨_,_,_,_,_,ms,g1,g2,g3,g4,g5,g6,g7,g8,g9,g10,g11⟩:=hm
 have g3':pl=0:=g3
 have g4':en=0:=g4
 have g5':kn=ns.length:=by have:kn=(ns.map nd0).length:=g5;rwa [List.length_map] at this
 subst g3' g4' g5'
 obtain⟨W1,hW1⟩:=nM (w.alloc (.cells #[.string lo,.string hi,.int .i64 0,.slice ea 0 ec,.slice ka ns.length kc] 224))
 have b1:Below w.heap.size w W1:=hW1▸(bA _ _)
 have x1:W1.heap[w.heap.size]?=some (.cells #[.string lo,.string hi,.int .i64 0,.slice ea 0 ec,.slice ka ns.length kc] 224):=hW1▸aA w _
 obtain⟨m0,m1,m2,m3,m4⟩:=eE x1
 have h1:=h.fr b1
 have hBr:=Rx b Sf fs ns hn ms ka kc S fa fc fr wv ws W1 h1 (g9.on (vV b1 (fun k hk=>(hS k hk).1))) (⟨g10,fun i k x a b=>(g11 i k x a b).on (vV b1 (fun k hk=>(hS k hk).1))⟩) (fun k hk=>⟨jY (hS k hk).1 b1.size,(hS k hk).2⟩) hlen (by rw [List.length_map] at g7;exact g7) hl hp hws hE hsm
 have hni:(0:Int)<(ns.length:Int):=by omega
 obtain⟨pp,hpp⟩:=nM ((gD ns fr).1.place)
 rw [hpp] at hBr
 have HPP:Hid ((gD ns fr).1.place=pp):=hpp
 clear hpp g1 g2 g3 g4 g5 g6 g7 g8 g9 g10 g11 hl
 go_enter Tryz.func147,Tryz.ntmps147
 go_wp2_with (go_at_call 166;(with_reducible refine jC hBr ?_);rintro e w2 ⟨rfl,fa2,fc2,wv2,hL2,hF2,hli2⟩)
 go_ret
 rw [HPP.out]
 exact⟨rfl,fa2,fc2,wv2,hL2,(Fr.of_below b1).trans hF2,fun k hk=>(hli2 k hk).imp id (fun h=>vJ b1.size h)⟩
structure Tw (fs:Fs) (N:List NT) (fr:List Nat):Prop where
 each:∀ n∈N,Ok0 fs n∧mR n∧n.ents0.length≤1000
 len:N.length≤1000
 room:(bJ N fr).2.length≤fr.length
 few:(bJ N fr).2.length≤10000
 place:∀ p∈fr,aS (p:Nat)=true
 enc:∀ y∈(bJ N fr).2,y.2.encE=0
 lo:∀ n∈N,n.sp.lo.size≤24
theorem Ry {los:List ByteArray} {pls:List Nat} (h1:los.length≤1000) (h2:pls.length≤1000) (h3:∀ k∈los,k.size≤24):(eM los pls).small:=by
 refine⟨by simp [eM];omega,by simp [eM];omega,by simp [eM],by simp [eM],?_,?_,Nat.zero_le _⟩
 ·have e1:=tT (beB 2) 2 (pls.map (fun n:Nat=>(n:Int))) (fun x _=>by rw [aJ];exact jU _)
  have e2:=tT dM 1000 los (fun x hx=>by have:=h3 x hx;simp [dM,aJ];omega)
  rw [List.length_map] at e1
  show (eD los (pls.map (fun n:Nat=>(n:Int)))).length≤_
  simp only [eD,jK,aJ]
  omega
 ·simp [eM,lC,aJ]
theorem Kf (b:Nat) (Sf:Bl) (fs:Fs) (N:List NT) (t:Nd) (htN:mU N=[t]) (m:MN) (S:Bl) (fa:Option Addr) (fc:Nat) (fr:List Nat) (wv:Value) (w:World) (h:dS w b Sf fa fc fr wv []) (hm:gV w S t m) (hS:∀ k,S k→k<w.heap.size∧¬ fpL b wv k) (hT:Tw fs N fr) :
  Calls Tryz.prog 147 #[.pointer (some ⟨b,0,none⟩),.agg #[.string m.lo,.string m.hi,.int .i64 m.place,.slice m.ea m.en m.ec,.slice m.ka m.kn m.kc]] w fun e w'=>e=.returned (.int .i64 (rootOf (bJ N fr).1:Nat)) ∧
   ∃ fa' fc' wv',dS w' b Sf fa' fc' (fr.drop (bJ N fr).2.length) wv' ((bJ N fr).2.map enc1)∧Fr (fpL b wv) w w'∧∀ k,wv'.ownBlock=some k→wv.ownBlock=some k∨w.heap.size≤k:=by
 match N,htN,hT with
 | [],h0,_=>simp [mU] at h0
 | [n],h0,hT =>
  simp only [mU,List.cons.injEq,and_true] at h0
  subst h0
  obtain⟨e1,e2,e3⟩:=hT.each n (by simp)
  exact Gi b Sf fs n e1 e2 m S fa fc fr wv [] w h hm (fun k hk=>(hS k hk).1) e3 hT.room hT.place (by simp)
 | n :: n' :: r,h0,hT =>
  simp only [mU,List.cons.injEq,and_true] at h0
  subst h0
  have hroom:(gD (n :: n' :: r) fr).2.length≤fr.length:=hT.room
  have hfew:(gD (n :: n' :: r) fr).2.length≤10000:=hT.few
  have henc:∀ y∈(gD (n :: n' :: r) fr).2,y.2.encE=0:=hT.enc
  have hll:(gD (n :: n' :: r) fr).2.length=(aY (n :: n' :: r) fr).2.length+1:=by simp only [gD,jK,List.length_singleton]
  exact Uy b Sf fs (n :: n' :: r) (by simp) hT.each m S fa fc fr wv [] w h hm hS hT.len (by omega) hT.place (by simp only [jN];omega) (henc (_,_) (by simp only [gD,List.mem_append,List.mem_singleton];exact .inr rfl)) (Ry (by rw [List.length_map,List.length_tail];have:=hT.len;omega) (by rw [List.length_map,dN];exact hT.len) (fun k hk=>by
   obtain⟨q,hq,rfl⟩:=List.mem_map.1 hk
   exact hT.lo q (List.mem_of_mem_tail hq)))
theorem Yo (β:Nat) (sv lv:Value) (fs:Fs) (hl:(fs.life==0)=false) (o:Option (Nat×T)) (root:Nat) (hro:bI fs root o) (hf2:fW o) (ca:Option Addr) (cc:Nat) (cs:List Ch) (S:Bl) (fa:Option Addr) (fc:Nat) (fr:List Nat) (Sf:Bl) (w:World) (hf:aG w β sv lv fs) (hR:aH w S ca (cs.flatMap Ch.cells)) (hS:∀ b,S b→b<w.heap.size) (hr:cH cs) (hn:cs.length≤1000) (hc:cs.length≤cc) (hca:(ca=none∧cc=0)∨∃ b off,ca=some ⟨b,off,none⟩) (hG:tY fs o cs)
  (hFr:aH w Sf fa (fr.map (fun n:Nat=>Value.int .i64 n))) (hSf:∀ b,Sf b→b<w.heap.size) (hfs:fr≠[]→∃ b0 o0,fa=some ⟨b0,o0,none⟩) (hfc:fr.length≤fc) (hT:Tw fs (cM o cs) fr) :
  Calls Tryz.prog 133 #[.agg #[.pointer (some ⟨β,0,none⟩),.int .i64 (root:Nat),.slice ca cs.length cc],.slice fa fr.length fc] w fun e w'=>∃ wa wc,e=.returned (.agg #[.int .i64 (rootOf (cJ o cs fr).1:Nat),.slice wa (cJ o cs fr).2.length wc])∧aH w' (New w w') wa (((cJ o cs fr).2.map enc1).flatMap dE)∧(cJ o cs fr).2.length≤wc∧Below w.heap.size w w':=by
 obtain⟨N,hNd⟩:=nM (cM o cs)
 have HPL:Hid (cJ o cs fr=bJ N fr):=by show _=_;unfold cJ;rw [hNd]
 rw [hNd] at hT
 obtain⟨W1,hW1⟩:=nM (((w.alloc (lB β (root:Nat) ca cs.length cc)).alloc (.cells #[.int .i64 0,.slice none 0 0] 179)).alloc (.cells #[.slice fa fr.length fc,.slice none 0 0] 220))
 have B1:Below w.heap.size w W1:=hW1▸((bA _ _).alloc (by simp) _).alloc (by simp;omega) _
 have t1:W1.heap[w.heap.size]?=some (lB β (root:Nat) ca cs.length cc):=hW1▸aB _ (aB _ (aA w _))
 have p1:W1.heap[w.heap.size+1]?=some (.cells #[.int .i64 0,.slice none 0 0] 179):=by
  rw [← hW1];refine aB _ ?_;have:=aA (w.alloc (lB β (root:Nat) ca cs.length cc)) (.cells #[.int .i64 0,.slice none 0 0] 179);simpa using this
 have l1:W1.heap[w.heap.size+1+1]?=some (.cells #[.slice fa fr.length fc,.slice none 0 0] 220):=by
  rw [← hW1];have:=aA ((w.alloc (lB β (root:Nat) ca cs.length cc)).alloc (.cells #[.int .i64 0,.slice none 0 0] 179)) (.cells #[.slice fa fr.length fc,.slice none 0 0] 220);simpa using this
 have z1:W1.heap.size=w.heap.size+3:=by rw [← hW1];simp
 obtain⟨m0,m1,m2⟩:=eR t1
 have hGr:=Wk β sv lv fs hl o root hro hf2 ca cc cs S W1 (hf.on (vV B1 hf.lies)) (hR.on (vV B1 hS)) (fun k hk=>jY (hS k hk) B1.size) hr hn hc hca hG
 rw [hNd] at hGr
 have hLay1:dS W1 (w.heap.size+1+1) Sf fa fc fr (.slice none 0 0) []:=⟨l1,hFr.on (vV B1 hSf),hfs,hfc,World.ownsRow_nil _ _ _ _,fun k hk=>⟨by have:=hSf k hk;omega,by have:=hSf k hk;omega,by simp [Value.ownBlock]⟩⟩
 have HZ:Hid (W1.heap.size=w.heap.size+3):=z1
 obtain⟨lq0,lq1⟩:=bU l1
 have lfr:=aD l1
 have hset:W1.setCell ⟨w.heap.size+1+1,1,none⟩ (.slice none 0 0)=W1:=gI l1 rfl
 clear hNd hf hR hro z1
 go_enter Tryz.func133,Tryz.ntmps133
 go_wp2_with (go_at_call 146;(with_reducible refine jC hGr ?_);rintro e X ⟨a,c,ms,rfl,hL⟩)
 have zX:=hL.new.size
 have hLayX:=hLay1.fr hL.new
 have pX:=(hL.new.block _ (by have:=HZ.out;omega)).trans p1
 have HH:Hid (iS W1 X (mU N) a c ms∧dS X (w.heap.size+1+1) Sf fa fc fr (.slice none 0 0) []∧X.heap[w.heap.size+1]?=some (.cells #[.int .i64 0,.slice none 0 0] 179)):=⟨hL,hLayX,pX⟩
 have hlen:=hL.nds.1
 have HFIN:Hid (∀ (wr:World) (fa':Option Addr) (fc':Nat) (fr':List Nat) (wv:Value) (rt:Int),dS wr (w.heap.size+1+1) Sf fa' fc' fr' wv ((bJ N fr).2.map enc1)→rt=(rootOf (bJ N fr).1:Nat)→Fr (fpL (w.heap.size+1+1) (.slice none 0 0)) X wr→(∀ k,wv.ownBlock=some k→X.heap.size≤k)→wr.heap[w.heap.size+1]?=some (.cells #[.int .i64 0,.slice none 0 0] 179)→Below w.heap.size w wr∧∃ wa wc,wv=.slice wa (bJ N fr).2.length wc∧(bJ N fr).2.length≤wc∧wr.cell? ⟨w.heap.size+1+1,1,none⟩=some (.slice wa (bJ N fr).2.length wc)∧Below w.heap.size w ((wr.setCell ⟨w.heap.size+1,0,none⟩ (.int .i64 rt)).setCell ⟨w.heap.size+1,1,none⟩ (.slice wa (bJ N fr).2.length wc))∧((wr.setCell ⟨w.heap.size+1,0,none⟩ (.int .i64 rt)).setCell ⟨w.heap.size+1,1,none⟩ (.slice wa (bJ N fr).2.length wc)).heap[w.heap.size+1]?=some (.cells #[.int .i64 rt,.slice wa (bJ N fr).2.length wc] 179)∧aH ((wr.setCell ⟨w.heap.size+1,0,none⟩ (.int .i64 rt)).setCell ⟨w.heap.size+1,1,none⟩ (.slice wa (bJ N fr).2.length wc)) (New w ((wr.setCell ⟨w.heap.size+1,0,none⟩ (.int .i64 rt)).setCell ⟨w.heap.size+1,1,none⟩ (.slice wa (bJ N fr).2.length wc))) wa (((bJ N fr).2.map enc1).flatMap dE)):=by
  intro wr fa' fc' fr' wv rt hLa hrt hFx hwv hpl
  have hz:=HZ.out
  have zF:=hFx.size
  have hBw:Below w.heap.size w wr:=(B1.trans (hL.new.mono B1.size)).trans (hFx.below (by omega) (fun k hk=>by rcases hk with hk|hk;omega;simp [Value.ownBlock] at hk))
  have hown:=hLa.own
  rw [List.length_map] at hown
  obtain⟨wa,wc,rfl,hwc,hrow⟩:=cP hown
  have hc1:=(bU hLa.box).2
  have e1:=aF (aF hpl 0 (.int .i64 rt)) 1 (.slice wa (bJ N fr).2.length wc)
  have fP:Fr (Bl.one (w.heap.size+1)) wr ((wr.setCell ⟨w.heap.size+1,0,none⟩ (.int .i64 rt)).setCell ⟨w.heap.size+1,1,none⟩ (.slice wa (bJ N fr).2.length wc)):=((Fr.refl (Bl.one (w.heap.size+1)) wr).setCell (p:=⟨w.heap.size+1,0,none⟩) (.inl rfl) _).setCell (p:=⟨w.heap.size+1,1,none⟩) (.inl rfl) _
  refine⟨hBw,wa,wc,rfl,hwc,hc1,hBw.trans (fP.below hBw.size (oK (by omega))),by simpa using e1,?_⟩
  have zP:=fP.size
  refine(hrow.on (fP.on (fun k hk=>⟨aQ hown hk,fun e=>by simp only [Bl.one] at e;have:=hwv k hk;omega⟩))).mono (fun k hk=>⟨by have:=hwv k hk;omega,by have:=aQ hown hk;omega⟩)
 have pb:=aD pX
 rcases Nat.lt_or_ge 0 ms.length with h0|h0
 ·-- a root
  obtain⟨tN,htN⟩:∃ t,mU N=[t]:=by
   match N,hlen with
   | [],h=>have:ms.length=0:=h;omega
   | [n],_=>exact⟨_,rfl⟩
   | n :: m :: r,_=>exact⟨_,rfl⟩
  have h01:ms.length=1:=by rw [hlen,htN];rfl
  obtain⟨rb,ro,hra,hrb,n0,n1,n2,n3,n4⟩:=hL.row.nod h0
  subst hra
  obtain⟨m,hm⟩:=nM (ms[0])
  have hnd:gV X (New W1 X) tN m:=hL.nds.2 0 tN m (by rw [htN];rfl) (by rw [jQ h0,hm])
  rw [hm] at n0 n1 n2 n3 n4
  obtain⟨lo,hi,pl,ea,en,ec,ka,kn,kc⟩:=m
  dsimp only at n0 n1 n2 n3 n4
  simp only [Nat.zero_mul,Nat.add_zero] at n0 n1 n2 n3 n4
  have xE:=aA X (.cells #[.string lo,.string hi,.int .i64 pl,.slice ea en ec,.slice ka kn kc] 224)
  have bE:Below X.heap.size X (X.alloc (.cells #[.string lo,.string hi,.int .i64 pl,.slice ea en ec,.slice ka kn kc] 224)):=bA _ _
  obtain⟨X',hX'⟩:∃ X',X.alloc (.cells #[.string lo,.string hi,.int .i64 pl,.slice ea en ec,.slice ka kn kc] 224)=X':=⟨_,rfl⟩
  rw [hX'] at xE bE
  obtain⟨q0,q1,q2,q3,q4⟩:=eE xE
  have hz:=HZ.out
  have hNo:=Kf (w.heap.size+1+1) Sf fs N tN htN ⟨lo,hi,pl,ea,en,ec,ka,kn,kc⟩ (New W1 X) fa fc fr (.slice none 0 0) X' (hLayX.fr bE) (hnd.on (vV bE (fun k hk=>hk.2))) (fun k hk=>⟨by have:=hk.2;have:=bE.size;omega,fun e=>by rcases e with e|e;have:=hk.1;omega;simp [Value.ownBlock] at e⟩) hT
  have HPX:Hid (∀ wr,Fr (fpL (w.heap.size+1+1) (.slice none 0 0)) X' wr→wr.heap[w.heap.size+1]?=some (.cells #[.int .i64 0,.slice none 0 0] 179)∧Fr (fpL (w.heap.size+1+1) (.slice none 0 0)) X wr):=fun wr hfr=>⟨hfr.heap ((bE.block _ (by have:=(gL pX);omega)).trans pX) (fun e=>by rcases e with e|e;omega;simp [Value.ownBlock] at e),(Fr.of_below bE).trans hfr⟩
  rw [h01]
  have zE:=bE.size
  clear hlen h01 h0 hm hnd xE bE hL hLayX pX hz htN
  go_loopw [6,14] (fun r i wq=>(i=.int .i64 0∧r=.int .i64 0∧wq=X)∨(i=.int .i64 1∧∃ fa' fc' fr' wv,r=.int .i64 (rootOf (bJ N fr).1:Nat)∧Hid (dS wq (w.heap.size+1+1) Sf fa' fc' fr' wv ((bJ N fr).2.map enc1)∧Fr (fpL (w.heap.size+1+1) (.slice none 0 0)) X wq∧(∀ k,wv.ownBlock=some k→X.heap.size≤k)∧wq.heap[w.heap.size+1]?=some (.cells #[.int .i64 0,.slice none 0 0] 179)))) (fun _ i _=>1-(intOf i).toNat)
  case atStart=>exact .inl ⟨rfl,rfl,rfl⟩
  case round =>
   rcases hrel with⟨rfl,rfl,hwr⟩|⟨rfl,fa',fc',fr',wv,rfl,HQ⟩
   ·subst hwr
    go_wp2_with (go_at_call 147;(with_reducible refine jC hNo ?_);rintro e X2 ⟨rfl,fa2,fc2,wv2,hL2,hF2,hli2⟩)
    obtain⟨hp2,hf2'⟩:=HPX.out X2 hF2
    go_roundw
    case rel=>exact⟨_,_,_,_,_,_,_,_,_,.inr ⟨rfl,fa2,fc2,_,wv2,rfl,hL2,hf2',fun k hk=>(by rcases hli2 k hk with h|h;simp [Value.ownBlock] at h;omega),hp2⟩,rfl⟩
    case measure=>simp [intOf]
   ·obtain⟨rt,hrt⟩:∃ rt:Int,rt=(rootOf (bJ N fr).1:Nat):=⟨_,rfl⟩
    rw [← hrt]
    obtain⟨hLa,hFx,hwo,hpl⟩:=HQ.out
    clear n0 n1 n2 n3 n4 hNo q0 q1 q2 q3 q4
    obtain⟨hBw,wa,wc,hwv,hwc,hc1,hBf,hbf,hRf⟩:=HFIN.out wr fa' fc' fr' wv rt hLa hrt hFx hwo hpl
    subst hwv
    obtain⟨q0,q1⟩:=bU hpl
    have qfr:=aD hpl
    have HBF:Hid _:=hBf
    have HBX:Hid _:=hbf
    have HRF:Hid _:=hRf
    have HRT:Hid (rt=(rootOf (bJ N fr).1:Nat)):=hrt
    have HLE:Hid ((bJ N fr).2.length≤wc):=hwc
    clear hBf hbf hRf hrt hwc hLa HFIN
    go_wp2
    refine bodyPost_ret (v:=.agg #[.int .i64 rt,.slice wa (bJ N fr).2.length wc]) ?_ rfl ⟨wa,wc,by rw [HPL.out,HRT.out],by rw [HPL.out];exact HRF.out,by rw [HPL.out];exact HLE.out,HBF.out⟩
    exact results_cell_row (p:=4) rfl _ _ (w.heap.size+1) _ _ _ _ rfl HBX.out Tryz.underlying179 rfl (by kernel_rfl)
 ·-- nothing
  have h00:ms.length=0:=by omega
  have hN0:N=[]:=by
   match N,hlen with
   | [],_=>rfl
   | [n],h=>have:ms.length=1:=h;omega
   | n :: m :: r,h=>have:ms.length=1:=h;omega
  rw [h00]
  have HRZ:Hid ((rootOf (bJ N fr).1:Nat)=0∧(bJ N fr).2=[]):=by rw [hN0];exact⟨rfl,rfl⟩
  have HLX:Hid (dS X (w.heap.size+1+1) Sf fa fc fr (.slice none 0 0) ((bJ N fr).2.map enc1)):=by rw [HRZ.out.2];exact hLayX
  clear hlen h00 h0 hL hLayX hN0
  go_loopw [6,14] (fun r i wq=>i=.int .i64 0∧r=.int .i64 0∧wq=X) (fun _ _ _=>0)
  case atStart=>exact⟨rfl,rfl,rfl⟩
  case round =>
   obtain⟨rfl,rfl,hwr⟩:=hrel
   subst hwr
   obtain⟨hBw,wa,wc,hwv,hwc,hc1,hBf,hbf,hRf⟩:=HFIN.out wr fa fc fr (.slice none 0 0) 0 HLX.out (by rw [HRZ.out.1];rfl) (Fr.refl _ _) (fun k hk=>by simp [Value.ownBlock] at hk) pX
   obtain⟨q0,q1⟩:=bU pX
   have qfr:=aD pX
   have HBF:Hid _:=hBf
   have HBX:Hid _:=hbf
   have HRF:Hid _:=hRf
   have HLE:Hid ((bJ N fr).2.length≤wc):=hwc
   clear hBf hbf hRf hwc HFIN hwv
   go_wp2
   refine bodyPost_ret (v:=.agg #[.int .i64 0,.slice wa (bJ N fr).2.length wc]) ?_ rfl ⟨wa,wc,by rw [HPL.out,HRZ.out.1];rfl,by rw [HPL.out];exact HRF.out,by rw [HPL.out];exact HLE.out,HBF.out⟩
   exact results_cell_row (p:=4) rfl _ _ (w.heap.size+1) _ _ _ _ rfl HBX.out Tryz.underlying179 rfl (by kernel_rfl)
abbrev gJ (rt:Int) (v:Value):Obj:=.cells #[.int .i64 rt,v] 179
abbrev Bo (ver rt:Int):Obj:=.cells #[.int .i64 1,.int .i64 ver,.int .i64 rt,.int .i64 0,.slice none 0 0,.slice none 0 0,.slice none 0 0,.string ⟨#[]⟩] 85
abbrev fV:Obj:=.cells #[.int .i64 0,.int .i64 0,.int .i64 0,.int .i64 0,.slice none 0 0,.slice none 0 0,.slice none 0 0,.string ⟨#[]⟩] 85
abbrev frD (D:Db) (o ao:Option (Nat×T)) (ot:Tx→Option (Nat×T)):List Nat:=fU D.fs.safe.length (dZ ([o,ao]++D.ts.map ot))
abbrev Yc (w:World) (b:Nat) (v0 v1 v2 v3 v4 v5 v6 v7:Value):World:=(((((((w.setCell ⟨b,0,none⟩ v0).setCell ⟨b,1,none⟩ v1).setCell ⟨b,2,none⟩ v2).setCell ⟨b,3,none⟩ v3).setCell ⟨b,4,none⟩ v4).setCell ⟨b,5,none⟩ v5).setCell ⟨b,6,none⟩ v6).setCell ⟨b,7,none⟩ v7
theorem Yb (w:World) (b:Nat) (v0 v1 v2 v3 v4 v5 v6 v7:Value):Fr (Bl.one b) w (Yc w b v0 v1 v2 v3 v4 v5 v6 v7) :=
  ((((((((Fr.refl (Bl.one b) w).setCell (p:=⟨b,0,none⟩) (.inl rfl) _).setCell (p:=⟨b,1,none⟩) (.inl rfl) _).setCell (p:=⟨b,2,none⟩) (.inl rfl) _).setCell (p:=⟨b,3,none⟩) (.inl rfl) _).setCell (p:=⟨b,4,none⟩) (.inl rfl) _).setCell (p:=⟨b,5,none⟩) (.inl rfl) _).setCell (p:=⟨b,6,none⟩) (.inl rfl) _).setCell (p:=⟨b,7,none⟩) (.inl rfl) _
theorem Uf {w:World} {b:Nat} {x0 x1 x2 x3 x4 x5 x6 x7:Value} {t:TypeId} (h:w.heap[b]?=some (.cells #[x0,x1,x2,x3,x4,x5,x6,x7] t)) (v0 v1 v2 v3 v4 v5 v6 v7:Value):(Yc w b v0 v1 v2 v3 v4 v5 v6 v7).heap[b]?=some (.cells #[v0,v1,v2,v3,v4,v5,v6,v7] t):=by
  have:=aF (aF (aF (aF (aF (aF (aF (aF h 0 v0) 1 v1) 2 v2) 3 v3) 4 v4) 5 v5) 6 v6) 7 v7
  simpa using this
theorem Bg {P:Program} {fn:Func} {p q:Tmp} {ty ty':TypeId} (h:fn.results=#[.cell p ty,.cell q ty']) (tmps:Array Value) (w:World) (g g':Nat) (t t':TypeId) (cs cs':Array Value) (d d':TypeDesc)
    (hp:tmps.getD p undef=.pointer (some ⟨g,0,none⟩)) (hq:tmps.getD q undef=.pointer (some ⟨g',0,none⟩)) (hg:w.heap[g]?=some (.cells cs t)) (hg':w.heap[g']?=some (.cells cs' t'))
    (hu:P.underlying ty=some d) (hd:(match d with|.struct _|.array _ _=>true|_=>false)=true) (hi:(P.info? ty).map (·.size)=some cs.size) (hu':P.underlying ty'=some d') (hd':(match d' with|.struct _|.array _ _=>true|_=>false)=true) (hi':(P.info? ty').map (·.size)=some cs'.size) :
    (results fn tmps).run P w=.ok (.tuple #[.agg cs,.agg cs']) w:=by
  have hp':tmps[p]?.getD undef=.pointer (some ⟨g,0,none⟩):=by simpa using hp
  have hq':tmps[q]?.getD undef=.pointer (some ⟨g',0,none⟩):=by simpa using hq
  simp [results,h,hp',hq',asAddr,run_loadVar_row w g t ty cs (0,0) d hg hu hd hi,run_loadVar_row w g' t' ty' cs' (0,0) d' hg' hu' hd' hi']
theorem Wv (D:Db) (st:Int) (v:Nat) (o ao:Option (Nat×T)) (ot:Tx→Option (Nat×T)) (ca:Option Addr) (cc:Nat) (cs:List Ch) (S:Bl) (w:World) (h:aM w st D) (hv:D.ver=v) (hv63:v+1<9223372036854775808) (hn:D.ts.length≤1000) (hl:(D.fs.life==0)=false) (hp2:1<D.fs.safe.length) (hm:kY D.fs (v % 2) v D.root)
    (ho:bI D.fs (rootOf o) o) (hr:D.root=rootOf o) (hf2:fW o) (hao:bI D.fs (rootOf ao) ao) (har:D.aroot=rootOf ao) (hts:∀ t∈D.ts,bI D.fs (rootOf (ot t)) (ot t)∧t.root=rootOf (ot t))
    (hR:aH w S ca (cs.flatMap Ch.cells)) (hS:∀ b,S b→b<w.heap.size) (hri:cH cs) (hcn:cs.length≤1000) (hc:cs.length≤cc) (hca:(ca=none∧cc=0)∨∃ b off,ca=some ⟨b,off,none⟩) (hG:tY D.fs o cs) (hT:Tw D.fs (cM o cs) (frD D o ao ot)) :
    Calls Tryz.prog 107 #[.pointer (some ⟨D.d,0,none⟩),.slice ca cs.length cc] w fun e w'=>∃ wa wc,e=.returned (.tuple #[.agg #[.int .i64 (rootOf (cJ o cs (frD D o ao ot)).1:Nat),.slice wa (cJ o cs (frD D o ao ot)).2.length wc],.agg #[.int .i64 1,.int .i64 (v+1:Nat),.int .i64 (rootOf (cJ o cs (frD D o ao ot)).1:Nat),.int .i64 0,.slice none 0 0,.slice none 0 0,.slice none 0 0,.string ⟨#[]⟩]])∧aH w' (New w w') wa (((cJ o cs (frD D o ao ot)).2.map enc1).flatMap dE)∧(cJ o cs (frD D o ao ot)).2.length≤wc∧Below w.heap.size w w':=by
  obtain⟨fr,hfr⟩:=nM (frD D o ao ot)
  rw [hfr] at hT ⊢
  obtain⟨rt,hrt⟩:=nM (rootOf (cJ o cs fr).1)
  obtain⟨l,hll⟩:=nM ((cJ o cs fr).2)
  rw [hrt,hll]
  obtain⟨W1,hW1⟩:=nM ((w.alloc (gJ 0 (.slice none 0 0))).alloc fV)
  have B1:Below w.heap.size w W1:=hW1▸(bA _ _).alloc (by simp) _
  have p1:W1.heap[w.heap.size]?=some (gJ 0 (.slice none 0 0)):=hW1▸aB _ (aA w _)
  have g1:W1.heap[w.heap.size+1]?=some fV:=by
    rw [← hW1];have:=aA (w.alloc (gJ 0 (.slice none 0 0))) fV;simpa using this
  have z1:W1.heap.size=w.heap.size+2:=by rw [← hW1];simp
  have HK:Hid (∀ X,Below W1.heap.size W1 X→aM X st D∧X.cell? ⟨D.d,2,none⟩=some (.pointer (some ⟨D.β,0,none⟩))∧X.cell? ⟨D.d,4,none⟩=some (.int .i64 (v:Nat))∧X.cell? ⟨D.d,5,none⟩=some (.int .i64 D.root)∧X.heap[w.heap.size]?=some (gJ 0 (.slice none 0 0))∧X.heap[w.heap.size+1]?=some fV∧Below w.heap.size w X):=by
    intro X hX
    have hb:=B1.trans (hX.mono B1.size)
    have h1:=h.on (vV hb h.lies)
    obtain⟨c0,c1,c2,c3,c4,c5,c6,c7,c8,c9,c10,c11,c12,c13,c14⟩:=eQ h1.box
    rw [hv] at c4
    exact⟨h1,c2,c4,c5,(hX.block _ (by omega)).trans p1,(hX.block _ (by omega)).trans g1,hb⟩
  have hCM:=Ew D st v W1 (HK.out W1 (Below.refl _ _)).1 hv hl hp2 hm
  have HTA:Hid (∀ X,Below W1.heap.size W1 X→Calls Tryz.prog 39 #[.pointer (some ⟨D.d,0,none⟩),.int .i64 D.root] X fun e w'=>e=.returned (.agg #[.pointer (some ⟨D.β,0,none⟩),.int .i64 D.root,.slice none 0 0])∧Below X.heap.size X w'):=fun X hX=>lT D.d D.β D.root X (HK.out X hX).2.1
  have HFe:Hid (∀ X,Below W1.heap.size W1 X→Calls Tryz.prog 134 #[.pointer (some ⟨D.d,0,none⟩)] X fun e w'=>∃ vf,e=.returned vf∧w'.ownsRow 0 3 1 vf fr.length (fr.map (fun n:Nat=>Value.int .i64 n))∧Below X.heap.size X w'):=fun X hX=>by
    have:=qAb D st o ao ot X (HK.out X hX).1 (by omega) hl ho hr hao har hts
    rw [show fU D.fs.safe.length (dZ ([o,ao]++D.ts.map ot))=fr from hfr] at this
    exact this
  have HPl:Hid (∀ X fa fc,Below W1.heap.size W1 X→X.ownsRow 0 3 1 (.slice fa fr.length fc) fr.length (fr.map (fun n:Nat=>Value.int .i64 n))→Calls Tryz.prog 133 #[.agg #[.pointer (some ⟨D.β,0,none⟩),.int .i64 D.root,.slice ca cs.length cc],.slice fa fr.length fc] X fun e w'=>∃ wa wc,e=.returned (.agg #[.int .i64 (rt:Nat),.slice wa l.length wc])∧aH w' (New X w') wa ((l.map enc1).flatMap dE)∧l.length≤wc∧Below X.heap.size X w'):=fun X fa fc hX hof=>by
    obtain⟨hD,_,_,_,_,_,hb⟩:=HK.out X hX
    obtain⟨fa',fc',he,hfc,hrow⟩:=cP hof
    simp only [Value.slice.injEq,true_and] at he
    obtain⟨e1,e2⟩:=he
    subst e1 e2
    have:=Yo D.β D.sv D.lv D.fs hl o D.root (hr▸ho) hf2 ca cc cs S fa fc fr _ X hD.file (hR.on (vV hb hS)) (fun k hk=>jY (hS k hk) hb.size) hri hcn hc hca hG hrow (fun k hk=>aQ hof hk) (fun hne=>by
      rcases iD hof with⟨_,h2,_⟩|⟨g,c,cur,h3,_⟩
      · exact absurd (List.eq_nil_of_length_eq_zero h2) hne
      · simp only [Value.slice.injEq] at h3;exact⟨g,0,h3.1⟩) hfc hT
    rw [hrt,hll] at this
    exact this
  have HZ:Hid (W1.heap.size=w.heap.size+2):=z1
  have HD:Hid (D.d<w.heap.size):=(gL h.box)
  have hadd:IntKind.i64.wrap ((v:Int)+1)=(v:Int)+1:=by rw [IntKind.wrap_i64];omega
  clear h hm ho hao hts hR hG hT hfr hrt hll z1 hv hr har
  go_enter Tryz.func107,Tryz.ntmps107
  go_wp2_with (first
    | (go_at_call 132;(with_reducible refine jC hCM ?_);rintro e X1 ⟨rfl,hX1⟩;obtain⟨_,k2,k4,k5,_⟩:=HK.out X1 hX1;have hTA:=HTA.out X1 hX1)
    | (go_at_call 39;(with_reducible refine jC hTA ?_);rintro e X2 ⟨rfl,hX2⟩;have B2:=hX1.trans (hX2.mono hX1.size)))
  obtain⟨X3,hX3⟩:=nM (X2.alloc (lB D.β D.root ca cs.length cc))
  rw [hX3]
  have t3:X3.heap[X2.heap.size]?=some (lB D.β D.root ca cs.length cc):=hX3▸aA X2 _
  have z12:=B2.size
  have B3:Below W1.heap.size W1 X3:=hX3▸B2.alloc z12 _
  have z13:=B3.size
  have HS:Hid (∀ X,Below X3.heap.size X3 X→X.cell? ⟨X2.heap.size,0,none⟩=some (.pointer (some ⟨D.β,0,none⟩))∧X.cell? ⟨X2.heap.size,1,none⟩=some (.int .i64 D.root)∧X.cell? ⟨X2.heap.size,2,none⟩=some (.slice ca cs.length cc)):=fun X hX=>eR ((hX.block _ (gL t3)).trans t3)
  have B30:Below X3.heap.size X3 X3:=Below.refl _ _
  clear hX3 hCM hTA k2 k4 k5
  go_region_held3 (fun X=>X.cell? ⟨X2.heap.size,0,none⟩=some (.pointer (some ⟨D.β,0,none⟩))∧X.cell? ⟨X2.heap.size,1,none⟩=some (.int .i64 D.root)∧X.cell? ⟨X2.heap.size,2,none⟩=some (.slice ca cs.length cc))
    ((refine HS.out _ ?_;(repeat (first|exact BP|exact BF|exact B30|(refine Below.drew ?_)|(refine Below.alloc ?_ (by first|omega|(simp;omega)) _)|(refine Below.setCell ?_ (by first|omega|(simp;omega)|(show X3.heap.size≤X5.heap.size;omega)|(show X3.heap.size≤X6.heap.size;omega)|exact jU _) _)))))
    (first
      | (go_at_call 134;(with_reducible refine jC (HFe.out _ ?_) ?_);exact(B3.alloc z13 _).drew;rintro e X5 ⟨vf,rfl,hof,hX5⟩;obtain⟨fa,fc,rfl⟩:=aO hof;have BF:Below X3.heap.size X3 X5:=(B30.alloc (jU _) _).drew.trans (hX5.mono (by simp));have zF:=BF.size;have xA:X5.heap[X3.heap.size]?=some (gJ 0 (.slice none 0 0)):=(hX5.block X3.heap.size (by simp)).trans (aA X3 (gJ 0 (.slice none 0 0)));have lA:=(gL xA))
      | (go_at_call 134;(with_reducible refine jC (HFe.out _ ?_) ?_);exact B3.drew;rintro e X5 ⟨vf,rfl,hof,hX5⟩;obtain⟨fa,fc,rfl⟩:=aO hof;have BF:Below X3.heap.size X3 X5:=B30.drew.trans hX5;have zF:=BF.size)
      | (go_at_call 133;(with_reducible refine jC (HPl.out _ fa fc ?_ ?_) ?_);exact B3.trans (BF.mono z13);exact hof;rintro e X6 ⟨wa,wc,rfl,hRw,hwc,hX6⟩;have BP:Below X3.heap.size X3 X6:=BF.trans (hX6.mono zF);have zP:=BP.size;have xB:X6.heap[X3.heap.size]?=some (gJ 0 (.slice none 0 0)):=(hX6.block X3.heap.size lA).trans xA;obtain⟨g0,g1⟩:=bU xB;have gfr:=aD xB)
      | (go_at_call 133;(with_reducible refine jC (HPl.out _ fa fc ?_ ?_) ?_);exact(B3.trans (BF.mono z13)).alloc (by omega) _;exact World.ownsRow.alloc (w:=X5) hof _;rintro e X6 ⟨wa,wc,rfl,hRw,hwc,hX6⟩;have BP:Below X3.heap.size X3 X6:=(BF.alloc zF _).trans (hX6.mono (by simp;omega));have zP:=BP.size;have xB:X6.heap[X5.heap.size]?=some (gJ 0 (.slice none 0 0)):=(hX6.block X5.heap.size (by simp)).trans (aA X5 (gJ 0 (.slice none 0 0)));obtain⟨g0,g1⟩:=bU xB;have gfr:=aD xB)
      | (go_at_call 133;(with_reducible refine jC (HPl.out _ fa fc ?_ ?_) ?_);exact B3.trans (BF.mono z13);exact hof;rintro e X6 ⟨wa,wc,rfl,hRw,hwc,hX6⟩;have BP:Below X3.heap.size X3 X6:=BF.trans (hX6.mono zF);have zP:=BP.size;have xE:=aA X6 (gJ 0 (.slice none 0 0));obtain⟨g0,g1⟩:=bU xE;have gfr:=aD xE))
  all_goals
    have zz:=HZ.out
    first
      | (obtain⟨Xf,hXf⟩:=nM (X6.alloc (gJ (rt:Nat) (.slice wa l.length wc)))
         rw [hXf]
         have BFf:Below X3.heap.size X3 Xf:=hXf▸BP.alloc zP _
         have b7:Xf.heap[X6.heap.size]?=some (gJ (rt:Nat) (.slice wa l.length wc)):=by rw [← hXf];exact aA X6 _
         have HRF:Hid (aH Xf (fun k=>X3.heap.size≤k∧k<Xf.heap.size) wa ((l.map enc1).flatMap dE)):=by show aH _ _ _ _;rw [← hXf];exact(hRw.on ((On.refl _ X6).alloc (fun k hk=>hk.2) _)).mono (fun k hk=>⟨by have:=hk.1;omega,by have:=hk.2;simp;omega⟩)
         obtain⟨B7,hB7⟩:=nM (X6.heap.size)
         have zB7:X3.heap.size≤B7:=by omega
         rw [hB7] at b7 ⊢
         clear hXf hB7)
      | (obtain⟨Xf,hXf⟩:=nM ((X6.setCell ⟨X5.heap.size,0,none⟩ (.int .i64 (rt:Nat))).setCell ⟨X5.heap.size,1,none⟩ (.slice wa l.length wc))
         rw [hXf]
         have BFf:Below X3.heap.size X3 Xf:=hXf▸(BP.setCell (p:=⟨X5.heap.size,0,none⟩) zF _).setCell (p:=⟨X5.heap.size,1,none⟩) zF _
         have b7:Xf.heap[X5.heap.size]?=some (gJ (rt:Nat) (.slice wa l.length wc)):=by rw [← hXf];have:=aF (aF xB 0 (.int .i64 (rt:Nat))) 1 (.slice wa l.length wc);simpa using this
         have HRF:Hid (aH Xf (fun k=>X3.heap.size≤k∧k<Xf.heap.size) wa ((l.map enc1).flatMap dE)):=by show aH _ _ _ _;rw [← hXf];exact(hRw.on (((On.refl _ X6).setCell (p:=⟨X5.heap.size,0,none⟩) (fun hk=>by have h1:(X5.alloc (gJ 0 (.slice none 0 0))).heap.size≤X5.heap.size:=hk.1;rw [World.size_alloc] at h1;omega) _).setCell (p:=⟨X5.heap.size,1,none⟩) (fun hk=>by have h1:(X5.alloc (gJ 0 (.slice none 0 0))).heap.size≤X5.heap.size:=hk.1;rw [World.size_alloc] at h1;omega) _)).mono (fun k hk=>⟨by have h1:(X5.alloc (gJ 0 (.slice none 0 0))).heap.size≤k:=hk.1;rw [World.size_alloc] at h1;omega,by have:=hk.2;simp;omega⟩)
         obtain⟨B7,hB7⟩:=nM (X5.heap.size)
         have zB7:X3.heap.size≤B7:=by omega
         rw [hB7] at b7 ⊢
         clear hXf hB7)
      | (obtain⟨Xf,hXf⟩:=nM ((X6.setCell ⟨X3.heap.size,0,none⟩ (.int .i64 (rt:Nat))).setCell ⟨X3.heap.size,1,none⟩ (.slice wa l.length wc))
         rw [hXf]
         have BFf:Below X3.heap.size X3 Xf:=hXf▸(BP.setCell (p:=⟨X3.heap.size,0,none⟩) (jU _) _).setCell (p:=⟨X3.heap.size,1,none⟩) (jU _) _
         have b7:Xf.heap[X3.heap.size]?=some (gJ (rt:Nat) (.slice wa l.length wc)):=by rw [← hXf];have:=aF (aF xB 0 (.int .i64 (rt:Nat))) 1 (.slice wa l.length wc);simpa using this
         have HRF:Hid (aH Xf (fun k=>X3.heap.size≤k∧k<Xf.heap.size) wa ((l.map enc1).flatMap dE)):=by show aH _ _ _ _;rw [← hXf];exact(hRw.on (((On.refl _ X6).setCell (p:=⟨X3.heap.size,0,none⟩) (fun hk=>by have h1:X5.heap.size≤X3.heap.size:=hk.1;omega) _).setCell (p:=⟨X3.heap.size,1,none⟩) (fun hk=>by have h1:X5.heap.size≤X3.heap.size:=hk.1;omega) _)).mono (fun k hk=>⟨by have h1:=hk.1;omega,by have:=hk.2;simp;omega⟩)
         obtain⟨B7,hB7⟩:=nM (X3.heap.size)
         have zB7:X3.heap.size≤B7:=by omega
         rw [hB7] at b7 ⊢
         clear hXf hB7)
    clear g0 g1 gfr hRw hX6 hof hX5
    have BW:Below W1.heap.size W1 Xf:=B3.trans (BFf.mono z13)
    obtain⟨_,k2,k4,k5,pP,pG,hBw⟩:=HK.out Xf BW
    have dlt:D.d<w.heap.size:=HD.out
    obtain⟨g0,g1⟩:=bU b7
    obtain⟨q0,q1⟩:=bU pP
    have qfr:=aD pP
    obtain⟨r0,r1,r2,r3,r4,r5,r6,r7⟩:=bM pG
    have rfr:=aD pG
    go_wp2
    go_region_held3 (fun X=>X.cell? ⟨B7,0,none⟩=some (.int .i64 (rt:Nat))∧X.cell? ⟨B7,1,none⟩=some (.slice wa l.length wc)∧X.cell? ⟨D.d,4,none⟩=some (.int .i64 (v:Nat)))
      ((first|(with_reducible exact⟨g0,g1,k4⟩)|(refine⟨?_,?_,?_⟩<;>(try rw [sQ])<;>(repeat (with_reducible refine bS (by omega) ?_))<;>(first|(with_reducible exact g0)|(with_reducible exact g1)|(with_reducible exact k4)))|(simp [g0,g1,k4])))
      (fail)
    obtain⟨Xh,hXh⟩:=nM ((Xf.setCell ⟨w.heap.size,0,none⟩ (.int .i64 (rt:Nat))).setCell ⟨w.heap.size,1,none⟩ (.slice wa l.length wc))
    have fh:Fr (Bl.one w.heap.size) Xf Xh:=hXh▸(((Fr.refl (Bl.one w.heap.size) Xf).setCell (p:=⟨w.heap.size,0,none⟩) (.inl rfl) _).setCell (p:=⟨w.heap.size,1,none⟩) (.inl rfl) _)
    have bh:Xh.heap[w.heap.size]?=some (gJ (rt:Nat) (.slice wa l.length wc)):=by rw [← hXh];have:=aF (aF pP 0 (.int .i64 (rt:Nat))) 1 (.slice wa l.length wc);simpa using this
    have gh:=fh.heap pG (oN (by omega))
    obtain⟨Xg,hXg⟩:=nM ((Yc Xh (w.heap.size+1) (.int .i64 1) (.int .i64 ((v:Int)+1)) (.int .i64 (rt:Nat)) (.int .i64 0) (.slice none 0 0) (.slice none 0 0) (.slice none 0 0) (.string ⟨#[]⟩)).drew)
    have fg:Fr (Bl.one (w.heap.size+1)) Xh Xg:=hXg▸(Yb Xh (w.heap.size+1) _ _ _ _ _ _ _ _).drew
    have bg:Xg.heap[w.heap.size]?=some (gJ (rt:Nat) (.slice wa l.length wc)):=fg.heap bh (oN (by omega))
    have gg:Xg.heap[w.heap.size+1]?=some (Bo ((v:Int)+1) (rt:Nat)):=by rw [← hXg,heap_drew];exact Uf gh _ _ _ _ _ _ _ _
    rw [hXh,hXg]
    have zg:=fg.size
    have zh:=fh.size
    have HBG:Hid (Below w.heap.size w Xg):=(hBw.trans (fh.below hBw.size (oK (by omega)))).trans (fg.below (by have:=hBw.size;omega) (oK (by omega)))
    have HRG:Hid (aH Xg (New w Xg) wa ((l.map enc1).flatMap dE)):=by
      have hRf':aH Xf (fun k=>X3.heap.size≤k∧k<Xf.heap.size) wa ((l.map enc1).flatMap dE):=HRF.out
      refine((hRf'.on (fh.on (fun k hk=>⟨hk.2,fun e=>by simp only [Bl.one] at e;have:=hk.1;omega⟩))).on (fg.on (fun k hk=>⟨by have:=hk.2;omega,fun e=>by simp only [Bl.one] at e;have:=hk.1;omega⟩))).mono (fun k hk=>⟨by have:=hk.1;omega,by have:=hk.2;omega⟩)
    clear hXh hXg bh gh fh fg g0 g1 q0 q1 qfr r0 r1 r2 r3 r4 r5 r6 r7 rfr pP pG
    go_wp2
    refine bodyPost_ret (v:=.tuple #[.agg #[.int .i64 (rt:Nat),.slice wa l.length wc],.agg #[.int .i64 1,.int .i64 (v+1:Nat),.int .i64 (rt:Nat),.int .i64 0,.slice none 0 0,.slice none 0 0,.slice none 0 0,.string ⟨#[]⟩]]) ?_ rfl ⟨wa,wc,rfl,HRG.out,hwc,HBG.out⟩
    exact Bg (p:=4) (q:=5) rfl _ _ w.heap.size (w.heap.size+1) _ _ _ _ _ _ rfl rfl bg gg Tryz.underlying179 rfl (by kernel_rfl) Tryz.underlying85 rfl (by kernel_rfl)
theorem Dh (h:3+tot (fun k:ByteArray=>k.size+3) K≤250):K.length≤82:=by
 have key:∀ (l:List ByteArray),3 * l.length≤tot (fun k:ByteArray=>k.size+3) l:=by
  intro l
  induction l with
  | nil=>simp [tot]
  | cons x l ih =>
   simp only [tot,List.map_cons,List.sum_cons,jB] at ih ⊢
   omega
 have:=key K
 omega
theorem Yx {es:List En}  (he:cO es) (hr:cH cs) (hc:∀ c∈cs,c.key∈K) (hK:∀ x∈es,x.e.key∈K):(aX es cs).length≤K.length:=by
 have h1:=iW he hr
 have:=uW (l:=(aX es cs).map (fun x=>x.e.key)) (m:=K) (mA (by rw [List.pairwise_map];exact h1)) (fun x hx=>by
  obtain⟨y,hy,rfl⟩:=List.mem_map.1 hx
  rcases (dI he hr y).1 hy with⟨c,h1,_,rfl⟩|⟨h1,_⟩
  ·exact hc c h1
  ·exact hK y h1)
 rwa [List.length_map] at this
theorem Tl {ns:List NT} {n:NT} (h:n∈ns):n.ents0.length≤(cY ns).length:=by
 induction ns with
 | nil=>simp at h
 | cons m ns ih =>
  simp only [cY,List.flatMap_cons,jK]
  rcases List.mem_cons.1 h with rfl|h
  ·omega
  ·have:=ih h
   simp only [cY] at this
   omega
theorem qCq {fs:Fs} {o:Option (Nat×T)}  {fr:List Nat} (P:rR K n fs o cs fr):tY fs o cs:=by
 obtain⟨h1,h1'⟩:=mJ P.tree.rooted P.tree.flat P.rise P.good
 have h2:=nH P.tree.rooted P.tree.flat P.rise P.good P.keys P.tree.keys
 have h4:=h1.many h2
 have h5:=h1.count
 have h6:=Dh P.ksum
 have hs:=h1.size h2
 have hks:=P.ksum
 refine⟨fun m hm=>?_,by omega,by omega,P.good,by rw [← h1'];omega,?_⟩
 ·rcases (h2 m hm).1 with h|h
  ·rw [h];decide
  ·exact P.k24 _ h
 ·rintro p ks kids rfl
  have hst:bH fs 1 (.branch p ks kids) ⟨⟨#[]⟩,⟨#[]⟩⟩:=P.tree.rooted.2.2
  have hge:=sD P.tree.rooted P.tree.flat P.tree.root
  have htK:TIn K 1 (.branch p ks kids):=P.tree.keys
  obtain⟨hl,hp,hb,_,hall⟩:=fH hst
  have hmem:∀ x∈parts ⟨⟨#[]⟩,⟨#[]⟩⟩ ks kids,x.1∈kids:=fun x hx=>by
   have:x.1∈(parts ⟨⟨#[]⟩,⟨#[]⟩⟩ ks kids).map (·.1):=List.mem_map.2 ⟨x,hx,rfl⟩
   rwa [gO] at this
  have hplace:∀ x∈parts ⟨⟨#[]⟩,⟨#[]⟩⟩ ks kids,0<x.1.place:=fun x hx=>by
   have hs:=hall x hx
   obtain⟨t,s⟩:=x
   cases t with
   | branch=>exact hs.elim
   | leaf q es =>
    have:=hge q (by
     simp only [cI,T.pages,List.mem_cons,List.mem_flatMap]
     exact .inr ⟨_,hmem _ hx,by simp [T.pages]⟩)
    show 0<q
    omega
  have hpp:=kJ _ ks kids hl hp hb
  have hk:=fun x hx=>zV (x:=x.2) (t:=x.1) (hall x hx) P.rise P.good
  obtain⟨f1,f2⟩:=rJ (fun x=>eW x cs) (parts ⟨⟨#[]⟩,⟨#[]⟩⟩ ks kids) (fun x hx=>(hk x hx).1) hpp
  have hkept:∀ m∈(parts ⟨⟨#[]⟩,⟨#[]⟩⟩ ks kids).flatMap (fun x=>eW x cs),∀ t sp,m=.kept t sp→0<t.place:=by
   intro m hm t sp e
   obtain⟨x,hx,hm⟩:=List.mem_flatMap.1 hm
   have hpx:=hplace x hx
   obtain⟨t',s⟩:=x
   have hs:=hall _ hx
   cases t' with
   | branch=>exact hs.elim
   | leaf q es =>
    simp only [eW] at hm
    split at hm
    ·rw [List.mem_singleton] at hm
     rw [hm] at e
     cases e
     exact hpx
    ·exact nI (Q:=fun t=>0<t.place) m hm t sp e
  obtain⟨j1,j2⟩:=Hg f1
  have hN:iG iK ((parts ⟨⟨#[]⟩,⟨#[]⟩⟩ ks kids).flatMap (fun x=>eW x cs))=cM (some (1,.branch p ks kids)) cs:=rfl
  rw [hN] at j1 j2
  have hent:(cY ((parts ⟨⟨#[]⟩,⟨#[]⟩⟩ ks kids).flatMap (fun x=>eW x cs))).length≤82:=by rw [← j2];omega
  refine⟨hplace,fun x hx q es e=>?_,⟨⟨fun L=>Lst fs L∧cY L=cY ((parts ⟨⟨#[]⟩,⟨#[]⟩⟩ ks kids).flatMap (fun x=>eW x cs))∧∀ m∈L,∀ t sp,m=.kept t sp→0<t.place,⟨f1,rfl,hkept⟩,fun A l n B hL=>⟨hL.1.tog.1,hL.1.tog.2.trans hL.2.1,Kg hL.2.2⟩,fun L hL=>⟨?_,fun m hm=>⟨hL.1.ok m hm,fun t s e=>hL.2.2 m hm t s e,?_⟩⟩⟩,?_,fun m hm=>?_,?_⟩⟩
  ·have hs:=hall x hx
   rw [e] at hs
   have htx:=htK.2 x.1 (hmem x hx)
   rw [e] at htx
   have:=Yx (K:=K) (es:=es) (cs:=dV cs x.2) (dG (h:=0) hs) (iL P.rise x.2) (fun c hc=>P.keys c (jW.1 hc).1) htx
   omega
  ·have:=hL.1.count
   rw [hL.2.1] at this
   omega
  ·have:=Tl hm
   rw [hL.2.1] at this
   omega
  ·have:=f1.count
   omega
  ·rw [hN] at hm
   rcases (h2 m hm).1 with h|h
   ·rw [h];decide
   ·exact P.k24 _ h
  ·rw [hN];omega
theorem qDv {fs:Fs} {o:Option (Nat×T)}  {fr:List Nat} (P:rR K n fs o cs fr):Tw fs (cM o cs) fr:=by
 obtain⟨h1,h1'⟩:=mJ P.tree.rooted P.tree.flat P.rise P.good
 have h2:=nH P.tree.rooted P.tree.flat P.rise P.good P.keys P.tree.keys
 obtain⟨h3,h4⟩:=yA P.tree.rooted P.tree.flat P.rise P.good
 have hm:=h1.many h2
 have hc:=h1.count
 have h6:=Dh P.ksum
 have hen:=P.enough
 have hroom:=P.room
 have hp:=P.place
 unfold cJ at hen
 have hl:(bJ (cM o cs) fr).2.length≤fr.length:=vJ hen P.room
 have hge:=sD P.tree.rooted P.tree.flat P.tree.root
 obtain⟨k1,_⟩:=Gw h1 h2 P.k24 P.ksum h4 fr hl hp fr (fun m hm p hpp=>P.away p ((h3 m hm).1 p hpp))
 refine⟨fun m hm'=>⟨h1.ok m hm',fun t s e=>?_,?_⟩,by omega,hl,by omega,hp,k1,fun m hm=>?_⟩
 ·have:=eU (h4 m hm' t s e);omega
 ·have:=Tl hm';omega
 ·rcases (h2 m hm).1 with h|h
  ·rw [h];decide
  ·exact P.k24 _ h
def Fs.sureA (fs:Fs) (l:List (Nat×Pg)) (m:Nat) (mt:Pg):Bool×Fs:=if fs.life==0 then (false,fs) else fs.wrA (mZ l) m mt.encS
theorem Jw:∀ (l:List (Nat×Pg)) {fs:Fs},fs.well→fs.wrL (mZ l)=(true,fs.puts l)
 | [],fs,h=>by rw [Lc];rfl
 | y :: l,fs,h=>by
  show (if fs.chOk then _ else _)=_
  rw [(Fs.well_ok h).1,(Fs.well_ok h).2,if_pos rfl]
  refine(Jw l (Fs.well_put h y.1 y.2.encS)).trans ?_
  simp [Fs.puts,Fs.put]
theorem Aw {fs:Fs} (h:fs.well) (l:List (Nat×Pg)) (m:Nat) (mt:Pg):fs.sureA l m mt=(true,fs.made l m mt):=by
 have hS:∀ {f:Fs},f.well→f.wrS=f.synced:=fun hf=>by rw [Fs.wrS,(Fs.well_ok hf).1,(Fs.well_ok hf).2,if_pos rfl]
 have h1:=Fs.well_puts h l
 have h2:=Fs.well_synced h1
 have h3:=Fs.well_put h2 m mt.encS
 have hP:(fs.puts l).synced.wrP m mt.encS=(fs.puts l).synced.put m mt.encS:=by rw [Fs.wrP,(Fs.well_ok h2).1,(Fs.well_ok h2).2,if_pos rfl]
 rw [Fs.sureA,Fs.well_alive h,Fs.wrA,Jw l h]
 show (fs.puts l).wrE m mt.encS=_
 rw [Fs.wrE,hS h1,(Fs.well_ok h1).1,(Fs.well_ok h2).1,hP,(Fs.well_ok h3).1,hS h3]
 rfl
abbrev Db.sure (D:Db) (lv':Value) (fs':Fs) (v rt:Nat):Db:={ D with lv:=lv',fs:=fs',ver:=(v:Nat),root:=rt,aroot:=D.root,ka:=none,ia:=none,ea:=none,kc:=0,ic:=0,ec:=0 }
abbrev Db.made (D:Db) (lv':Value) (l:List (Nat×Pg)) (v rt:Nat):Db:={ D with lv:=lv',fs:=D.fs.made l (v % 2) (cG (v:Nat) (rt:Nat)),ver:=(v:Nat),root:=rt,aroot:=D.root,ka:=none,ia:=none,ea:=none,kc:=0,ic:=0,ec:=0 }
theorem Kr {w:World} {b:Nat} {x0 x1 x2 x3 x4 x5 x6 x7 x8 x9 x10 x11 x12 x13 x14:Value} {t:TypeId} (h:w.heap[b]?=some (.cells #[x0,x1,x2,x3,x4,x5,x6,x7,x8,x9,x10,x11,x12,x13,x14] t)) (v3 v4 v5 v6 v7 v8 v9 v10 v11:Value):(qBw (w.setCell ⟨b,11,none⟩ v11) b v3 v4 v5 v6 v7 v8 v9 v10).heap[b]?=some (.cells #[x0,x1,x2,v3,v4,v5,v6,v7,v8,v9,v10,v11,x12,x13,x14] t):=by
 have:=aF (aF (aF (aF (aF (aF (aF (aF (aF h 11 v11) 3 v3) 4 v4) 5 v5) 6 v6) 7 v7) 8 v8) 9 v9) 10 v10
 simpa using this
theorem Ph (w:World) (b:Nat) (v3 v4 v5 v6 v7 v8 v9 v10 v11:Value):Fr (Bl.one b) w (qBw (w.setCell ⟨b,11,none⟩ v11) b v3 v4 v5 v6 v7 v8 v9 v10) :=
 (((((((((Fr.refl (Bl.one b) w).setCell (p:=⟨b,11,none⟩) (.inl rfl) _).setCell (p:=⟨b,3,none⟩) (.inl rfl) _).setCell (p:=⟨b,4,none⟩) (.inl rfl) _).setCell (p:=⟨b,5,none⟩) (.inl rfl) _).setCell (p:=⟨b,6,none⟩) (.inl rfl) _).setCell (p:=⟨b,7,none⟩) (.inl rfl) _).setCell (p:=⟨b,8,none⟩) (.inl rfl) _).setCell (p:=⟨b,9,none⟩) (.inl rfl) _).setCell (p:=⟨b,10,none⟩) (.inl rfl) _
theorem Kl (D:Db) (st:Int) (v:Nat) (o ao:Option (Nat×T)) (ot:Tx→Option (Nat×T)) (ca:Option Addr) (cc:Nat) (cs:List Ch) (S:Bl) (w:World) (h:aM w st D) (hw:D.fs.dy) (hfd:D.failed=false) (hv:D.ver=v) (hv63:v+1<9223372036854775808) (hn:D.ts.length≤1000) (ST:lH K n D.fs v o ao) (h2:2≤n) (hr:D.root=rootOf o) (har:D.aroot=rootOf ao) (hts:∀ t∈D.ts,bI D.fs (rootOf (ot t)) (ot t)∧t.root=rootOf (ot t))
  (P:rR K n D.fs o cs (frD D o ao ot)) (hR:aH w S ca (cs.flatMap Ch.cells)) (hS:∀ b,S b→b<w.heap.size) (hcn:cs.length≤1000) (hc:cs.length≤cc) (hca:(ca=none∧cc=0)∨∃ b off,ca=some ⟨b,off,none⟩) (b:Bool) (fs':Fs) (hRR:D.fs.sureA (cJ o cs (frD D o ao ot)).2 ((v+1) % 2) (cG (v+1:Nat) (rootOf (cJ o cs (frD D o ao ot)).1:Nat))=(b,fs')) :
  Calls Tryz.prog 76 #[.pointer (some ⟨D.d,0,none⟩),.slice ca cs.length cc] w fun e w'=>e=.returned (.bool b)∧∃ lv',aM w' st (if b then D.sure lv' fs' (v+1) (rootOf (cJ o cs (frD D o ao ot)).1) else { D with lv:=lv',fs:=fs' })∧Fr (fun k=>k=D.d∨fpF D.β D.sv D.lv k) w w'∧aI w (fpF D.β D.sv D.lv) (fpF D.β D.sv lv'):=by
 cases hal:D.fs.life==0
 case true =>
  rw [Fs.sureA,hal,if_pos rfl] at hRR
  obtain⟨rfl,rfl⟩:=Prod.mk.inj hRR
  have hDe:=rM D.β D.sv D.lv D.fs w h.file
  rw [hal] at hDe
  obtain⟨a0,a1,a2,a3,a4,a5,a6,a7,a8,a9,a10,a11,a12,a13,a14⟩:=eQ h.box
  have H:Hid (aM w st D):=h
  clear h hRR P ST hts hR hv hr har hfd
  go_enter Tryz.func76,Tryz.ntmps76
  go_wp2_with (go_at_call 61;(with_reducible refine jC hDe ?_);rintro e w' ⟨rfl,hw'⟩;subst w')
  go_ret
  exact⟨rfl,D.lv,H.out,Fr.refl _ _,aI.refl _ _⟩
 case false =>
 rw [Fs.sureA,hal,if_neg (by decide)] at hRR
 have hDe:=rM D.β D.sv D.lv D.fs w h.file
 rw [hal] at hDe
 have hlen:D.fs.safe.length=n:=ST.len
 have hm0:kY D.fs (v % 2) v D.root:=hr▸ST.meta0
 have hPl:=Wv D st v o ao ot ca cc cs S w h hv hv63 hn hal (by omega) hm0 ST.sure.rooted hr ST.sure.flat ST.ahead.rooted har hts hR hS P.rise hcn hc hca (qCq P) (qDv P)
 obtain⟨c1,c2,c3,_,_⟩:=qA ST P hv63 h2
 have hr2:=c1.sure.root
 obtain⟨fr,hfr⟩:=nM (frD D o ao ot)
 rw [hfr] at hPl P c2 c3 hr2 hRR ⊢
 have hen:=P.enough
 have hks:=Dh P.ksum
 have hlp:∀ y∈(cJ o cs fr).2,y.1<D.fs.safe.length:=fun y hy=>by
  have:y.1∈(cJ o cs fr).2.map (·.1):=List.mem_map.2 ⟨y,hy,rfl⟩
  rw [c3] at this
  have:=P.free _ (List.mem_of_mem_take this)
  omega
 obtain⟨rt,hrt⟩:=nM (rootOf (cJ o cs fr).1)
 obtain⟨l,hll⟩:=nM ((cJ o cs fr).2)
 rw [hrt,hll] at hPl hRR
 rw [hrt]
 rw [hrt] at hr2
 rw [hll] at c2 hen hlp
 have hmE:(cG ((v+1:Nat):Int) (rt:Nat)).encE=0:=Dj (v+1:Nat) rt (by omega) (hr2.imp (fun h=>by rw [h];rfl) id)
 obtain⟨a0,a1,a2,a3,a4,a5,a6,a7,a8,a9,a10,a11,a12,a13,a14⟩:=eQ h.box
 have dlt:=(gL h.box)
 have HW:Hid (∀ X wa wc,Below w.heap.size w X→aH X (New w X) wa ((l.map enc1).flatMap dE)→l.length≤wc→Calls Tryz.prog 108 #[.pointer (some ⟨D.d,0,none⟩),.agg #[.int .i64 (rt:Nat),.slice wa l.length wc],.agg #[.int .i64 1,.int .i64 ((v:Int)+1),.int .i64 (rt:Nat),.int .i64 0,.slice none 0 0,.slice none 0 0,.slice none 0 0,.string ⟨#[]⟩]] X fun e w'=>e=.returned (.bool b)∧∃ lv',aM w' st { D with lv:=lv',fs:=fs' }∧Fr (fpF D.β D.sv D.lv) X w'∧aI X (fpF D.β D.sv D.lv) (fpF D.β D.sv lv')):=fun X wa wc hX hRX hwc=>by
  have hDX:=h.on (vV hX h.lies)
  exact qDt D st l ⟨0,v+1,rt,none,none,none,0,0,0⟩ rt wa wc (New w X) X hDX hw ST.late hRX (fun k hk=>⟨hk.2,fun e=>by have:=h.file.lies k e;have:=hk.1;omega⟩) hwc (by omega) c2 hlp hmE (Cc _ _) (by omega) (b,fs') hRR
 rw [hfd] at a12
 have HFX:Hid (∀ X,Below w.heap.size w X→X.cell? ⟨D.d,2,none⟩=some (.pointer (some ⟨D.β,0,none⟩))∧X.cell? ⟨D.d,12,none⟩=some (.bool false)):=fun X hX=>by
  have hDX:=h.on (vV hX h.lies)
  obtain⟨a0,a1,a2,a3,a4,a5,a6,a7,a8,a9,a10,a11,a12,a13,a14⟩:=eQ hDX.box
  rw [hfd] at a12
  exact⟨a2,a12⟩
 have HNF:Hid (∀ k,w.heap.size≤k→¬ fpF D.β D.sv D.lv k):=fun k hk e=>by have:=h.file.lies k e;omega
 have HND:Hid (¬ fpF D.β D.sv D.lv D.d):=h.noFile
 clear hfd hRR hfr hrt hll P ST hts hR hw c1 c2 c3 hmE hen hlp h hr har hv hlen hks a0 a1 a3 a4 a5 a6 a7 a8 a9 a10 a11 a13 a14 hm0
 go_enter Tryz.func76,Tryz.ntmps76
 cases b
 all_goals go_wp2_with (first
  | (go_at_call 61;(with_reducible refine jC hDe ?_);rintro e w' ⟨rfl,hw'⟩;subst w')
  | (go_at_call 107;(with_reducible refine jC hPl ?_);rintro e X1 ⟨wa,wc,rfl,hRX,hwc,hX1⟩;have zX1:=hX1.size;have B2:Below w.heap.size w ((X1.alloc (gJ (rt:Nat) (.slice wa l.length wc))).alloc (Bo ((v:Int)+1) (rt:Nat))):=(hX1.alloc zX1 _).alloc (by simp;omega) _;have b2:((X1.alloc (gJ (rt:Nat) (.slice wa l.length wc))).alloc (Bo ((v:Int)+1) (rt:Nat))).heap[X1.heap.size]?=some (gJ (rt:Nat) (.slice wa l.length wc)):=aB _ (aA X1 _);have g2:((X1.alloc (gJ (rt:Nat) (.slice wa l.length wc))).alloc (Bo ((v:Int)+1) (rt:Nat))).heap[X1.heap.size+1]?=some (Bo ((v:Int)+1) (rt:Nat)):=(by have:=aA (X1.alloc (gJ (rt:Nat) (.slice wa l.length wc))) (Bo ((v:Int)+1) (rt:Nat));simpa using this);obtain⟨k2,k12⟩:=HFX.out _ B2;obtain⟨q0,q1⟩:=bU b2;obtain⟨r0,r1,r2,r3,r4,r5,r6,r7⟩:=bM g2;have hWr:=HW.out ((X1.alloc (gJ (rt:Nat) (.slice wa l.length wc))).alloc (Bo ((v:Int)+1) (rt:Nat))) wa wc B2 ((hRX.on (((On.refl (New w X1) X1).alloc (fun k hk=>hk.2) _).alloc (fun k hk=>by have:=hk.2;simp;omega) _)).mono (fun k hk=>⟨hk.1,by have:=hk.2;simp;omega⟩)) hwc)
  | (go_at_call 108;(with_reducible refine jC hWr ?_);rintro e X3 ⟨rfl,lv',hD3,hF3,hG3⟩;obtain⟨a0,a1,a2,a3,a4,a5,a6,a7,a8,a9,a10,a11,a12,a13,a14⟩:=eQ hD3.box;have afr:=aD hD3.box;have g3:=hF3.heap g2 (HNF.out _ (by omega));obtain⟨r0,r1,r2,r3,r4,r5,r6,r7⟩:=bM g3))
 ·go_ret
  exact⟨rfl,lv',hD3,(Fr.of_below B2).trans (hF3.mono (fun k hk=>.inl (.inr hk))),fun k hk=>(hG3 k hk).imp id (fun h=>by have:=B2.size;omega)⟩
 have hfn:¬ fpF D.β D.sv D.lv D.d:=HND.out
 have HBX:=Kr hD3.box (.int .i64 1) (.int .i64 ((v:Int)+1)) (.int .i64 (rt:Nat)) (.int .i64 0) (.slice none 0 0) (.slice none 0 0) (.slice none 0 0) (.string ⟨#[]⟩) (.int .i64 D.root)
 have HFX8:=Ph X3 D.d (.int .i64 1) (.int .i64 ((v:Int)+1)) (.int .i64 (rt:Nat)) (.int .i64 0) (.slice none 0 0) (.slice none 0 0) (.slice none 0 0) (.string ⟨#[]⟩) (.int .i64 D.root)
 have hDf:aM _ st (D.sure lv' fs' (v+1) rt):=hD3.rebox (D':=D.sure lv' fs' (v+1) rt) HFX8 rfl rfl rfl rfl rfl rfl rfl HBX
 go_ret
 refine⟨rfl,lv',hDf,?_,fun k hk=>(hG3 k hk).imp id (fun h=>by have:=B2.size;omega)⟩
 exact((Fr.of_below B2).trans (hF3.mono (fun k hk=>.inl (.inr hk)))).trans (HFX8.mono (fun k hk=>.inl (.inl hk)))
theorem Xv (D:Db) (st:Int) (v:Nat) (o ao:Option (Nat×T)) (ot:Tx→Option (Nat×T)) (ca:Option Addr) (cc:Nat) (cs:List Ch) (S:Bl) (w:World) (h:aM w st D) (hw:D.fs.well) (hfd:D.failed=false) (hv:D.ver=v) (hv63:v+1<9223372036854775808) (hn:D.ts.length≤1000) (ST:lH K n D.fs v o ao) (h2:2≤n) (hr:D.root=rootOf o) (har:D.aroot=rootOf ao) (hts:∀ t∈D.ts,bI D.fs (rootOf (ot t)) (ot t)∧t.root=rootOf (ot t))
  (P:rR K n D.fs o cs (frD D o ao ot)) (hR:aH w S ca (cs.flatMap Ch.cells)) (hS:∀ b,S b→b<w.heap.size) (hcn:cs.length≤1000) (hc:cs.length≤cc) (hca:(ca=none∧cc=0)∨∃ b off,ca=some ⟨b,off,none⟩) :
  Calls Tryz.prog 76 #[.pointer (some ⟨D.d,0,none⟩),.slice ca cs.length cc] w fun e w'=>e=.returned (.bool true)∧∃ lv',aM w' st (D.made lv' (cJ o cs (frD D o ao ot)).2 (v+1) (rootOf (cJ o cs (frD D o ao ot)).1))∧Fr (fun k=>k=D.d∨fpF D.β D.sv D.lv k) w w'∧aI w (fpF D.β D.sv D.lv) (fpF D.β D.sv lv') :=
 Kl D st v o ao ot ca cc cs S w h (Fs.well_dy hw) hfd hv hv63 hn ST h2 hr har hts P hR hS hcn hc hca true _ (Aw hw _ _ _)
abbrev Db.drop (D:Db) (i g c:Nat):Db:={ D with ov:=.slice (some ⟨g,0,none⟩) (D.ts.length-1) c,ts:=D.ts.eraseIdx i }
theorem Mu {D:Db} {i g c:Nat} (hov:D.ov=.slice (some ⟨g,0,none⟩) D.ts.length c):∀ k,fpD (D.drop i g c) k→fpD D k:=by
 rintro k (hk|hk|hk|⟨y,hy,hk⟩)
 ·exact .inl hk
 ·exact .inr (.inl hk)
 ·have hk':(Value.slice (some ⟨g,0,none⟩) (D.ts.length-1) c).ownBlock=some k:=hk
  exact .inr (.inr (.inl (by rw [hov];exact hk')))
 ·exact .inr (.inr (.inr ⟨y,List.mem_of_mem_eraseIdx hy,hk⟩))
theorem qFf (D:Db) (x:Int) (i:Nat) (t:Tx) (b0 b1:Nat) (w:World) (h:aM w 1 D) (hn:D.ts.length≤1000) (hi:i<D.ts.length) (ht:D.ts[i]=t) (hidx:kS D.ts x=i) (R:Int→Db→Prop)
  (hco:∀ X g c,D.ov=.slice (some ⟨g,0,none⟩) D.ts.length c→aM X 1 (D.drop i g c)→eF X D.β t→Calls Tryz.prog 51 #[.pointer (some ⟨D.d,0,none⟩),.pointer (some ⟨t.b,0,none⟩)] X fun e w'=>∃ z D',e=.returned (.int .i64 z)∧aM w' 1 D'∧D'.d=D.d∧Fr (fpD (D.drop i g c)) X w'∧aI X (fpD (D.drop i g c)) (fpD D')∧R z D')
  (x0:w.heap[b0]?=some (.cells #[.pointer (some ⟨D.d,0,none⟩)] 23)) (x1:w.heap[b1]?=some (.cells #[.int .i64 x] 3)) :
  Calls Tryz.prog 50 #[.pointer (some ⟨b0,0,none⟩),.pointer (some ⟨b1,0,none⟩)] w fun e w'=>∃ z D',e=.returned (.int .i64 z)∧aM w' 1 D'∧D'.d=D.d∧Fr (fpD D) w w'∧aI w (fpD D) (fpD D')∧R z D':=by
 have hEn:=Tm D 1 x i t w h (by omega) hi ht hidx
 have HCO:Hid (∀ X g c,D.ov=.slice (some ⟨g,0,none⟩) D.ts.length c→aM X 1 (D.drop i g c)→eF X D.β t→Calls Tryz.prog 51 #[.pointer (some ⟨D.d,0,none⟩),.pointer (some ⟨t.b,0,none⟩)] X fun e w'=>∃ z D',e=.returned (.int .i64 z)∧aM w' 1 D'∧D'.d=D.d∧Fr (fpD (D.drop i g c)) X w'∧aI X (fpD (D.drop i g c)) (fpD D')∧R z D'):=hco
 have HBX:Hid (∀ X,Fr (fun k=>k=D.d∨D.ov.ownBlock=some k) w X→X.cell? ⟨b0,0,none⟩=some (.pointer (some ⟨D.d,0,none⟩))):=fun X hX=>bF (hX.heap x0 (fun e=>by
  rcases e with e|e
  ·have:=h.box;rw [← e,x0] at this;simp at this
  ·exact bD h.row x0 (by decide) e))
 have c0:=bF x0
 have c1:=bF x1
 clear h x0 x1 hidx hco ht hi
 go_enter Tryz.func50,Tryz.ntmps50
 go_wp2_with (first
  | (go_at_call 42;(with_reducible refine jC hEn ?_);rintro e X1 ⟨rfl,g,c,hov,hD1,hT1,hF1⟩;have F1:Fr (fun k=>k=D.d∨D.ov.ownBlock=some k) w X1:=⟨hF1.os,hF1.tape,hF1.output,hF1.size,fun k hk hn=>hF1.block k hk (fun e=>hn (e.imp id (fun h=>by rw [hov,h];rfl)))⟩;have c0':=HBX.out X1 F1;have hCo:=HCO.out X1 g c hov hD1 hT1;have HOV:Hid (D.ov=.slice (some ⟨g,0,none⟩) D.ts.length c):=hov;clear hov)
  | (go_at_call 51;(with_reducible refine jC hCo ?_);rintro e X2 ⟨z,D',rfl,hD2,hd2,hF2,hG2,hR2⟩;have HD2:Hid (aM X2 1 D'):=hD2;have HR2:Hid (R z D'):=hR2;have HE2:Hid (D'.d=D.d):=hd2;clear hD2 hR2 hd2))
 go_ret
 have hsub:=Mu (i:=i) HOV.out
 refine⟨z,D',rfl,HD2.out,HE2.out,?_,fun k hk=>?_,HR2.out⟩
 ·exact(F1.mono (fun k hk=>.inl (by rcases hk with hk|hk;exact .inl hk;exact .inr (.inr (.inl hk))))).trans (hF2.mono (fun k hk=>.inl (hsub k hk)))
 ·exact(hG2 k hk).imp (hsub k) (fun h=>vJ F1.size h)
theorem qEl (D:Db) (x:Int) (i:Nat) (t:Tx) (w:World) (h:aM w 0 D) (hn:D.ts.length≤1000) (hi:i<D.ts.length) (ht:D.ts[i]=t) (hidx:kS D.ts x=i) (R:Int→Db→Prop)
  (hco:∀ X g c,D.ov=.slice (some ⟨g,0,none⟩) D.ts.length c→aM X 1 (D.drop i g c)→eF X D.β t→Calls Tryz.prog 51 #[.pointer (some ⟨D.d,0,none⟩),.pointer (some ⟨t.b,0,none⟩)] X fun e w'=>∃ z D',e=.returned (.int .i64 z)∧aM w' 1 D'∧D'.d=D.d∧Fr (fpD (D.drop i g c)) X w'∧aI X (fpD (D.drop i g c)) (fpD D')∧R z D') :
  Calls Tryz.prog 26 #[.pointer (some ⟨D.d,0,none⟩),.int .i64 x] w fun e w'=>∃ z D',e=.returned (.int .i64 z)∧aM w' 0 D'∧D'.d=D.d∧Fr (fpD D) w w'∧aI w (fpD D) (fpD D')∧R z D':=by
 obtain⟨W1,hW1⟩:=nM ((w.alloc (.cells #[.pointer (some ⟨D.d,0,none⟩)] 23)).alloc (.cells #[.int .i64 x] 3))
 have B1:Below w.heap.size w W1:=hW1▸(bA _ _).alloc (by simp) _
 have x0:W1.heap[w.heap.size]?=some (.cells #[.pointer (some ⟨D.d,0,none⟩)] 23):=hW1▸aB _ (aA w _)
 have x1:W1.heap[w.heap.size+1]?=some (.cells #[.int .i64 x] 3):=by
  rw [← hW1];have:=aA (w.alloc (.cells #[.pointer (some ⟨D.d,0,none⟩)] 23)) (.cells #[.int .i64 x] 3);simpa using this
 have h1:aM W1 0 D:=h.on (vV B1 h.lies)
 have dlt:=(gL h.box)
 have c0:=bF x0
 have hFc:=Ae D 50 #[] #[.pointer (some ⟨w.heap.size,0,none⟩),.pointer (some ⟨w.heap.size+1,0,none⟩)] (enters_of Tryz.func50 (by kernel_rfl) rfl) W1 h1 R (by
  intro W0 hD0 hF0 hs0
  have nd:∀ k,w.heap.size≤k→¬ Bl.one D.d k:=fun k hk e=>by simp only [Bl.one] at e;omega
  exact qFf D x i t _ _ W0 hD0 hn hi ht hidx R hco (hF0.heap x0 (nd _ (by omega))) (hF0.heap x1 (nd _ (by omega))))
 clear x0 x1 hco
 go_enter Tryz.func26,Tryz.ntmps26
 go_wp2_with (go_at_call 35;(with_reducible refine jC hFc ?_);rintro e X ⟨z,D',rfl,hD',hd',hF',hG',hR⟩;have HD':Hid (aM X 0 D'):=hD';have HR':Hid (R z D'):=hR;have HE':Hid (D'.d=D.d):=hd';clear hD' hR hd')
 go_ret
 exact⟨z,D',rfl,HD'.out,HE'.out,(Fr.of_below B1).trans hF',fun k hk=>(hG' k hk).imp id (fun h=>vJ B1.size h),HR'.out⟩
theorem qFe (D:Db) (x:Int) (t:Tx) (w:World) (h:aM w 0 D) (hts:D.ts=[t]) (hx:t.num=x) (R:Int→Db→Prop)
  (hco:∀ X g c,D.ov=.slice (some ⟨g,0,none⟩) 1 c→aM X 1 { D with ov:=.slice (some ⟨g,0,none⟩) 0 c,ts:=[] }→eF X D.β t→Calls Tryz.prog 51 #[.pointer (some ⟨D.d,0,none⟩),.pointer (some ⟨t.b,0,none⟩)] X fun e w'=>∃ z D',e=.returned (.int .i64 z)∧aM w' 1 D'∧D'.d=D.d∧D'.β=D.β∧D'.sv=D.sv∧D'.ov=.slice (some ⟨g,0,none⟩) 0 c∧D'.ts=[]∧Fr (fun k=>k=D.d∨fpF D.β D.sv D.lv k) X w'∧aI X (fpF D.β D.sv D.lv) (fpF D.β D.sv D'.lv)∧R z D') :
  Calls Tryz.prog 26 #[.pointer (some ⟨D.d,0,none⟩),.int .i64 x] w fun e w'=>∃ z D',e=.returned (.int .i64 z)∧aM w' 0 D'∧D'.d=D.d∧Fr (fpD D) w w'∧aI w (fpD D) (fpD D')∧R z D':=by
 have e1:D.ts.length=1:=by rw [hts];rfl
 have hdr:∀ g c,D.drop 0 g c = { D with ov:=.slice (some ⟨g,0,none⟩) 0 c,ts:=[] }:=fun g c=>by simp [Db.drop,hts]
 refine qEl D x 0 t w h (by omega) (by omega) (by simp [hts]) (by rw [hts];exact iQ (j:=0) (by simp) (by simp [hx]) (fun m hm h=>by omega)) R (fun X g c hov hX hTX=>?_)
 rw [e1] at hov
 rw [hdr] at hX
 refine(hco X g c hov hX hTX).mono ?_
 rintro e w' ⟨z,D',rfl,hD,q1,q2,q3,q4,q5,hF,hG,hR⟩
 refine⟨z,D',rfl,hD,q1,hF.mono (fun k hk=>.inl ?_),?_,hR⟩
 ·exact hk.imp id (fun h=>.inl h)
 ·rintro k (hk|hk|hk|⟨y,hy,hk⟩)
  ·exact .inl (.inl (hk.trans q1))
  ·rw [q2,q3] at hk
   exact(hG k hk).imp (fun h=>.inr (.inl h)) id
  ·rw [q4] at hk
   rw [hdr]
   exact .inl (.inr (.inr (.inl hk)))
  ·rw [q5] at hy;simp at hy
abbrev noT:Tx→Option (Nat×T):=fun _=>none
abbrev Db.done (D:Db) (lv':Value) (b:Bool) (fs':Fs) (v rt:Nat):Db:=if b then D.sure lv' fs' v rt else { D with lv:=lv',fs:=fs',failed:=true }
theorem qAv (D:Db) (st:Int) (v:Nat) (o ao:Option (Nat×T)) (t:Tx) (w:World) (h:aM w st D) (hT:eF w D.β t) (hts:D.ts=[]) (hne:0<t.cs.length) (hks:t.ks=[]) (hcn:t.cs.length≤1000) (hw:D.fs.dy) (hfd:D.failed=false) (hv:D.ver=v) (hv63:v+1<9223372036854775808) (ST:lH K n D.fs v o ao) (h2:2≤n) (hr:D.root=rootOf o) (har:D.aroot=rootOf ao) (P:rR K n D.fs o t.cs (frD D o ao noT)) (b:Bool) (fs':Fs) (hRR:D.fs.sureA (cJ o t.cs (frD D o ao noT)).2 ((v+1) % 2) (cG (v+1:Nat) (rootOf (cJ o t.cs (frD D o ao noT)).1:Nat))=(b,fs')) :
  Calls Tryz.prog 51 #[.pointer (some ⟨D.d,0,none⟩),.pointer (some ⟨t.b,0,none⟩)] w fun e w'=>e=.returned (.int .i64 (if b then 0 else 9))∧∃ lv',aM w' st (D.done lv' b fs' (v+1) (rootOf (cJ o t.cs (frD D o ao noT)).1))∧Fr (fun k=>k=D.d∨fpF D.β D.sv D.lv k) w w'∧aI w (fpF D.β D.sv D.lv) (fpF D.β D.sv lv'):=by
 have hCf:=rO D.β t w hT (by omega) (by rw [hks];simp)
 obtain⟨rt,hrt⟩:=nM (rootOf (cJ o t.cs (frD D o ao noT)).1)
 have HMS:Hid (∀ X,Below w.heap.size w X→Calls Tryz.prog 76 #[.pointer (some ⟨D.d,0,none⟩),.slice t.ca t.cs.length t.cc] X fun e w'=>e=.returned (.bool b)∧∃ lv',aM w' st (if b then D.sure lv' fs' (v+1) rt else { D with lv:=lv',fs:=fs' })∧Fr (fun k=>k=D.d∨fpF D.β D.sv D.lv k) X w'∧aI X (fpF D.β D.sv D.lv) (fpF D.β D.sv lv')):=fun X hX=>by
  have hDX:=h.on (vV hX h.lies)
  have hTX:=hT.on (vV hX hT.lies)
  obtain⟨a0,c0,he,hcc,hrow⟩:=cP hTX.row
  simp only [Tx.cv,Value.slice.injEq,true_and] at he
  obtain⟨e1,e2⟩:=he
  subst e1 e2
  have:=Kl D st v o ao noT t.ca t.cc t.cs (fun k=>t.cv.ownBlock=some k) X hDX hw hfd hv hv63 (by rw [hts];simp) ST h2 hr har (by rw [hts];simp) P hrow (fun k hk=>aQ hTX.row hk) hcn hcc (by
   rcases iD hTX.row with⟨h3,h4,_⟩|⟨g,c,cur,h3,_⟩
   ·simp only [Tx.cv,Value.slice.injEq] at h3;exact .inl ⟨h3.1,h3.2.2⟩
   ·simp only [Tx.cv,Value.slice.injEq] at h3;exact .inr ⟨g,0,h3.1⟩) b fs' hRR
  rw [hrt] at this
  exact this
 rw [hrt]
 have hD0:=(rQ hT.box).2.2.2.2.1
 have hni:¬ ((t.cs.length:Int)=0):=by omega
 have HTS:Hid (D.ts=[]):=hts
 have HOV:Hid (∀ X lv',aM X st (D.sure lv' fs' (v+1) rt)→∃ ova ovc,D.ov=.slice ova 0 ovc∧X.cell? ⟨D.d,14,none⟩=some (.slice ova 0 ovc)):=fun X lv' hX=>by
  obtain⟨a0,a1,a2,a3,a4,a5,a6,a7,a8,a9,a10,a11,a12,a13,a14⟩:=eQ hX.box
  have hr:=hX.row
  have e:(D.sure lv' fs' (v+1) rt).ts.length=0:=by show D.ts.length=0;rw [HTS.out];rfl
  rw [e] at hr
  obtain⟨ova,ovc,he⟩:=aO hr
  have he':D.ov=.slice ova 0 ovc:=he
  exact⟨ova,ovc,he',by rw [← he'];exact a14⟩
 clear hRR hrt P ST hw hT h hts hv hr har hfd
 cases b
 ·go_enter Tryz.func51,Tryz.ntmps51
  go_wp2_with (first
   | (go_at_call 75;(with_reducible refine jC hCf ?_);rintro e X1 ⟨rfl,hX1⟩;have hMS:=HMS.out X1 hX1)
   | (go_at_call 76;(with_reducible refine jC hMS ?_);rintro e X2 ⟨rfl,lv',hDx,hF2,hG2⟩;have hD2:aM X2 st { D with lv:=lv',fs:=fs' }:=hDx;clear hDx;obtain⟨a0,a1,a2,a3,a4,a5,a6,a7,a8,a9,a10,a11,a12,a13,a14⟩:=eQ hD2.box;have afr:=aD hD2.box))
  have HBX:=aF hD2.box 12 (.bool true)
  have HFX:Fr (Bl.one D.d) X2 (X2.setCell ⟨D.d,12,none⟩ (.bool true)):=(Fr.refl (Bl.one D.d) X2).setCell (p:=⟨D.d,12,none⟩) (.inl rfl) _
  have hDf:aM _ st { D with lv:=lv',fs:=fs',failed:=true }:=hD2.rebox (D':={ D with lv:=lv',fs:=fs',failed:=true }) HFX rfl rfl rfl rfl rfl rfl rfl (by simpa using HBX)
  go_ret
  exact⟨rfl,lv',hDf,(Fr.of_below hX1).trans (hF2.trans (HFX.mono (fun k hk=>.inl (.inl hk)))),fun k hk=>(hG2 k hk).imp id (fun h=>vJ hX1.size h)⟩
 go_enter Tryz.func51,Tryz.ntmps51
 go_wp2_with (first
  | (go_at_call 75;(with_reducible refine jC hCf ?_);rintro e X1 ⟨rfl,hX1⟩;have hMS:=HMS.out X1 hX1)
  | (go_at_call 76;(with_reducible refine jC hMS ?_);rintro e X2 ⟨rfl,lv',hD2,hF2,hG2⟩;obtain⟨ova,ovc,hov,c14⟩:=HOV.out X2 lv' hD2))
 go_loopw [30] (fun i wq=>i=.int .i64 0∧wq=X2) (fun _ _=>0)
 case atStart=>exact⟨rfl,rfl⟩
 case round =>
  obtain⟨rfl,hwr⟩:=hrel
  subst hwr
  go_wp2
  go_ret
  exact⟨rfl,lv',hD2,(Fr.of_below hX1).trans hF2,fun k hk=>(hG2 k hk).imp id (fun h=>vJ hX1.size h)⟩
theorem Rp (D:Db) (st:Int) (v:Nat) (o ao:Option (Nat×T)) (t:Tx) (w:World) (h:aM w st D) (hT:eF w D.β t) (hts:D.ts=[]) (hne:0<t.cs.length) (hks:t.ks=[]) (hcn:t.cs.length≤1000) (hw:D.fs.well) (hfd:D.failed=false) (hv:D.ver=v) (hv63:v+1<9223372036854775808) (ST:lH K n D.fs v o ao) (h2:2≤n) (hr:D.root=rootOf o) (har:D.aroot=rootOf ao) (P:rR K n D.fs o t.cs (frD D o ao noT)) :
  Calls Tryz.prog 51 #[.pointer (some ⟨D.d,0,none⟩),.pointer (some ⟨t.b,0,none⟩)] w fun e w'=>e=.returned (.int .i64 0)∧∃ lv',aM w' st (D.made lv' (cJ o t.cs (frD D o ao noT)).2 (v+1) (rootOf (cJ o t.cs (frD D o ao noT)).1))∧Fr (fun k=>k=D.d∨fpF D.β D.sv D.lv k) w w'∧aI w (fpF D.β D.sv D.lv) (fpF D.β D.sv lv') :=
 qAv D st v o ao t w h hT hts hne hks hcn (Fs.well_dy hw) hfd hv hv63 ST h2 hr har P true _ (Aw hw _ _ _)
def qFq (D:Db) (v:Nat) (l:List (Nat×Pg)) (rt:Nat) (z:Int) (D':Db):Prop:=z=0∧∃ g c lv',D.ov=.slice (some ⟨g,0,none⟩) 1 c∧D'=({ D with ov:=.slice (some ⟨g,0,none⟩) 0 c,ts:=[] }:Db).made lv' l (v+1) rt
theorem qCx (D:Db) (x:Int) (v:Nat) (o ao:Option (Nat×T)) (t:Tx) (w:World) (h:aM w 0 D) (hts:D.ts=[t]) (hx:t.num=x) (hne:0<t.cs.length) (hks:t.ks=[]) (hcn:t.cs.length≤1000) (hw:D.fs.well) (hfd:D.failed=false) (hv:D.ver=v) (hv63:v+1<9223372036854775808) (ST:lH K n D.fs v o ao) (h2:2≤n) (hr:D.root=rootOf o) (har:D.aroot=rootOf ao) (P:rR K n D.fs o t.cs (fU D.fs.safe.length (dZ [o,ao]))) :
  Calls Tryz.prog 26 #[.pointer (some ⟨D.d,0,none⟩),.int .i64 x] w fun e w'=>∃ z D',e=.returned (.int .i64 z)∧aM w' 0 D'∧D'.d=D.d∧Fr (fpD D) w w'∧aI w (fpD D) (fpD D')∧qFq D v (cJ o t.cs (fU D.fs.safe.length (dZ [o,ao]))).2 (rootOf (cJ o t.cs (fU D.fs.safe.length (dZ [o,ao]))).1) z D':=by
 refine qFe D x t w h hts hx _ (fun X g c hov hX hTX=>?_)
 refine(Rp (K:=K) (n:=n) _ 1 v o ao t X hX hTX rfl hne hks hcn hw hfd hv hv63 ST h2 hr har P).mono ?_
 rintro e w' ⟨rfl,lv',hD,hF,hG⟩
 exact⟨0,_,rfl,hD,rfl,rfl,rfl,rfl,rfl,hF,hG,rfl,g,c,lv',hov,rfl⟩
open Go.Shelf
attribute [local go_sem] Oper.semAt_some
theorem oB {P:Program} {fn:Func} {p q:Tmp} {ty ty':TypeId} (h:fn.results=#[.cell p ty,.cell q ty']) (tmps:Array Value) (w:World) (g g':Nat) (t t':TypeId) (cs:Array Value) (v:Value) (d:TypeDesc)
  (hp:tmps.getD p undef=.pointer (some ⟨g,0,none⟩)) (hq:tmps.getD q undef=.pointer (some ⟨g',0,none⟩)) (hg:w.heap[g]?=some (.cells cs t)) (hg':w.heap[g']?=some (.cells #[v] t'))
  (hu:P.underlying ty=some d) (hd:(match d with|.struct _|.array _ _=>true|_=>false)=true) (hi:(P.info? ty).map (·.size)=some cs.size) (hu':∀ w,(isAgg ty').run P w=.ok false w) :
  (results fn tmps).run P w=.ok (.tuple #[.agg cs,v]) w:=by
 have hp':tmps[p]?.getD undef=.pointer (some ⟨g,0,none⟩):=by simpa using hp
 have hq':tmps[q]?.getD undef=.pointer (some ⟨g',0,none⟩):=by simpa using hq
 have c0:w.cell? ⟨g',0,none⟩=some v:=by simp [World.cell?,hg']
 have h2:(loadVar ty' ⟨g',0,none⟩).run P w=.ok v w:=by
  simp [loadVar,hu',go_sem,c0]
 simp [results,h,hp',hq',asAddr,run_loadVar_row w g t ty cs (0,0) d hg hu hd hi,h2]
abbrev mY:Obj:=.cells #[.string ⟨#[]⟩,.string ⟨#[]⟩,.int .i64 0,.int .i64 0] 108
abbrev pB (b:Bool):Obj:=.cells #[.bool b] 4
theorem yV {w:World} {β:Nat} {a0 a1 a2 a3:Value} {t:TypeId} (h:w.heap[β]?=some (.cells #[a0,a1,a2,a3] t)):w.cell? ⟨β,0,none⟩=some a0∧w.cell? ⟨β,1,none⟩=some a1∧w.cell? ⟨β,2,none⟩=some a2∧w.cell? ⟨β,3,none⟩=some a3:=by
 simp [World.cell?,h]
theorem qAe (β:Nat) (root:Int) (ca:Option Addr) (cc:Nat) (cs:List Ch) (key:ByteArray) (S:Bl) (w:World) (hR:aH w S ca (cs.flatMap Ch.cells)) (hS:∀ b,S b→b<w.heap.size) (hr:cH cs) (hn:cs.length≤1000) (hc:cs.length≤cc) (hf:fnd cs key=true) (i:Nat) (hi:cS cs key=i) (hil:i<cs.length) (c:Ch) (hci:cs[i]=c) :
  Calls Tryz.prog 49 #[.agg #[.pointer (some ⟨β,0,none⟩),.int .i64 root,.slice ca cs.length cc],.string key] w fun e w'=>e=.returned (.tuple #[.agg #[.string c.key,.string c.val,.int .i64 c.val.size,.int .i64 0],.bool (!c.gone)])∧Below w.heap.size w w':=by
 obtain⟨W1,hW1⟩:=nM (((w.alloc (.cells #[.pointer (some ⟨β,0,none⟩),.int .i64 root,.slice ca cs.length cc] 95)).alloc mY).alloc (pB false))
 have B1:Below w.heap.size w W1:=hW1▸((bA _ _).alloc (by simp) _).alloc (by simp;omega) _
 have t1:W1.heap[w.heap.size]?=some (.cells #[.pointer (some ⟨β,0,none⟩),.int .i64 root,.slice ca cs.length cc] 95):=hW1▸aB _ (aB _ (aA w _))
 have s1:W1.heap[w.heap.size+1]?=some mY:=by
  rw [← hW1];refine aB _ ?_;have:=aA (w.alloc (.cells #[.pointer (some ⟨β,0,none⟩),.int .i64 root,.slice ca cs.length cc] 95)) mY;simpa using this
 have r1:W1.heap[w.heap.size+1+1]?=some (pB false):=by
  rw [← hW1];have:=aA ((w.alloc (.cells #[.pointer (some ⟨β,0,none⟩),.int .i64 root,.slice ca cs.length cc] 95)).alloc mY) (pB false);simpa using this
 have z1:W1.heap.size=w.heap.size+3:=by rw [← hW1];simp
 have hSe:=lW ca cc cs key S W1 (hR.on (vV B1 hS)) (fun b hb=>jY (hS b hb) B1.size) hr (by omega) hc
 rw [hf,hi] at hSe
 have HK:Hid (∀ X,Below W1.heap.size W1 X→X.cell? ⟨w.heap.size,2,none⟩=some (.slice ca cs.length cc)∧X.heap[w.heap.size+1]?=some mY∧X.heap[w.heap.size+1+1]?=some (pB false)∧Below w.heap.size w X∧∃ b off,ca=some ⟨b,off,none⟩∧b<w.heap.size∧X.cell? ⟨b,off+i * 3,none⟩=some (.string c.key)∧X.cell? ⟨b,off+i * 3+1,none⟩=some (.string c.val)∧X.cell? ⟨b,off+i * 3+2,none⟩=some (.bool c.gone)):=by
  intro X hX
  have hb:=B1.trans (hX.mono B1.size)
  have h1:=(hX.block _ (by omega)).trans t1
  obtain⟨b,off,e1,e2,e3,e4,e5⟩:=(hR.on (vV hb hS)).ch hil
  rw [hci] at e3 e4 e5
  exact⟨(eR h1).2.2,(hX.block _ (by omega)).trans s1,(hX.block _ (by omega)).trans r1,hb,b,off,e1,hS b e2,e3,e4,e5⟩
 obtain⟨m2,_,_,_,b,off,hca,hbl,_⟩:=HK.out W1 (Below.refl _ _)
 subst hca
 have HK2:Hid (∀ X,Below W1.heap.size W1 X→X.cell? ⟨w.heap.size,2,none⟩=some (.slice (some ⟨b,off,none⟩) cs.length cc)∧X.heap[w.heap.size+1]?=some mY∧X.heap[w.heap.size+1+1]?=some (pB false)∧Below w.heap.size w X∧X.cell? ⟨b,off+i * 3,none⟩=some (.string c.key)∧X.cell? ⟨b,off+i * 3+1,none⟩=some (.string c.val)∧X.cell? ⟨b,off+i * 3+2,none⟩=some (.bool c.gone)):=by
  intro X hX
  obtain⟨h1,h2,h3,h4,b',off',h5,h6,h7⟩:=HK.out X hX
  simp only [Option.some.injEq,Addr.mk.injEq,and_true] at h5
  obtain⟨rfl,rfl⟩:=h5
  exact⟨h1,h2,h3,h4,h7⟩
 have hEn:=fun X=>Ho c X
 have hii:(i:Int)<(cs.length:Int):=by omega
 clear HK hR hi hci hf
 go_enter Tryz.func49,Tryz.ntmps49
 go_wp2_with (go_at_call 72;(with_reducible refine jC hSe ?_);rintro e X1 ⟨rfl,hX1⟩;obtain⟨m2,xs,xr,hb1,k0,k1,k2⟩:=HK2.out X1 hX1)
 obtain⟨q0,q1,q2,q3⟩:=yV xs
 have qfr:=aD xs
 have p0:=bF xr
 have pfr:=aD xr
 go_region_held3 (fun X=>X.cell? ⟨w.heap.size,2,none⟩=some (.slice (some ⟨b,off,none⟩) cs.length cc)∧X.cell? ⟨b,off+i * 3,none⟩=some (.string c.key)∧X.cell? ⟨b,off+i * 3+1,none⟩=some (.string c.val)∧X.cell? ⟨b,off+i * 3+2,none⟩=some (.bool c.gone))
  ((first|(with_reducible exact⟨m2,k0,k1,k2⟩)|(refine⟨?_,?_,?_,?_⟩<;>(repeat (with_reducible refine bS (by omega) ?_))<;>(first|(with_reducible exact m2)|(with_reducible exact k0)|(with_reducible exact k1)|(with_reducible exact k2)))|(simp [m2,k0,k1,k2])))
  (first
   | (go_at_call 73;(with_reducible refine jC (hEn _) ?_);rintro e X2 ⟨rfl,hX2⟩;have B2:Below W1.heap.size W1 X2:=hX1.drew.trans (hX2.mono hX1.size);obtain⟨m2,xs,xr,hb1,k0,k1,k2⟩:=HK2.out X2 B2;obtain⟨q0,q1,q2,q3⟩:=yV xs;have qfr:=aD xs;have p0:=bF xr;have pfr:=aD xr))
 all_goals
  have HE1:=aF (aF (aF (aF xs 0 (.string c.key)) 1 (.string c.val)) 2 (.int .i64 c.val.size)) 3 (.int .i64 0)
  obtain⟨X3,hX3⟩:=nM ((((X2.setCell ⟨w.heap.size+1,0,none⟩ (.string c.key)).setCell ⟨w.heap.size+1,1,none⟩ (.string c.val)).setCell ⟨w.heap.size+1,2,none⟩ (.int .i64 c.val.size)).setCell ⟨w.heap.size+1,3,none⟩ (.int .i64 0))
  rw [hX3] at HE1 ⊢
  have f3:Fr (Bl.one (w.heap.size+1)) X2 X3:=hX3▸((((Fr.refl (Bl.one (w.heap.size+1)) X2).setCell (p:=⟨w.heap.size+1,0,none⟩) (.inl rfl) _).setCell (p:=⟨w.heap.size+1,1,none⟩) (.inl rfl) _).setCell (p:=⟨w.heap.size+1,2,none⟩) (.inl rfl) _).setCell (p:=⟨w.heap.size+1,3,none⟩) (.inl rfl) _
  have r3:=f3.heap xr (oN (by omega))
  have HB4:Below w.heap.size w (X3.setCell ⟨w.heap.size+1+1,0,none⟩ (.bool (!c.gone))):=(hb1.trans (f3.below hb1.size (oK (by omega)))).setCell (p:=⟨w.heap.size+1+1,0,none⟩) (by show w.heap.size≤w.heap.size+1+1;omega) _
  have HR4:=aF r3 0 (.bool (!c.gone))
  have HE4:(X3.setCell ⟨w.heap.size+1+1,0,none⟩ (.bool (!c.gone))).heap[w.heap.size+1]?=some (.cells #[.string c.key,.string c.val,.int .i64 c.val.size,.int .i64 0] 108):=((Fr.refl (Bl.one (w.heap.size+1+1)) X3).setCell (p:=⟨w.heap.size+1+1,0,none⟩) (.inl rfl) _).heap (by simpa using HE1) (oN (by omega))
  obtain⟨X4,hX4⟩:=nM (X3.setCell ⟨w.heap.size+1+1,0,none⟩ (.bool (!c.gone)))
  rw [hX4] at HR4 HE4 HB4 ⊢
  clear hX4 hX3 HE1 r3 f3 q0 q1 q2 q3 p0 qfr pfr m2 k0 k1 k2
  go_wp2
  refine bodyPost_ret (v:=.tuple #[.agg #[.string c.key,.string c.val,.int .i64 c.val.size,.int .i64 0],.bool (!c.gone)]) ?_ rfl ⟨rfl,HB4⟩
  exact oB (p:=4) (q:=5) rfl _ _ (w.heap.size+1) (w.heap.size+1+1) _ _ _ _ _ rfl rfl HE4 (by simpa using HR4) Tryz.underlying108 rfl (by kernel_rfl) (fun w=>by kernel_rfl)
theorem qAg {P:Program} {n:Nat} {fn:Func} {tmps:Array Value} {R:Ending→World→Prop} {B:Nat} {ds:List Deferred} {w:World} {p q:Nat} {ty ty':TypeId} (hr:fn.results=#[.cell p ty,.cell q ty']) (g g':Nat) (t t':TypeId) (cs:Array Value) (v:Value) (d:TypeDesc) (hp:tmps.getD p undef=.pointer (some ⟨g,0,none⟩)) (hq:tmps.getD q undef=.pointer (some ⟨g',0,none⟩)) (hg:w.heap[g]?=some (.cells cs t)) (hg':w.heap[g']?=some (.cells #[v] t'))
  (hu:P.underlying ty=some d) (hd:(match d with|.struct _|.array _ _=>true|_=>false)=true) (hi:(P.info? ty).map (·.size)=some cs.size) (hu':∀ w,(isAgg ty').run P w=.ok false w) (hm:Marks B ds w) (h:∀ w',kX B w w'→R (.returned (.tuple #[.agg cs,v])) w') :
  LeavesInM Fence.wide n P fn tmps R ds .returning w :=
 kQ (by simp) hm (fun w' ht=>⟨_,oB hr tmps w' g g' t t' cs v d hp hq (ht.cells _ _ _ _ hg) (ht.cells _ _ _ _ hg') hu hd hi hu',h w' ht⟩)
abbrev qAf (x:En):Obj:=.cells #[.string x.e.key,.string x.e.val,.int .i64 x.e.size,.int .i64 x.e.over] 108
def mM (key:ByteArray):Sp:=⟨key,key++⟨#[0]⟩⟩
theorem Wq (β:Nat) (sv lv:Value) (fs:Fs) (hl:(fs.life==0)=false) (root:Nat) (ca:Option Addr) (cc:Nat) (cs:List Ch) (key:ByteArray) (o:Option (Nat×T)) (hro:bI fs root o) (S:Bl) (w:World) (hf:aG w β sv lv fs) (hR:aH w S ca (cs.flatMap Ch.cells)) (hS:∀ b,S b→b<w.heap.size) (hr:cH cs) (hn:cs.length≤1000) (hc:cs.length≤cc) (hfd:fnd cs key=false) (hk:key.size≤1000) :
  Calls Tryz.prog 49 #[.agg #[.pointer (some ⟨β,0,none⟩),.int .i64 root,.slice ca cs.length cc],.string key] w fun e w'=>∃ E:Ent,e=.returned (.tuple #[.agg #[.string E.key,.string E.val,.int .i64 E.size,.int .i64 E.over],.bool (!(cQ (mM key) o).isEmpty)])∧(∀ x xs,cQ (mM key) o=x :: xs→E=x.e)∧Below w.heap.size w w':=by
 obtain⟨W1,hW1⟩:=nM (((w.alloc (.cells #[.pointer (some ⟨β,0,none⟩),.int .i64 root,.slice ca cs.length cc] 95)).alloc mY).alloc (pB false))
 have B1:Below w.heap.size w W1:=hW1▸((bA _ _).alloc (by simp) _).alloc (by simp;omega) _
 have t1:W1.heap[w.heap.size]?=some (.cells #[.pointer (some ⟨β,0,none⟩),.int .i64 root,.slice ca cs.length cc] 95):=hW1▸aB _ (aB _ (aA w _))
 have s1:W1.heap[w.heap.size+1]?=some mY:=by
  rw [← hW1];refine aB _ ?_;have:=aA (w.alloc (.cells #[.pointer (some ⟨β,0,none⟩),.int .i64 root,.slice ca cs.length cc] 95)) mY;simpa using this
 have r1:W1.heap[w.heap.size+1+1]?=some (pB false):=by
  rw [← hW1];have:=aA ((w.alloc (.cells #[.pointer (some ⟨β,0,none⟩),.int .i64 root,.slice ca cs.length cc] 95)).alloc mY) (pB false);simpa using this
 have z1:W1.heap.size=w.heap.size+3:=by rw [← hW1];simp
 have hSe:=lW ca cc cs key S W1 (hR.on (vV B1 hS)) (fun b hb=>jY (hS b hb) B1.size) hr (by omega) hc
 rw [hfd] at hSe
 obtain⟨i,hi⟩:=nM (cS cs key)
 rw [hi] at hSe
 obtain⟨m0,m1,m2⟩:=eR t1
 have HQ:Hid (cQ (mM key) o=cQ ⟨key,key++⟨#[0]⟩⟩ o):=rfl
 have hSC:=fun X=>xN root β ca cs.length cc ⟨key,key++⟨#[0]⟩⟩ X
 clear hi
 refine(callsIn_wide (n:=0)).1 (callsIn_of_wp_marks Tryz.func49 rfl trivial ?_ rfl)
 simp only [Tryz.ntmps49,jA,jB,jN,Nat.reduceAdd,Nat.reduceSub,jR,jO,jP,jT,jE,jF]
 gi_wp2_with (first
  | (refine⟨trivial,rfl,?_⟩;gi_at_call 72;refine(callsIn_wide.2 hSe).mono ?_;clear hSe;rintro e X1 ⟨rfl,hX1⟩;have t2:=(hX1.block _ (show w.heap.size<W1.heap.size by omega)).trans t1;obtain⟨m0,m1,m2⟩:=eR t2;have hSX:=hSC X1)
  | (refine⟨trivial,rfl,?_⟩;gi_at_call 74;refine(callsIn_wide.2 hSX).mono ?_;clear hSX;rintro e X2 ⟨rfl,xt,xq,hX2⟩))
 have z2:=hX1.size
 have z3:=hX2.size
 have BX2:Below W1.heap.size W1 X2:=hX1.trans (hX2.mono z2)
 have Bw2:Below w.heap.size w X2:=B1.trans (BX2.mono B1.size)
 have s2:=(BX2.block _ (show w.heap.size+1<W1.heap.size by omega)).trans s1
 have r2:=(BX2.block _ (show w.heap.size+1+1<W1.heap.size by omega)).trans r1
 have hf2:aG X2 β sv lv fs:=hf.on (vV Bw2 hf.lies)
 have l1:=(gL xt)
 have l2:=(gL xq)
 let Rd:Bl:=fun k=>k=X1.heap.size∨k=X1.heap.size+1∨fpF β sv lv k
 have hseq:=xM β sv lv fs hl root ca cs.length cc ⟨key,key++⟨#[0]⟩⟩ o hro X1.heap.size (X1.heap.size+1) Rd X2 xt xq hf2 (.inl rfl) (.inr (.inl rfl)) (fun k hk=>.inr (.inr hk))
 obtain⟨xs,hxs⟩:=nM (cQ ⟨key,key++⟨#[0]⟩⟩ o)
 have HXS:Hid (cQ (mM key) o=xs):=HQ.out.trans hxs
 rw [hxs] at hseq
 let N1:=w.heap.size+1
 let N2:=w.heap.size+1+1
 let I:List En→Bl→World→Prop:=fun pre Y W=>pre=[]∧W.heap[N1]?=some mY∧W.heap[N2]?=some (pB false)∧(∀ k,Y k↔k=N1∨k=N2)
 let Ix:Code→List En→Bl→World→Prop:=fun c pre Y W=>c=.ret∧∃ x,pre=[x]∧W.heap[N1]?=some (qAf x)∧W.heap[N2]?=some (pB true)∧(∀ k,Y k↔k=N1∨k=N2)
 refine eS (P:=Tryz.prog) (Has:=pD) (Rd:=Rd) rfl (enters_of Tryz.func104 (by kernel_rfl) rfl) hseq (fun x args S W hH=>by rw [show args=_ from hH];rfl) I Ix ?_ ?_ ?_ ?_ (fun k=>k=N1∨k=N2) ⟨rfl,s2,r2,fun k=>Iff.rfl⟩ ?_ ?_ ?_ ?_
 ·rintro pre Y A B ⟨h0,h1,h2,h3⟩ ho
  exact⟨h0,ho.heap h1 ((h3 _).2 (.inl rfl)),ho.heap h2 ((h3 _).2 (.inr rfl)),h3⟩
 ·rintro c pre Y A B ⟨hc,x,h0,h1,h2,h3⟩ ho
  exact⟨hc,x,h0,ho.heap h1 ((h3 _).2 (.inl rfl)),ho.heap h2 ((h3 _).2 (.inr rfl)),h3⟩
 ·rintro pre Y A ⟨h0,h1,h2,h3⟩ k hk
  rcases (h3 k).1 hk with rfl|rfl
  ·exact(gL h1)
  ·exact(gL h2)
 ·rintro c pre Y A ⟨hc,x,h0,h1,h2,h3⟩ k hk
  rcases (h3 k).1 hk with rfl|rfl
  ·exact(gL h1)
  ·exact(gL h2)
 ·rintro k (rfl|rfl|hk)
  ·exact⟨fun h=>by simp only [N1,N2] at h;omega,by omega⟩
  ·exact⟨fun h=>by simp only [N1,N2] at h;omega,by omega⟩
  ·have:=hf.lies k hk
   exact⟨fun h=>by simp only [N1,N2] at h;omega,by omega⟩
 ·rintro l pre x rest args S Y' W hx ⟨rfl,h1,h2,h3⟩ hH hSS hFW hGW hl0 hl1 hl2 ⟨r,hr⟩
  have hH':args=#[.agg #[.string x.e.key,.string x.e.val,.int .i64 x.e.size,.int .i64 x.e.over]]:=hH
  subst hH'
  clear hx
  unfold iC
  gi_wp2
  refine⟨(Fr.refl _ W).alloc _,?_⟩
  intro W₂ hT
  have x2:=hT.heap (k:=W.heap.size) (aA W (qAf x)) (Nat.ne_of_gt hl1)
  obtain⟨m0,m1,m2,m3⟩:=iA x2
  have aW:Fr Bl.none W (W.alloc (qAf x)):=(Fr.refl _ W).alloc _
  have fX:Fr (Bl.one l) W W₂:=(aW.mono (fun _ h=>h.elim)).trans hT.fr
  have e1:W₂.heap[w.heap.size+1]?=some mY:=fX.heap h1 (fun h=>by simp only [Bl.one] at h;exact hl2 ((h3 _).2 (.inl h.symm)))
  have e2:W₂.heap[w.heap.size+1+1]?=some (pB false):=fX.heap h2 (fun h=>by simp only [Bl.one] at h;exact hl2 ((h3 _).2 (.inr h.symm)))
  obtain⟨q0,q1,q2,q3⟩:=yV e1
  have p0:=bF e2
  have qfr:=aD e1
  have pfr:=aD e2
  have n1:w.heap.size+1<W.heap.size:=(gL h1)
  have n2:w.heap.size+1+1<W.heap.size:=(gL h2)
  have HE1:=aF (aF (aF (aF e1 0 (.string x.e.key)) 1 (.string x.e.val)) 2 (.int .i64 x.e.size)) 3 (.int .i64 x.e.over)
  obtain⟨X3,hX3⟩:=nM ((((W₂.setCell ⟨w.heap.size+1,0,none⟩ (.string x.e.key)).setCell ⟨w.heap.size+1,1,none⟩ (.string x.e.val)).setCell ⟨w.heap.size+1,2,none⟩ (.int .i64 x.e.size)).setCell ⟨w.heap.size+1,3,none⟩ (.int .i64 x.e.over))
  have f3:Fr (Bl.one (w.heap.size+1)) W₂ X3:=hX3▸((((Fr.refl (Bl.one (w.heap.size+1)) W₂).setCell (p:=⟨w.heap.size+1,0,none⟩) (.inl rfl) _).setCell (p:=⟨w.heap.size+1,1,none⟩) (.inl rfl) _).setCell (p:=⟨w.heap.size+1,2,none⟩) (.inl rfl) _).setCell (p:=⟨w.heap.size+1,3,none⟩) (.inl rfl) _
  have r3:=f3.heap e2 (oN (by omega))
  have HR4:=aF r3 0 (.bool true)
  have f4:Fr (Bl.one (w.heap.size+1+1)) X3 (X3.setCell ⟨w.heap.size+1+1,0,none⟩ (.bool true)):=(Fr.refl (Bl.one (w.heap.size+1+1)) X3).setCell (p:=⟨w.heap.size+1+1,0,none⟩) (.inl rfl) _
  have HE4:(X3.setCell ⟨w.heap.size+1+1,0,none⟩ (.bool true)).heap[w.heap.size+1]?=some (qAf x):=f4.heap (by rw [← hX3];simpa using HE1) (oN (by omega))
  have HH:Hid (qDr I Ix ([]++[x]) Y' W₂ .ret { tmps:=#[],defers:=[] } (X3.setCell ⟨w.heap.size+1+1,0,none⟩ (.bool true))):=by
   refine⟨fun k=>k=N1∨k=N2,⟨rfl,x,rfl,HE4,by simpa using HR4,fun k=>Iff.rfl⟩,?_,?_⟩
   ·refine(f3.mono (fun k hk=>.inl ((h3 k).2 (.inl (by simp only [Bl.one] at hk;exact hk))))).trans (f4.mono (fun k hk=>.inl ((h3 k).2 (.inr (by simp only [Bl.one] at hk;exact hk)))))
   ·rintro k (rfl|rfl)
    ·exact .inl ((h3 _).2 (.inl rfl))
    ·exact .inl ((h3 _).2 (.inr rfl))
  rw [← hX3] at HH
  clear HE1 HR4 HE4 f3 f4 r3 hX3
  gi_wp2
  exact HH.out
 ·rintro D Y' W hD hYD ⟨rfl,h1,h2,h3⟩ hFW hGW hDW
  have e1:W.heap[w.heap.size+1]?=some mY:=h1
  have e2:W.heap[w.heap.size+1+1]?=some (pB false):=h2
  obtain⟨q0,q1,q2,q3⟩:=yV e1
  have p0:=bF e2
  have qfr:=aD e1
  have pfr:=aD e2
  have hm:Marks w.heap.size [mk D] W:=(Marks.nil w.heap.size X2).cons (fun D' _ h=>hFW.heap h (fun e=>by rcases e with rfl|rfl<;>simp_all [N1,N2])) (by omega) hDW hD
  gi_wp2
  rw [gI e1 (i:=0) (v:=.string ⟨#[]⟩) rfl,gI e1 (i:=1) (v:=.string ⟨#[]⟩) rfl,gI e1 (i:=2) (v:=.int .i64 0) rfl,gI e1 (i:=3) (v:=.int .i64 0) rfl,gI e2 (i:=0) (v:=.bool false) rfl]
  refine qAg (p:=4) (q:=5) rfl (w.heap.size+1) (w.heap.size+1+1) _ _ _ _ _ rfl rfl e1 e2 Tryz.underlying108 rfl (by kernel_rfl) (fun w=>by kernel_rfl) hm ?_
  intro w' ht'
  refine⟨⟨⟨#[]⟩,⟨#[]⟩,0,0⟩,by rw [HXS.out];rfl,fun x xs h=>(by rw [HXS.out] at h;cases h),?_⟩
  exact(((Fr.of_below Bw2).trans (hFW.mono (fun k hk=>.inl hk))).took ht' (jU _)).below (jU _) (fun k hk=>by rcases hk with rfl|rfl<;>simp only [N1,N2]<;>omega)
 ·rintro D c pre Y' W hD hYD hp hne ⟨rfl,x,rfl,h1,h2,h3⟩ hFW hGW hDW
  have e1:W.heap[w.heap.size+1]?=some (qAf x):=h1
  have e2:W.heap[w.heap.size+1+1]?=some (pB true):=h2
  have hm:Marks w.heap.size [mk D] W:=(Marks.nil w.heap.size X2).cons (fun D' _ h=>hFW.heap h (fun e=>by rcases e with rfl|rfl<;>simp_all [N1,N2])) (by omega) hDW hD
  obtain⟨rest,hrest⟩:=hp
  gi_wp2
  refine qAg (p:=4) (q:=5) rfl (w.heap.size+1) (w.heap.size+1+1) _ _ _ _ _ rfl rfl e1 e2 Tryz.underlying108 rfl (by kernel_rfl) (fun w=>by kernel_rfl) hm ?_
  intro w' ht'
  refine⟨x.e,by rw [HXS.out,← hrest];rfl,fun y ys h=>(by rw [HXS.out,← hrest] at h;simp at h;rw [h.1]),?_⟩
  exact(((Fr.of_below Bw2).trans (hFW.mono (fun k hk=>.inl hk))).took ht' (jU _)).below (jU _) (fun k hk=>by rcases hk with rfl|rfl<;>simp only [N1,N2]<;>omega)
def gE (o:Option (Nat×T)) (cs:List Ch) (key:ByteArray):Bool:=if fnd cs key=true then (match cs[cS cs key]? with|some c=>!c.gone|none=>false) else !(cQ (mM key) o).isEmpty
theorem Na (β:Nat) (sv lv:Value) (fs:Fs) (hl:(fs.life==0)=false) (root:Nat) (ca:Option Addr) (cc:Nat) (cs:List Ch) (key:ByteArray) (o:Option (Nat×T)) (hro:bI fs root o) (S:Bl) (w:World) (hf:aG w β sv lv fs) (hR:aH w S ca (cs.flatMap Ch.cells)) (hS:∀ b,S b→b<w.heap.size) (hr:cH cs) (hn:cs.length≤1000) (hc:cs.length≤cc) (hk:key.size≤1000) :
  Calls Tryz.prog 49 #[.agg #[.pointer (some ⟨β,0,none⟩),.int .i64 root,.slice ca cs.length cc],.string key] w fun e w'=>∃ E:Ent,e=.returned (.tuple #[.agg #[.string E.key,.string E.val,.int .i64 E.size,.int .i64 E.over],.bool (gE o cs key)])∧(fnd cs key=true→∀ c,cs[cS cs key]?=some c→E=(chE c).e)∧(fnd cs key=false→∀ x xs,cQ (mM key) o=x :: xs→E=x.e)∧Below w.heap.size w w':=by
 by_cases hf':fnd cs key=true
 ·obtain⟨h0,_⟩:=tS hf' hr
  refine(qAe β root ca cc cs key S w hR hS hr hn hc hf' _ rfl h0 _ rfl).mono ?_
  rintro e w' ⟨rfl,hb⟩
  refine⟨(chE cs[cS cs key]).e,?_,fun _ c hc=>?_,(fun h=>by rw [hf'] at h;cases h),hb⟩
  ·unfold gE
   rw [if_pos hf',jQ h0]
   rfl
  ·rw [jQ h0] at hc
   cases hc;rfl
 ·have hf2:fnd cs key=false:=by simpa using hf'
  refine(Wq β sv lv fs hl root ca cc cs key o hro S w hf hR hS hr hn hc hf2 hk).mono ?_
  rintro e w' ⟨E,rfl,hE,hb⟩
  refine⟨E,?_,fun h=>absurd h hf',fun _=>hE,hb⟩
  unfold gE
  rw [if_neg hf']
def qDf (D:Db) (i:Nat) (t:Tx) (o:Option (Nat×T)) (key:ByteArray) (z:Int) (D':Db):Prop :=
  (gE o t.cs key=true∧z=0∧∃ ca' cc',D' = { D with ts:=D.ts.set i { t with cs:=cL t.cs ⟨key,⟨#[]⟩,true⟩,ca:=ca',cc:=cc' } })∨(gE o t.cs key=false∧z=5∧D'=D)
theorem qAo (D:Db) (x:Int) (i:Nat) (t:Tx) (o:Option (Nat×T)) (key:ByteArray) (b0 b1 b2:Nat) (w:World) (h:aM w 1 D) (hal:(D.fs.life==0)=false) (hro:bI D.fs t.root o) (hn:D.ts.length≤1000) (hi:i<D.ts.length) (ht:D.ts[i]=t) (hx:kS D.ts x=i) (hw:t.wr=true) (hr:cH t.cs) (hcs:t.cs.length≤1000) (hk1:1≤key.size) (hk2:key.size≤24)
    (x0:w.heap[b0]?=some (.cells #[.pointer (some ⟨D.d,0,none⟩)] 23)) (x1:w.heap[b1]?=some (.cells #[.int .i64 x] 3)) (x2:w.heap[b2]?=some (.cells #[.string key] 9)) :
    Calls Tryz.prog 48 #[.pointer (some ⟨b0,0,none⟩),.pointer (some ⟨b1,0,none⟩),.pointer (some ⟨b2,0,none⟩)] w fun e w'=>∃ z D',e=.returned (.int .i64 z)∧aM w' 1 D'∧D'.d=D.d∧Fr (fpD D) w w'∧aI w (fpD D) (fpD D')∧qDf D i t o key z D':=by
  have hWr:=Ah D 1 x i t w h (by omega) hi ht hx hw
  have hm:t∈D.ts:=ht▸List.getElem_mem hi
  have HK:Hid (∀ X,Below w.heap.size w X→aM X 1 D∧X.cell? ⟨b0,0,none⟩=some (.pointer (some ⟨D.d,0,none⟩))∧X.cell? ⟨b1,0,none⟩=some (.int .i64 x)∧X.heap[b2]?=some (.cells #[.string key] 9)∧X.cell? ⟨t.b,2,none⟩=some (.pointer (some ⟨D.β,0,none⟩))∧X.cell? ⟨t.b,3,none⟩=some (.int .i64 t.root)∧X.cell? ⟨t.b,4,none⟩=some (.slice t.ca t.cs.length t.cc)):=by
    intro X hX
    have hD:=h.on (vV hX h.lies)
    obtain⟨q0,q1,q2,q3,q4,q5⟩:=rQ (hD.each t hm).box
    exact⟨hD,bF ((hX.block _ (gL x0)).trans x0),bF ((hX.block _ (gL x1)).trans x1),(hX.block _ (gL x2)).trans x2,q2,q3,q4⟩
  obtain⟨_,c0,c1,y2,q2,q3,q4⟩:=HK.out w (Below.refl _ _)
  have c2:=bF y2
  have hKy:∀ X,Calls Tryz.prog 45 #[.string key] X fun e w'=>e=.returned (.bool true)∧w'=X:=fun X=>by
    have:=wQ key X
    rw [decide_eq_true (And.intro hk1 hk2)] at this
    exact this
  obtain⟨fb,hfb⟩:=nM (gE o t.cs key)
  have HFi:Hid (∀ X,aM X 1 D→Calls Tryz.prog 49 #[.agg #[.pointer (some ⟨D.β,0,none⟩),.int .i64 t.root,.slice t.ca t.cs.length t.cc],.string key] X fun e w'=>∃ E:Ent,e=.returned (.tuple #[.agg #[.string E.key,.string E.val,.int .i64 E.size,.int .i64 E.over],.bool fb])∧Below X.heap.size X w'):=fun X hX=>by
    obtain⟨a0,cc0,he,hcc,hrow⟩:=cP (hX.each t hm).row
    simp only [Tx.cv,Value.slice.injEq,true_and] at he
    obtain⟨e1,e2⟩:=he
    subst e1 e2
    refine(Na D.β D.sv D.lv D.fs hal t.root t.ca t.cc t.cs key o hro (fun k=>t.cv.ownBlock=some k) X hX.file hrow (fun k hk=>aQ (hX.each t hm).row hk) hr hcs hcc (by omega)).mono ?_
    rintro e w' ⟨E,rfl,_,_,hb⟩
    exact⟨E,by rw [hfb],hb⟩
  have HCk:Hid (∀ X,Calls Tryz.prog 47 #[.string key] X fun e w'=>e=.returned (.string key)∧Below X.heap.size X w'):=fun X=>pM key (by omega) X
  have HCh:Hid (∀ X,aM X 1 D→Calls Tryz.prog 46 #[.pointer (some ⟨t.b,0,none⟩),.agg #[.string key,.string ⟨#[]⟩,.bool true]] X fun e w'=>e=.returned (.tuple #[])∧∃ ca' cc',eF w' D.β { t with cs:=cL t.cs ⟨key,⟨#[]⟩,true⟩,ca:=ca',cc:=cc' }∧Fr (fpT t) X w'∧∀ k,fpT { t with cs:=cL t.cs ⟨key,⟨#[]⟩,true⟩,ca:=ca',cc:=cc' } k→fpT t k∨X.heap.size≤k):=fun X hX=>Dp t D.β ⟨key,⟨#[]⟩,true⟩ X (hX.each t hm) hr hcs
  have HHI:Hid (i<D.ts.length):=hi
  have HTI:Hid (D.ts[i]=t):=ht
  have HFB:Hid (gE o t.cs key=fb):=hfb
  clear x0 x1 x2 h ht hx hr hfb
  go_enter Tryz.func48,Tryz.ntmps48
  go_wp2_with (first
    | (go_at_call 44;(with_reducible refine jC hWr ?_);rintro e X1 ⟨rfl,hX1⟩;obtain⟨hD1,c0,c1,y2,q2,q3,q4⟩:=HK.out X1 hX1;have c2:=bF y2;have hKy1:=hKy X1)
    | (go_at_call 45;(with_reducible refine jC hKy1 ?_);rintro e X1' ⟨rfl,hX1'⟩;subst X1'))
  have HS:Hid (∀ X,Below w.heap.size w X→X.cell? ⟨b2,0,none⟩=some (.string key)∧X.cell? ⟨t.b,2,none⟩=some (.pointer (some ⟨D.β,0,none⟩))∧X.cell? ⟨t.b,3,none⟩=some (.int .i64 t.root)∧X.cell? ⟨t.b,4,none⟩=some (.slice t.ca t.cs.length t.cc)):=fun X hX=>by
    obtain⟨_,_,_,y2,q2,q3,q4⟩:=HK.out X hX
    exact⟨bF y2,q2,q3,q4⟩
  have zX1:=hX1.size
  go_region_held3 (fun X=>X.cell? ⟨b2,0,none⟩=some (.string key)∧X.cell? ⟨t.b,2,none⟩=some (.pointer (some ⟨D.β,0,none⟩))∧X.cell? ⟨t.b,3,none⟩=some (.int .i64 t.root)∧X.cell? ⟨t.b,4,none⟩=some (.slice t.ca t.cs.length t.cc))
    ((refine HS.out _ ?_;(repeat (first|exact hX1|exact B2|(refine Below.drew ?_)|(refine Below.alloc ?_ (by first|omega|(simp;omega)) _)|(refine Below.setCell ?_ (by first|omega|(simp;omega)|(show w.heap.size≤X2.heap.size;omega)|(show w.heap.size≤X1.heap.size;omega)) _)))))
    (first
      | (go_at_call 49;(with_reducible refine jC (HFi.out _ (HK.out _ ?_).1) ?_);(first|exact hX1.drew|exact hX1|exact(hX1.alloc zX1 _).drew|exact hX1.drew.alloc zX1 _);rintro e X2 ⟨E,rfl,hX2⟩;have B2:Below w.heap.size w X2:=(by first|exact hX1.drew.trans (hX2.mono zX1)|exact(hX1.alloc zX1 _).drew.trans (hX2.mono (by simp;omega)));have zX2:=B2.size;have xE:=aA X2 mY;obtain⟨g0,g1,g2,g3⟩:=yV xE;have gfr:=aD xE;try (have xF:X2.heap[X1.heap.size]?=some mY:=(hX2.block _ (by simp)).trans (by first|exact aA X1 mY|exact aA X1.drew mY);clear g0 g1 g2 g3 gfr;obtain⟨g0,g1,g2,g3⟩:=yV xF;have gfr:=aD xF)))
  all_goals
    clear hKy1 hWr
    first
      | (obtain⟨X3,hX3⟩:=nM (X2.alloc (.cells #[.string E.key,.string E.val,.int .i64 E.size,.int .i64 E.over] 108))
         rw [hX3]
         have B3:Below w.heap.size w X3:=hX3▸B2.alloc zX2 _
         clear hX3)
      | (obtain⟨X3,hX3⟩:=nM ((((X2.setCell ⟨X1.heap.size,0,none⟩ (.string E.key)).setCell ⟨X1.heap.size,1,none⟩ (.string E.val)).setCell ⟨X1.heap.size,2,none⟩ (.int .i64 E.size)).setCell ⟨X1.heap.size,3,none⟩ (.int .i64 E.over))
         rw [hX3]
         have B3:Below w.heap.size w X3:=hX3▸((((B2.setCell (p:=⟨X1.heap.size,0,none⟩) zX1 _).setCell (p:=⟨X1.heap.size,1,none⟩) zX1 _).setCell (p:=⟨X1.heap.size,2,none⟩) zX1 _).setCell (p:=⟨X1.heap.size,3,none⟩) zX1 _)
         clear hX3)
    clear g0 g1 g2 g3 gfr xE
    obtain⟨hD3,c0,c1,y2,q2,q3,q4⟩:=HK.out X3 B3
    have c2:=bF y2
    have hCl:=HCk.out X3
    cases fb with
    | false =>
      go_wp2
      go_ret
      exact⟨5,D,rfl,hD3,rfl,Fr.of_below B3,aI.refl _ _,.inr ⟨HFB.out,rfl,rfl⟩⟩
    | true =>
      go_wp2_with (first
        | (go_at_call 47;(with_reducible refine jC hCl ?_);rintro e X4 ⟨rfl,hX4⟩;have B4:Below w.heap.size w X4:=B3.trans (hX4.mono B3.size);obtain⟨hD4,c0,c1,y2,q2,q3,q4⟩:=HK.out X4 B4;have hCg:=HCh.out X4 hD4)
        | (go_at_call 46;(with_reducible refine jC hCg ?_);rintro e X5 ⟨rfl,ca',cc',hT5,hF5,hG5⟩))
      go_ret
      refine⟨0,_,rfl,hD4.retx HHI.out HTI.out hT5 rfl hF5 hG5,rfl,(Fr.of_below B4).trans (hF5.mono (fun k hk=>.inl (.inr (.inr (.inr ⟨t,hm,hk⟩))))),fun k hk=>?_,.inl ⟨HFB.out,rfl,ca',cc',rfl⟩⟩
      have:=Cy (w:=X4) HHI.out HTI.out hG5 k hk
      exact this.imp id (fun h=>vJ B4.size h)
theorem Dl (D:Db) (x:Int) (i:Nat) (t:Tx) (o:Option (Nat×T)) (key:ByteArray) (w:World) (h:aM w 0 D) (hal:(D.fs.life==0)=false) (hro:bI D.fs t.root o) (hn:D.ts.length≤1000) (hi:i<D.ts.length) (ht:D.ts[i]=t) (hx:kS D.ts x=i) (hw:t.wr=true) (hr:cH t.cs) (hcs:t.cs.length≤1000) (hk1:1≤key.size) (hk2:key.size≤24) :
    Calls Tryz.prog 25 #[.pointer (some ⟨D.d,0,none⟩),.int .i64 x,.string key] w fun e w'=>∃ z D',e=.returned (.int .i64 z)∧aM w' 0 D'∧D'.d=D.d∧Fr (fpD D) w w'∧aI w (fpD D) (fpD D')∧qDf D i t o key z D':=by
  obtain⟨W1,hW1⟩:=nM (((w.alloc (.cells #[.pointer (some ⟨D.d,0,none⟩)] 23)).alloc (.cells #[.int .i64 x] 3)).alloc (.cells #[.string key] 9))
  have B1:Below w.heap.size w W1:=hW1▸((bA _ _).alloc (by simp) _).alloc (by simp;omega) _
  have x0:W1.heap[w.heap.size]?=some (.cells #[.pointer (some ⟨D.d,0,none⟩)] 23):=hW1▸aB _ (aB _ (aA w _))
  have x1:W1.heap[w.heap.size+1]?=some (.cells #[.int .i64 x] 3):=by
    rw [← hW1];refine aB _ ?_;have:=aA (w.alloc (.cells #[.pointer (some ⟨D.d,0,none⟩)] 23)) (.cells #[.int .i64 x] 3);simpa using this
  have x2:W1.heap[w.heap.size+1+1]?=some (.cells #[.string key] 9):=by
    rw [← hW1];have:=aA ((w.alloc (.cells #[.pointer (some ⟨D.d,0,none⟩)] 23)).alloc (.cells #[.int .i64 x] 3)) (.cells #[.string key] 9);simpa using this
  have h1:aM W1 0 D:=h.on (vV B1 h.lies)
  have dlt:=(gL h.box)
  have c0:=bF x0
  have hFc:=Ae D 48 #[] #[.pointer (some ⟨w.heap.size,0,none⟩),.pointer (some ⟨w.heap.size+1,0,none⟩),.pointer (some ⟨w.heap.size+1+1,0,none⟩)] (enters_of Tryz.func48 (by kernel_rfl) rfl) W1 h1 (qDf D i t o key) (by
    intro W0 hD0 hF0 hs0
    have nd:∀ k,w.heap.size≤k→¬ Bl.one D.d k:=fun k hk e=>by simp only [Bl.one] at e;omega
    exact qAo D x i t o key _ _ _ W0 hD0 hal hro hn hi ht hx hw hr hcs hk1 hk2 (hF0.heap x0 (nd _ (by omega))) (hF0.heap x1 (nd _ (by omega))) (hF0.heap x2 (nd _ (by omega))))
  clear x0 x1 x2
  go_enter Tryz.func25,Tryz.ntmps25
  go_wp2_with (go_at_call 35;(with_reducible refine jC hFc ?_);rintro e X ⟨z,D',rfl,hD',hd',hF',hG',hR⟩)
  go_ret
  exact⟨z,D',rfl,hD',hd',(Fr.of_below B1).trans hF',fun k hk=>(hG' k hk).imp id (fun h=>vJ B1.size h),hR⟩
