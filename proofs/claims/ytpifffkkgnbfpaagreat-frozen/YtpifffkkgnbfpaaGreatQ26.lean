import Derived.Test.YtpifffkkgnbfpaaGreatQ25
set_option linter.unusedSimpArgs false
set_option linter.unusedVariables false
set_option maxRecDepth 100000
set_option maxHeartbeats 8000000
namespace Go.Proofs.YtpifffkkgnbfpaaGreat.Tree
open Go.RowKit Pages
variable {Sf:Bl} {b fc n z:Nat} {e:TypeId} {fa:Option Addr} {fr:List Nat} {w:World} {ws:List (Nat×ByteArray)} {wv:Value} {xs:List Value}
theorem Ur (w:World) (E:TypeId) (z:Nat):(w.alloc (.cells #[] E)).ownsRow 0 E z (.slice (some ⟨w.heap.size,0,none⟩) 0 0) 0 []:=by
 refine⟨by simp,.inr ⟨w.heap.size,0,#[],rfl,Nat.zero_le _,aA w _,jU _,by unfold maxLen;omega,by simp,by simp⟩⟩
theorem Xa (b off:Nat) (ec:Nat) (es:List En) (S:Bl) (w:World) (hR:aH w S (some ⟨b,off,none⟩) (aN es)) (hS:∀ b,S b→b<w.heap.size) (hn:es.length≤100000) (h0:es≠[]) :
  Calls Tryz.prog 181 #[.slice (some ⟨b,off,none⟩) es.length ec] w fun e w'=>∃ v,e=.returned v∧w'.ownsRow 0 108 4 v es.length (aN es)∧Below w.heap.size w w'∧∀ k,v.ownBlock=some k→w.heap.size≤k:=by
 have hcell:∀ j u,(aN es)[j]?=some u→(w.alloc (.cells #[] 108)).cell? ((⟨b,off,none⟩:Addr).add j)=some u:=by
  intro j u hu
  obtain⟨b',off',ha,hb',hc⟩:=hR.val hu
  simp only [Option.some.injEq,Addr.mk.injEq,and_true] at ha
  obtain⟨rfl,rfl⟩:=ha
  have e:(⟨b,off,none⟩:Addr).add j=⟨b,off+j,none⟩:=by unfold Addr.add;split<;>simp_all
  rw [e,World.cell?_of_block (w:=w) (Below.heap_alloc w _ b (hS b hb'))]
  exact hc
 have hq:∀ (u:World),(binOp .eql 83 (.slice (some ⟨b,off,none⟩) es.length ec) (.slice none 0 0)).run Tryz.prog u=.ok (.bool false) u:=fun u=>Go.Lib.run_eql_slice_nil (P:=Tryz.prog) u 83 108 (some ⟨b,off,none⟩) es.length ec 0 0 Tryz.underlying83
 go_enter Tryz.func181,Tryz.ntmps181
 go_wp2_with (at_builtin;refine Ai (w.alloc (.cells #[] 108)) rfl (.tmp 5) (.tmp 6) 83 108 _ 4 48 rfl Tryz.underlying83 Cv rfl (by decide) (.slice (some ⟨w.heap.size,0,none⟩) 0 0) 0 [] rfl (Ur w _ 4) ⟨b,off,none⟩ es.length ec (aN es) rfl (by rw [mN]) hcell (Dk es) (by omega) (by omega) ?_;intro v3 w3 A3)
 go_ret
 refine⟨_,rfl,by simpa using A3.row,((Below.refl _ w).alloc (jU _) _).trans (A3.fr.below (by simp) (fun k hk=>by simp [Value.ownBlock] at hk;omega)),fun k hk=>?_⟩
 rcases A3.lies k hk with h|h
 ·simp [Value.ownBlock] at h;omega
 ·simp at h;omega
theorem Cr:∀ (es:List En) (x:En) (fr:List Nat),aT (es++[x]) fr=((aT es fr).1++[mV x (fr.drop (aT es fr).2.length)],(aT es fr).2++(dJ x (fr.drop (aT es fr).2.length)).reverse)
 | [],x,fr=>by simp [aT]
 | y :: es,x,fr=>by
  simp only [jF,aT,Cr es x,List.drop_drop,jK,List.length_reverse,List.append_assoc]
theorem Mb (es:List En) (fr:List Nat) (j:Nat) (hj:j<es.length):aT (es.take (j+1)) fr=((aT (es.take j) fr).1++[mV es[j] (fr.drop (aT (es.take j) fr).2.length)],(aT (es.take j) fr).2++(dJ es[j] (fr.drop (aT (es.take j) fr).2.length)).reverse):=by
 rw [List.take_succ_eq_append_getElem hj,Cr]
theorem nT:∀ (es:List En) (fr:List Nat) (j:Nat),(aT (es.take j) fr).2.length≤(aT es fr).2.length
 | [],_,_=>by simp [aT]
 | x :: es,fr,0=>by simp [aT]
 | x :: es,fr,j+1=>by
  have:=nT es (fr.drop (dJ x fr).length) j
  simp only [List.take_succ_cons,aT,jK,List.length_reverse];omega
theorem Rj (A B:List En) (x y:En) (o:Int) (s:ByteArray) (hy:y.e=⟨x.e.key,s,x.e.size,o⟩):((aN (A++x :: B)).set (A.length * 4+3) (.int .i64 o)).set (A.length * 4+1) (.string s)=aN (A++y :: B):=by
 have hA:(aN A).length=A.length * 4:=mN A
 have e1:aN (A++x :: B)=aN A++(x.e.cells++aN B):=by simp [aN]
 have e2:aN (A++y :: B)=aN A++(y.e.cells++aN B):=by simp [aN]
 rw [e1,e2,← hA,List.set_append_right _ _ (by omega),List.set_append_right _ _ (by omega)]
 congr 1
 rw [show (aN A).length+3-(aN A).length=3 by omega,show (aN A).length+1-(aN A).length=1 by omega,hy]
 rfl
theorem Qb (es:List En) (hn:es.length≤100000) (hf:∀ x∈es,x.fits):(eJ es).small:=by
 refine⟨by simp [eJ],by simp [eJ],by simp [eJ];omega,?_,?_,?_,Nat.zero_le _⟩
 ·intro e he
  obtain⟨x,hx,rfl⟩:=List.mem_map.1 he
  have:=hf x hx
  exact⟨by have:=this.1;omega,by have:=this.2;omega⟩
 ·simp [eJ,eD,aJ]
 ·have key:∀ (l:List En),(∀ x∈l,x.fits)→((l.map (·.e)).flatMap Ent.bytes).length≤500 * l.length:=by
   intro l
   induction l with
   | nil=>simp
   | cons x l ih =>
    intro h
    have h1:=ih (fun y hy=>h y (by simp [hy]))
    have h2:=h x (by simp)
    have h3:(Ent.bytes x.e).length≤500:=by
     unfold Ent.bytes kV
     have:=nX x.e.key
     have:=nX x.e.val
     have a1:=h2.1
     have a2:=h2.2
     split
     ·rw [jK,jK];simp;omega
     ·rw [jK,jK,jK,aJ,aJ];simp;omega
    rw [List.map_cons,List.flatMap_cons,jK,jB];omega
  have:=key es hf
  simp only [eJ,lC,jK,aJ];omega
theorem dS.not (h:dS w b Sf fa fc fr wv ws) {k:Nat} {cs:Array Value} {t:TypeId} (hk:w.heap[k]?=some (.cells cs t)) (h1:t≠220) (h2:t≠209):¬ fpL b wv k:=by
 rintro(rfl|e)
 ·rw [h.box] at hk
  simp at hk
  exact h1 hk.2.symm
 ·exact bD h.own hk h2 e
theorem dS.beside {w w':World}        (h:dS w b Sf fa fc fr wv ws) {Y:Bl} (f:Fr Y w w') (h1:∀ k,Y k→¬ fpL b wv k) (h2:∀ k,Y k→¬ Sf k):dS w' b Sf fa fc fr wv ws :=
 ⟨f.heap h.box (fun e=>h1 b e (.inl rfl)),h.free.on (f.on (fun k hk=>⟨(h.apart k hk).1,fun e=>h2 k e hk⟩)),h.some',h.cap,aZ h.own (f.on (Z:=fun k=>wv.ownBlock=some k) (fun k hk=>⟨aQ h.own hk,fun e=>h1 k e (.inr hk)⟩)) (fun k hk=>hk),fun k hk=>⟨jY (h.apart k hk).1 f.size,(h.apart k hk).2⟩⟩
theorem qZ {z g n c:Nat}  (h:w.ownsRow 0 e z (.slice (some ⟨g,0,none⟩) n c) n xs):∃ cur,w.heap[g]?=some (.cells cur e):=by
 obtain⟨_,h2⟩:=h
 rcases h2 with⟨h3,_⟩|⟨g',cap,cur,h3,_,hg,_⟩
 ·simp at h3
 ·simp only [Value.slice.injEq,Option.some.injEq,Addr.mk.injEq,and_true,true_and] at h3
  obtain⟨rfl,_⟩:=h3
  exact⟨cur,hg⟩
theorem Zn (b:Nat) (Sf:Bl) (fs:Fs) (es:List En) (ea:Option Addr) (ec:Nat) (S:Bl) (fa:Option Addr) (fc:Nat) (fr:List Nat) (wv:Value) (ws:List (Nat×ByteArray)) (w:World) (h:dS w b Sf fa fc fr wv ws) (hR:aH w S ea (aN es)) (hS:∀ b,S b→b<w.heap.size) (hne:es≠[]) (hr:cO es) (hg:∀ x∈es,x.good fs) (ht:tot esz es≤250) (hn:es.length≤1000) (hl:(aT es fr).2.length<fr.length) (hp:∀ p∈fr,aS (p:Nat)=true) (hws:ws.length≤10000) :
  Calls Tryz.prog 167 #[.pointer (some ⟨b,0,none⟩),.slice ea es.length ec] w fun e w'=>e=.returned (.int .i64 (fr.getD (aT es fr).2.length 0:Nat)) ∧
   ∃ fa' fc' wv',dS w' b Sf fa' fc' (fr.drop ((aT es fr).2.length+1)) wv' (ws++((aT es fr).2++[(fr.getD (aT es fr).2.length 0,eJ (aT es fr).1)]).map enc1)∧Fr (fpL b wv) w w'∧∀ k,wv'.ownBlock=some k→wv.ownBlock=some k∨w.heap.size≤k:=by
 obtain⟨b0,o0,rfl,hb0⟩:=hR.addr (wZ (List.length_pos_iff.2 hne))
 have hC:=Xa b0 o0 ec es S w hR hS (by omega) hne
 have hcount:=rH es fr
 go_enter Tryz.func167,Tryz.ntmps167
 go_wp2_with (go_at_call 181;(with_reducible refine jC hC ?_);rintro e wc ⟨v,rfl,hown,hbc,hlies⟩;obtain⟨g,cE,rfl,hgl,hcE⟩:=Bp hown (List.length_pos_iff.2 hne))
 have hgw:w.heap.size≤g:=hlies g rfl
 have hL0:=h.fr hbc
 have bP:Below wc.heap.size wc (wc.alloc (.cells #[.int .i64 3,.int .i64 0,.int .i64 0,.int .i64 0,.slice none 0 0,.slice none 0 0,.slice (some ⟨g,0,none⟩) es.length cE,.string ⟨#[]⟩] 85)):=bA _ _
 have xP:=aA wc (.cells #[.int .i64 3,.int .i64 0,.int .i64 0,.int .i64 0,.slice none 0 0,.slice none 0 0,.slice (some ⟨g,0,none⟩) es.length cE,.string ⟨#[]⟩] 85)
 have hLP:=hL0.fr bP
 have hoP:=World.ownsRow.alloc (w:=wc) hown (.cells #[.int .i64 3,.int .i64 0,.int .i64 0,.int .i64 0,.slice none 0 0,.slice none 0 0,.slice (some ⟨g,0,none⟩) es.length cE,.string ⟨#[]⟩] 85)
 obtain⟨WP,hWP⟩:=nM (wc.alloc (.cells #[.int .i64 3,.int .i64 0,.int .i64 0,.int .i64 0,.slice none 0 0,.slice none 0 0,.slice (some ⟨g,0,none⟩) es.length cE,.string ⟨#[]⟩] 85))
 obtain⟨p0,p1,p2,p3,p4,p5,p6,p7⟩:=bM xP
 have FP:Fr (fpL b wv) w WP:=(Fr.of_below hbc).trans (hWP▸Fr.of_below bP)
 go_loopw [14] (fun i wr=>∃ (j:Nat) (fa':Option Addr) (fc':Nat) (wv':Value),i=.int .i64 j∧j≤es.length∧dS wr b Sf fa' fc' (fr.drop (aT (es.take j) fr).2.length) wv' (ws++(aT (es.take j) fr).2.map enc1)∧wr.ownsRow 0 108 4 (.slice (some ⟨g,0,none⟩) es.length cE) es.length (aN ((aT (es.take j) fr).1++es.drop j))∧wr.heap[wc.heap.size]?=some (.cells #[.int .i64 3,.int .i64 0,.int .i64 0,.int .i64 0,.slice none 0 0,.slice none 0 0,.slice (some ⟨g,0,none⟩) es.length cE,.string ⟨#[]⟩] 85)∧Fr (fpL b wv) w wr∧∀ k,wv'.ownBlock=some k→wv.ownBlock=some k∨w.heap.size≤k) (fun i _=>es.length-(intOf i).toNat)
 case atStart=>rw [hWP] at hLP hoP xP ⊢;exact⟨0,fa,fc,wv,rfl,Nat.zero_le _,by simpa [aT] using hLP,by simpa [aT] using hoP,xP,FP,fun k hk=>.inl hk⟩
 case round =>
  obtain⟨j,fa',fc',wv',rfl,hj,hL,ho,xp,hF,hli⟩:=hrel
  clear p0 p1 p2 p3 p4 p5 p6 p7
  obtain⟨p0,p1,p2,p3,p4,p5,p6,p7⟩:=bM xp
  have zF:=hF.size
  by_cases hlt:j<es.length
  ·obtain⟨x,hx⟩:=nM (es[j])
   have hxm:x∈es:=hx▸List.getElem_mem hlt
   obtain⟨A,hA⟩:=nM ((aT (es.take j) fr).1)
   have hAl:A.length=j:=by rw [← hA,pU,List.length_take];omega
   obtain⟨f,hf⟩:=nM (fr.drop (aT (es.take j) fr).2.length)
   have hst:=Mb es fr j hlt
   rw [hx,hA,hf] at hst
   have hle1:=nT es fr (j+1)
   rw [hst] at hle1
   simp only [jK,List.length_reverse] at hle1
   have hfl2:f.length=fr.length-(aT (es.take j) fr).2.length:=by rw [← hf,List.length_drop]
   have hfl:(dJ x f).length≤f.length:=by omega
   have hfp:∀ p∈f,aS (p:Nat)=true:=fun p hpp=>hp p (List.mem_of_mem_drop (hf▸hpp))
   have hdr:es.drop j=x :: es.drop (j+1):=by rw [List.drop_eq_getElem_cons hlt,hx]
   rw [hA,hdr] at ho
   rw [hf] at hL
   have hcell:∀ i (u:Value),i<4→x.e.cells[i]?=some u→wr.cell? ⟨g,j * 4+i,none⟩=some u:=fun i u hi hu=>by
    have hidx:(aN (A++x :: es.drop (j+1)))[j * 4+i]?=some u:=by
     have e1:aN (A++x :: es.drop (j+1))=aN A++(x.e.cells++aN (es.drop (j+1))):=by simp [aN]
     have hA4:(aN A).length=j * 4:=by rw [mN,hAl]
     rw [e1,List.getElem?_append_right (by omega),hA4,show j * 4+i-j * 4=i by omega,List.getElem?_append_left (by have:x.e.cells.length=4:=rfl;omega)]
     exact hu
    obtain⟨g',e1,_,_,e2⟩:=nG ho hidx
    simp only [Option.some.injEq,Addr.mk.injEq,and_true] at e1
    rw [e1];exact e2
   have hgx:=hg x hxm
   obtain⟨⟨xk,xv,xs,xo⟩,xch⟩:=x
   have c0:wr.cell? ⟨g,j * 4,none⟩=some (.string xk):=hcell 0 _ (by decide) rfl
   have c1:wr.cell? ⟨g,j * 4+1,none⟩=some (.string xv):=hcell 1 _ (by decide) rfl
   have c2:wr.cell? ⟨g,j * 4+2,none⟩=some (.int .i64 xs):=hcell 2 _ (by decide) rfl
   have c3:wr.cell? ⟨g,j * 4+3,none⟩=some (.int .i64 xo):=hcell 3 _ (by decide) rfl
   have hcE':es.length≤cE:=by have:=ho.2;rcases this with⟨h1,_⟩|⟨_,cap,cur,h1,_,_,h2,_⟩;simp at h1;simp at h1;omega
   have nE:=aA wr (.cells #[.string xk,.string xv,.int .i64 xs,.int .i64 xo] 108)
   obtain⟨q0,q1,q2,q3⟩:=iA nE
   have bE:Below wr.heap.size wr (wr.alloc (.cells #[.string xk,.string xv,.int .i64 xs,.int .i64 xo] 108)):=bA _ _
   have xpE:=aB (.cells #[.string xk,.string xv,.int .i64 xs,.int .i64 xo] 108) xp
   obtain⟨r0,r1,r2,r3,r4,r5,r6,r7⟩:=bM xpE
   have hLE:=hL.fr bE
   have hoE:=World.ownsRow.alloc (w:=wr) ho (.cells #[.string xk,.string xv,.int .i64 xs,.int .i64 xo] 108)
   have FE:Fr (fpL b wv) w (wr.alloc (.cells #[.string xk,.string xv,.int .i64 xs,.int .i64 xo] 108)):=hF.trans (Fr.of_below bE)
   have HST:Hid (aT (es.take (j+1)) fr=(A++[mV ⟨⟨xk,xv,xs,xo⟩,xch⟩ f],(aT (es.take j) fr).2++(dJ ⟨⟨xk,xv,xs,xo⟩,xch⟩ f).reverse)):=hst
   have HF:Hid (fr.drop (aT (es.take j) fr).2.length=f):=hf
   have HAL:Hid (A.length=j):=hAl
   have same:(⟨⟨xk,xv,xs,xo⟩,xch⟩:En).newB=false→(∃ (j_1:Nat) (fa':Option Addr) (fc':Nat) (wv':Value),(Value.int IntKind.i64 ((j:Int)+1))=.int .i64 j_1∧j_1≤es.length∧dS (wr.alloc (.cells #[.string xk,.string xv,.int .i64 xs,.int .i64 xo] 108)) b Sf fa' fc' (fr.drop (aT (es.take j_1) fr).2.length) wv' (ws++(aT (es.take j_1) fr).2.map enc1)∧(wr.alloc (.cells #[.string xk,.string xv,.int .i64 xs,.int .i64 xo] 108)).ownsRow 0 108 4 (.slice (some ⟨g,0,none⟩) es.length cE) es.length (aN ((aT (es.take j_1) fr).1++es.drop j_1))∧(wr.alloc (.cells #[.string xk,.string xv,.int .i64 xs,.int .i64 xo] 108)).heap[wc.heap.size]?=some (.cells #[.int .i64 3,.int .i64 0,.int .i64 0,.int .i64 0,.slice none 0 0,.slice none 0 0,.slice (some ⟨g,0,none⟩) es.length cE,.string ⟨#[]⟩] 85)∧Fr (fpL b wv) w (wr.alloc (.cells #[.string xk,.string xv,.int .i64 xs,.int .i64 xo] 108))∧∀ k,wv'.ownBlock=some k→wv.ownBlock=some k∨w.heap.size≤k):=by
    intro hnb
    have e1:dJ ⟨⟨xk,xv,xs,xo⟩,xch⟩ f=[]:=by rw [dJ,hnb];rfl
    have e2:mV ⟨⟨xk,xv,xs,xo⟩,xch⟩ f=⟨⟨xk,xv,xs,xo⟩,xch⟩:=by rw [mV,hnb];rfl
    have e3:=HST.out
    rw [e1,e2,List.reverse_nil,List.append_nil] at e3
    refine⟨j+1,fa',fc',wv',by simp,by omega,?_,?_,xpE,FE,hli⟩
    ·rw [e3,HF.out];exact hLE
    ·rw [e3,List.append_assoc];exact hoE
   clear hst hf hAl hcell hx hA hdr hcE
   by_cases ho0:xo=0
   ·subst ho0
    by_cases hs60:60<xs
    ·have hnb:(⟨⟨xk,xv,xs,0⟩,xch⟩:En).newB=true:=by simp [En.newB];omega
     obtain⟨gs1,gs2,gs3,gs4⟩:=oP hgx hnb
     have ech:dJ ⟨⟨xk,xv,xs,0⟩,xch⟩ f=gC 2 xv f:=by rw [dJ,hnb];rfl
     rw [ech] at hfl
     obtain⟨ch,hch⟩:=nM (gC 2 xv f)
     have hlenw:(ws++(aT (es.take j) fr).2.map enc1).length+2≤100000:=by
      have:=nT es fr j
      rw [jK,List.length_map];omega
     have hV:=Fi b Sf 2 xv fa' fc' f wv' (ws++(aT (es.take j) fr).2.map enc1) (wr.alloc (.cells #[.string xk,.string xv,.int .i64 xs,.int .i64 0] 108)).drew (hLE.fr ((Below.refl _ _).drew)) (by simp only at gs2;omega) (by simp only at gs2;omega) hfl hfp hlenw
     rw [hch] at hV
     have elx:mV ⟨⟨xk,xv,xs,0⟩,xch⟩ f=⟨⟨xk,⟨#[]⟩,xs,(eY ch:Nat)⟩,ch⟩:=by rw [mV,hnb,if_pos rfl,ech,hch]
     have HST2:Hid (aT (es.take (j+1)) fr=(A++[⟨⟨xk,⟨#[]⟩,xs,(eY ch:Nat)⟩,ch⟩],(aT (es.take j) fr).2++ch.reverse)):=by
      show _=_;rw [HST.out,elx,ech,hch]
     obtain⟨hd,hhd⟩:=nM (eY ch)
     rw [hhd] at hV HST2
     have hs6:(60:Int)<xs:=hs60
     obtain⟨curE,hgE⟩:=qZ hoE
     have zE:g<wr.heap.size:=(jJ.1 (qZ ho).choose_spec).1
     have cB:∀ {o:Nat} {u:Value},wr.cell? ⟨g,o,none⟩=some u→(wr.alloc (.cells #[.string xk,.string xv,.int .i64 xs,.int .i64 0] 108)).cell? ⟨g,o,none⟩=some u:=fun h=>by rw [World.cell?_of_block (w:=wr) (bE.block g zE)];exact h
     have d1:=cB c1
     have d3:=cB c3
     have hnp:g≠wc.heap.size:=by omega
     have hpz:=(gL xp)
     clear same HST hnb ech hch elx hhd cB hs60 gs1 gs2 gs3 gs4
     go_wp2
     go_region_held3 (fun X=>X.cell? ⟨wc.heap.size,6,none⟩=some (.slice (some ⟨g,0,none⟩) es.length cE)∧X.cell? ⟨wr.heap.size,1,none⟩=some (.string xv))
      ((first|(with_reducible exact⟨r6,q1⟩)|(refine⟨?_,?_⟩<;>(with_reducible refine bS (by omega) ?_)<;>(first|(with_reducible exact r6)|(with_reducible exact q1)))|(simp [r6,q1])))
      (first
       | (go_at_call 182;(with_reducible refine jC hV ?_);rintro e wt ⟨rfl,fa2,fc2,wv2,hL2,hF2,hli2⟩;have hF3:Fr (fpL b wv') (wr.alloc (.cells #[.string xk,.string xv,.int .i64 xs,.int .i64 0] 108)) wt:=(Fr.refl _ _).drew.trans hF2;have xpT:=hF3.heap xpE (hLE.not xpE (by decide) (by decide));have nET:=hF3.heap nE (hLE.not nE (by decide) (by decide));have hng:=hLE.not hgE (by decide) (by decide);have hoT:=aZ hoE (hF3.on (Z:=fun k=>k=g) (fun k hk=>⟨by subst hk;exact(gL hgE),by subst hk;exact hng⟩)) (fun k hk=>by simp [Value.ownBlock] at hk;exact hk.symm);obtain⟨r0,r1,r2,r3,r4,r5,r6,r7⟩:=bM xpT;obtain⟨q0,q1,q2,q3⟩:=iA nET;have d1T:=(hF3.cell (o:=j * 4+1) (gL hgE) hng).trans d1;have d3T:=(hF3.cell (o:=j * 4+3) (gL hgE) hng).trans d3;have gfr:=aD (hF3.heap hgE hng)))
     all_goals
      obtain⟨wz,hwz⟩:=nM (wt.setCell ⟨g,j * 4+3,none⟩ (.int .i64 hd))
      rw [hwz]
      have fz:Fr (Bl.one g) wt wz:=hwz▸(Fr.refl (Bl.one g) wt).setCell (p:=⟨g,j * 4+3,none⟩) (.inl rfl) _
      have xpz:=fz.heap xpT (oN (by omega))
      have hAl:=HAL.out
      have hlenE:(aN (A++⟨⟨xk,xv,xs,0⟩,xch⟩ :: es.drop (j+1))).length=es.length * 4:=by rw [mN,jK,jB,List.length_drop];omega
      have hoz:=eI hoT (j * 4+3) (by omega) (.int .i64 hd)
      rw [hwz] at hoz
      have hoz2:=eI hoz (j * 4+1) (by rw [List.length_set];omega) (.string ⟨#[]⟩)
      have d1z:wz.cell? ⟨g,j * 4+1,none⟩=some (.string xv):=by rw [← hwz,World.cell?_setCell_other _ _ _ _ (by simp)];exact d1T
      obtain⟨curz,hgz⟩:=qZ hoz
      have zfr:=aD hgz
      obtain⟨s0,s1,s2,s3,s4,s5,s6,s7⟩:=bM xpz
      clear r0 r1 r2 r3 r4 r5 r6 r7 q0 q1 q2 q3 d1T d3T gfr p0 p1 p2 p3 p4 p5 p6 p7 d1 d3 c0 c1 c2 c3
      go_wp2
      have hput:=Rj A (es.drop (j+1)) ⟨⟨xk,xv,xs,0⟩,xch⟩ ⟨⟨xk,⟨#[]⟩,xs,(hd:Nat)⟩,ch⟩ (hd:Nat) ⟨#[]⟩ rfl
      rw [hAl] at hput
      rw [hput] at hoz2
      have fz2:Fr (Bl.one g) wt (wz.setCell ⟨g,j * 4+1,none⟩ (.string ⟨#[]⟩)):=fz.setCell (p:=⟨g,j * 4+1,none⟩) (.inl rfl) _
      have hngT:¬ fpL b wv2 g:=hL2.not (hF3.heap hgE hng) (by decide) (by decide)
      refine⟨⟨j+1,fa2,fc2,wv2,by simp,by omega,?_,?_,fz2.heap xpT (oN (by omega)),?_,?_⟩,by simp [intOf];omega⟩
      ·rw [HST2.out]
       simp only [jK,List.length_reverse,List.map_append]
       rw [← List.drop_drop,HF.out,← List.append_assoc]
       exact hL2.beside fz2 (fun k hk=>by simp only [Bl.one] at hk;subst hk;exact hngT) (fun k hk=>by simp only [Bl.one] at hk;subst hk;intro hs;have:=(h.apart k hs).1;omega)
      ·rw [HST2.out,List.append_assoc]
       exact hoz2
      ·refine(FE.grow hF3 (fun k hk=>?_)).grow fz2 (fun k hk=>.inr (by simp only [Bl.one] at hk;omega))
       rcases hk with hk|hk
       ·exact .inl (.inl hk)
       ·exact(hli k hk).imp (fun h=>.inr h) id
      ·intro k hk
       rcases hli2 k hk with h1|h1
       ·exact hli k h1
       ·have h2:wr.heap.size+1≤k:=by simpa using h1
        exact .inr (by omega)
    ·have SM:=same (by simp [En.newB];omega)
     have hs6:¬ (60:Int)<xs:=hs60
     clear same
     go_wp2
     exact⟨SM,by simp [intOf];omega⟩
   ·have SM:=same (by simp [En.newB,ho0])
    have hob:(xo==0)=false:=by simpa using ho0
    clear same
    go_wp2
    exact⟨SM,by simp [intOf];omega⟩
  ·obtain rfl:j=es.length:=by omega
   rw [List.take_length] at hL ho
   rw [List.drop_length,List.append_nil] at ho
   obtain⟨les,hles⟩:=nM ((aT es fr).1)
   have hll:les.length=es.length:=by rw [← hles];exact pU es fr
   obtain⟨pl,hpl⟩:=nM (fr[(aT es fr).2.length]'(by omega))
   have hgD:fr.getD (aT es fr).2.length 0=pl:=by rw [List.getD_eq_getElem?_getD,jQ (by omega),hpl];rfl
   have hdr:fr.drop (aT es fr).2.length=pl :: fr.drop ((aT es fr).2.length+1):=by rw [List.drop_eq_getElem_cons (by omega),hpl]
   have hE:=Cp (fs:=fs) (n:=.leaf ⟨iR es,⟨#[]⟩⟩ es) ⟨hne,rfl,hr,ht,hg⟩ fr (by simp only [dK,jK,List.length_singleton];omega) hp (fr.getD (aT es fr).2.length 0,eJ (aT es fr).1) (by simp [dK])
   rw [hles] at ho hE
   have hsm:(eJ les).small:=Qb les (by omega) (fun y hy=>by
    rw [← hles] at hy
    obtain⟨x,hx,f',hf',hfl',rfl,_⟩:=pV (P:=fun _ _=>True) es fr (by omega) y hy
    have hgx:=hg x hx
    refine⟨by rw [uX];exact hgx.2.1,?_⟩
    unfold mV
    split
    ·exact Nat.zero_le _
    ·exact(oQ hgx).2)
   rw [hdr] at hL
   obtain⟨_,_,e1,_,hrow⟩:=cP ho
   simp only [Value.slice.injEq,true_and] at e1
   obtain⟨rfl,rfl⟩:=e1
   have hgz:g<wr.heap.size:=by obtain⟨_,h1⟩:=qZ ho;exact(gL h1)
   obtain⟨curE,hgE⟩:=qZ ho
   have hPg:=Bn b Sf fa' fc' pl _ wv' _ (eJ les) none none (some ⟨g,0,none⟩) 0 0 cE (fun k=>k=g) wr hL ⟨.inl rfl,.inl rfl,(by
     have e:(eJ les).ents.flatMap Ent.cells=aN les:=rfl
     rw [e];exact hrow.mono (fun k hk=>by simp [Value.ownBlock] at hk;exact hk.symm))⟩ (fun k hk=>by subst hk;exact hgz) (fun e=>hL.not hgE (by decide) (by decide) (.inl e.symm)) hsm hE (by
     rw [jK,List.length_map];omega)
   have e1:(eJ les).ents.length=es.length:=by simp [eJ,hll]
   rw [e1] at hPg
   have e2:(eJ les).keys.length=0:=rfl
   have e3:(eJ les).kids.length=0:=rfl
   rw [e2,e3] at hPg
   have HO:Hid (ws++((aT es fr).2++[(fr.getD (aT es fr).2.length 0,eJ (aT es fr).1)]).map enc1=(ws++(aT es fr).2.map enc1)++[(pl,(eJ les).encS)]):=by
    show _=_
    rw [hgD,hles,List.map_append,List.append_assoc];rfl
   obtain⟨sn,hsn⟩:=nM ((eJ les).encS)
   rw [hsn] at hPg HO
   have HGD:Hid (fr.getD (aT es fr).2.length 0=pl):=hgD
   simp only [eJ] at hPg
   clear e1 e2 e3 hsn hgD hdr hE hles hll hpl
   go_wp2_with (go_at_call 180;(with_reducible refine jC hPg ?_);rintro e wp ⟨rfl,fa2,wv2,hL2,hF2,hli2⟩)
   go_ret
   rw [HO.out,HGD.out]
   refine⟨rfl,fa2,_,wv2,hL2,hF.grow hF2 (fun k hk=>?_),fun k hk=>?_⟩
   ·rcases hk with hk|hk
    ·exact .inl (.inl hk)
    ·exact(hli k hk).imp (fun h=>.inr h) id
   ·rcases hli2 k hk with h1|h1
    ·exact hli k h1
    ·exact .inr (vJ hF.size h1)
theorem Gi (b:Nat) (Sf:Bl) (fs:Fs) (n:NT) (hn:Ok0 fs n) (hpl:mR n) (m:MN) (S:Bl) (fa:Option Addr) (fc:Nat) (fr:List Nat) (wv:Value) (ws:List (Nat×ByteArray)) (w:World) (h:dS w b Sf fa fc fr wv ws) (hm:gV w S (nd0 n) m) (hS:∀ b,S b→b<w.heap.size) (hlen:n.ents0.length≤1000) (hl:(dK n fr).2.length≤fr.length) (hp:∀ p∈fr,aS (p:Nat)=true) (hws:ws.length≤10000) :
  Calls Tryz.prog 147 #[.pointer (some ⟨b,0,none⟩),.agg #[.string m.lo,.string m.hi,.int .i64 m.place,.slice m.ea m.en m.ec,.slice m.ka m.kn m.kc]] w fun e w'=>e=.returned (.int .i64 ((dK n fr).1.place:Nat)) ∧
   ∃ fa' fc' wv',dS w' b Sf fa' fc' (fr.drop (dK n fr).2.length) wv' (ws++(dK n fr).2.map enc1)∧Fr (fpL b wv) w w'∧∀ k,wv'.ownBlock=some k→wv.ownBlock=some k∨w.heap.size≤k:=by
 obtain⟨lo,hi,pl,ea,en,ec,ka,kn,kc⟩:=m
 obtain⟨W1,hW1⟩:=nM (w.alloc (.cells #[.string lo,.string hi,.int .i64 pl,.slice ea en ec,.slice ka kn kc] 224))
 have b1:Below w.heap.size w W1:=hW1▸(bA _ _)
 have x1:W1.heap[w.heap.size]?=some (.cells #[.string lo,.string hi,.int .i64 pl,.slice ea en ec,.slice ka kn kc] 224):=hW1▸aA w _
 obtain⟨m0,m1,m2,m3,m4⟩:=eE x1
 have h1:=h.fr b1
 cases n with
 | bran=>exact hn.elim
 | kept t s =>
  obtain⟨_,_,_,_,_,ms,g1,g2,g3,g4,g5,g6,g7,g8,g9,g10,g11⟩:=hm
  have g3':pl=t.place:=g3
  have h0:0<t.place:=hpl t s rfl
  have hpb:((pl:Int) != 0)=true:=by simp;omega
  have HP:Hid (pl=t.place):=g3'
  clear g1 g2 g3 g3' g4 g5 g6 g7 g8 g9 g10 g11
  go_enter Tryz.func147,Tryz.ntmps147
  go_wp2
  go_ret
  exact⟨by rw [HP.out];rfl,fa,fc,wv,by simpa [dK] using h1,Fr.of_below b1,fun k hk=>.inl hk⟩
 | leaf s es =>
  obtain⟨_,_,_,_,_,ms,g1,g2,g3,g4,g5,g6,g7,g8,g9,g10,g11⟩:=hm
  have g3':pl=0:=g3
  have g4':en=es.length:=g4
  have g5':kn=0:=g5
  subst g3' g4' g5'
  clear m0 m1 m2 m3 m4
  change w.alloc (.cells #[.string lo,.string hi,.int .i64 0,.slice ea es.length ec,.slice ka 0 kc] 224)=W1 at hW1
  change W1.heap[w.heap.size]?=some (.cells #[.string lo,.string hi,.int .i64 0,.slice ea es.length ec,.slice ka 0 kc] 224) at x1
  obtain⟨m0,m1,m2,m3,m4⟩:=eE x1
  simp only [dK,jK,List.length_singleton] at hl ⊢
  have hLf:=Zn b Sf fs es ea ec S fa fc fr wv ws W1 h1 (g8.on (vV b1 hS)) (fun k hk=>jY (hS k hk) b1.size) hn.1 hn.2.2.1 hn.2.2.2.2 hn.2.2.2.1 hlen (by omega) hp hws
  obtain⟨pp,hpp⟩:=nM (fr.getD (aT es fr).2.length 0)
  rw [hpp] at hLf
  have HPP:Hid (fr.getD (aT es fr).2.length 0=pp):=hpp
  clear hpp g1 g2 g3 g4 g5 g6 g7 g8 g9 g10 g11 hl
  go_enter Tryz.func147,Tryz.ntmps147
  go_wp2_with (go_at_call 167;(with_reducible refine jC hLf ?_);rintro e w2 ⟨rfl,fa2,fc2,wv2,hL2,hF2,hli2⟩)
  go_ret
  rw [HPP.out]
  exact⟨rfl,fa2,fc2,wv2,hL2,(Fr.of_below b1).trans hF2,fun k hk=>(hli2 k hk).imp id (fun h=>vJ b1.size h)⟩
theorem Cn:∀ (ns:List NT) (n:NT) (fr:List Nat),aY (ns++[n]) fr=((aY ns fr).1++[(dK n (fr.drop (aY ns fr).2.length)).1],(aY ns fr).2++(dK n (fr.drop (aY ns fr).2.length)).2)
 | [],n,fr=>by simp [aY]
 | y :: ns,n,fr=>by
  simp only [jF,aY,Cn ns n,List.drop_drop,jK,List.append_assoc]
theorem Lw (ns:List NT) (fr:List Nat) (j:Nat) (hj:j<ns.length):aY (ns.take (j+1)) fr=((aY (ns.take j) fr).1++[(dK ns[j] (fr.drop (aY (ns.take j) fr).2.length)).1],(aY (ns.take j) fr).2++(dK ns[j] (fr.drop (aY (ns.take j) fr).2.length)).2):=by
 rw [List.take_succ_eq_append_getElem hj,Cn]
theorem nS:∀ (ns:List NT) (fr:List Nat) (j:Nat),(aY (ns.take j) fr).2.length≤(aY ns fr).2.length
 | [],_,_=>by simp [aY]
 | x :: ns,fr,0=>by simp [aY]
 | x :: ns,fr,j+1=>by
  have:=nS ns (fr.drop (dK x fr).2.length) j
  simp only [List.take_succ_cons,aY,jK];omega
def eN (ns:List NT) (j:Nat):List ByteArray:=(ns.take j).tail.map (fun n=>n.sp.lo)
def cD (ns:List NT) (fr:List Nat) (j:Nat):List Nat:=(aY (ns.take j) fr).1.map T.place
theorem Pw (ns:List NT) (j:Nat) (hj:j<ns.length) (h0:0<j):eN ns (j+1)=eN ns j++[(ns[j]).sp.lo]:=by
 unfold eN
 rw [List.take_succ_eq_append_getElem hj,List.tail_append_of_ne_nil (by intro e;have:=congrArg List.length e;rw [List.length_take,jN] at this;omega),List.map_append];rfl
theorem Vl (ns:List NT):eN ns 1=[]:=by
 unfold eN
 cases ns<;>rfl
theorem Vm (ns:List NT) (j:Nat) (hj:j≤ns.length):(eN ns j).length=j-1:=by
 unfold eN;rw [List.length_map,List.length_tail,List.length_take];omega
theorem Le (ns:List NT) (fr:List Nat) (j:Nat) (hj:j≤ns.length):(cD ns fr j).length=j:=by
 unfold cD;rw [List.length_map,dN,List.length_take];omega
theorem dS.notOwn (h:dS w b Sf fa fc fr wv ws)   {v:Value}  (ho:w.ownsRow 0 e z v n xs) (h1:e≠220) (h2:e≠209):∀ k,v.ownBlock=some k→¬ fpL b wv k:=by
 intro k hk
 have ho':=ho
 obtain⟨_,h3⟩:=ho'
 rcases h3 with⟨rfl,_⟩|⟨g,cap,cur,rfl,_,hg,_⟩
 ·simp [Value.ownBlock] at hk
 ·simp [Value.ownBlock] at hk
  subst hk
  exact h.not hg h1 h2
theorem dH {Y:Bl} {w w':World}   {v:Value}  (ho:w.ownsRow 0 e z v n xs) (f:Fr Y w w') (h:∀ k,v.ownBlock=some k→¬ Y k):w'.ownsRow 0 e z v n xs :=
 aZ ho (f.on (Z:=fun k=>v.ownBlock=some k) (fun k hk=>⟨aQ ho hk,h k hk⟩)) (fun k hk=>hk)
theorem Te:(Tryz.prog.info? 3).map (fun i=>(i.zero,i.size,i.bytes))=some (some (.int .i64 0),1,8):=by kernel_rfl
theorem Rx (b:Nat) (Sf:Bl) (fs:Fs) (ns:List NT) (hn:∀ n∈ns,Ok0 fs n∧mR n∧n.ents0.length≤1000) (ms:List MN) (ka:Option Addr) (kc:Nat) (S:Bl) (fa:Option Addr) (fc:Nat) (fr:List Nat) (wv:Value) (ws:List (Nat×ByteArray)) (w:World) (h:dS w b Sf fa fc fr wv ws) (hR:aH w S ka (aL ms)) (hm:bO w S (ns.map nd0) ms) (hS:∀ k,S k→k<w.heap.size∧¬ fpL b wv k) (hlen:ns.length≤1000) (hkc:ns.length≤kc) (hl:(aY ns fr).2.length<fr.length) (hp:∀ p∈fr,aS (p:Nat)=true) (hws:ws.length+(aY ns fr).2.length≤10000)
  (hE:(eM (ns.tail.map (fun n=>n.sp.lo)) ((aY ns fr).1.map T.place)).encE=0) (hsm:(eM (ns.tail.map (fun n=>n.sp.lo)) ((aY ns fr).1.map T.place)).small) :
  Calls Tryz.prog 166 #[.pointer (some ⟨b,0,none⟩),.slice ka ns.length kc] w fun e w'=>e=.returned (.int .i64 ((gD ns fr).1.place:Nat)) ∧
   ∃ fa' fc' wv',dS w' b Sf fa' fc' (fr.drop (gD ns fr).2.length) wv' (ws++(gD ns fr).2.map enc1)∧Fr (fpL b wv) w w'∧∀ k,wv'.ownBlock=some k→wv.ownBlock=some k∨w.heap.size≤k:=by
 have hml:ms.length=ns.length:=by rw [hm.1,List.length_map]
 have xP:=aA w (.cells #[.int .i64 2,.int .i64 0,.int .i64 0,.int .i64 0,.slice none 0 0,.slice none 0 0,.slice none 0 0,.string ⟨#[]⟩] 85)
 have bP:Below w.heap.size w (w.alloc (.cells #[.int .i64 2,.int .i64 0,.int .i64 0,.int .i64 0,.slice none 0 0,.slice none 0 0,.slice none 0 0,.string ⟨#[]⟩] 85)):=bA _ _
 have hLP:=h.fr bP
 go_enter Tryz.func166,Tryz.ntmps166
 go_wp2
 go_loopw [11] (fun i wr=>∃ (j:Nat) (vka via:Option Addr) (vkc vic:Nat) (fa':Option Addr) (fc':Nat) (wv':Value),i=.int .i64 j∧j≤ns.length∧wr.heap[w.heap.size]?=some (.cells #[.int .i64 2,.int .i64 0,.int .i64 0,.int .i64 0,.slice vka (eN ns j).length vkc,.slice via (cD ns fr j).length vic,.slice none 0 0,.string ⟨#[]⟩] 85)∧wr.ownsRow 0 9 1 (.slice vka (eN ns j).length vkc) (eN ns j).length ((eN ns j).map .string)∧wr.ownsRow 0 3 1 (.slice via (cD ns fr j).length vic) (cD ns fr j).length ((cD ns fr j).map (fun n:Nat=>Value.int .i64 n))∧dS wr b Sf fa' fc' (fr.drop (aY (ns.take j) fr).2.length) wv' (ws++(aY (ns.take j) fr).2.map enc1)∧Fr (fpL b wv) w wr∧(∀ k,wv'.ownBlock=some k→wv.ownBlock=some k∨w.heap.size≤k)∧(∀ k,(Value.slice vka (eN ns j).length vkc).ownBlock=some k→w.heap.size≤k)∧(∀ k,(Value.slice via (cD ns fr j).length vic).ownBlock=some k→w.heap.size≤k)) (fun i _=>ns.length-(intOf i).toNat)
 case atStart=>exact⟨0,none,none,0,0,fa,fc,wv,rfl,Nat.zero_le _,by simpa [eN,cD,aY] using xP,by simpa [eN] using World.ownsRow_nil _ _ _ _,by simpa [cD,aY] using World.ownsRow_nil _ _ _ _,by simpa [aY] using hLP,Fr.of_below bP,fun k hk=>.inl hk,by simp [Value.ownBlock],by simp [Value.ownBlock]⟩
 case round =>
  obtain⟨j,vka,via,vkc,vic,fa',fc',wv',rfl,hj,xp,hoK,hoI,hL,hF,hli,hlk,hlii⟩:=hrel
  have zF:=hF.size
  have hpz:w.heap.size<wr.heap.size:=(gL xp)
  by_cases hlt:j<ns.length
  ·obtain⟨n,hnj⟩:=nM (ns[j])
   have hlt2:j<ms.length:=by omega
   obtain⟨m,hmj⟩:=nM (ms[j])
   have oS:On S w wr:=hF.on (fun k hk=>hS k hk)
   obtain⟨rb,ro,hna,hrb,n0,n1,n2,n3,n4⟩:=(hR.on oS).nod hlt2
   rw [hmj] at n0 n1 n2 n3 n4
   subst hna
   have hnm:gV wr S (nd0 n) m:=(hm.2 j (nd0 n) m (by rw [List.getElem?_map,jQ hlt,hnj];rfl) (by rw [jQ hlt2,hmj])).on oS
   have hnn:=hn n (hnj▸List.getElem_mem hlt)
   have hlo:=hnm.lo
   obtain⟨lo,hi,pl,ea,en,ec,qa,qn,qc⟩:=m
   dsimp only at n0 n1 n2 n3 n4 hlo
   have hlo':n.sp.lo=lo:=by rw [hlo];cases n<;>rfl
   have hst:=Lw ns fr j hlt
   rw [hnj] at hst
   obtain⟨f,hf⟩:=nM (fr.drop (aY (ns.take j) fr).2.length)
   rw [hf] at hst hL
   have hle1:=nS ns fr (j+1)
   have hle0:=nS ns fr j
   rw [hst] at hle1
   simp only [jK] at hle1
   have hfl2:f.length=fr.length-(aY (ns.take j) fr).2.length:=by rw [← hf,List.length_drop]
   have hfp:∀ p∈f,aS (p:Nat)=true:=fun p hpp=>hp p (List.mem_of_mem_drop (hf▸hpp))
   have nE:=aA wr (.cells #[.string lo,.string hi,.int .i64 pl,.slice ea en ec,.slice qa qn qc] 224)
   have bE:Below wr.heap.size wr (wr.alloc (.cells #[.string lo,.string hi,.int .i64 pl,.slice ea en ec,.slice qa qn qc] 224)):=bA _ _
   have xpE:=aB (.cells #[.string lo,.string hi,.int .i64 pl,.slice ea en ec,.slice qa qn qc] 224) xp
   have hLE:=hL.fr bE
   have hoKE:=World.ownsRow.alloc (w:=wr) hoK (.cells #[.string lo,.string hi,.int .i64 pl,.slice ea en ec,.slice qa qn qc] 224)
   have hoIE:=World.ownsRow.alloc (w:=wr) hoI (.cells #[.string lo,.string hi,.int .i64 pl,.slice ea en ec,.slice qa qn qc] 224)
   have FE:Fr (fpL b wv) w (wr.alloc (.cells #[.string lo,.string hi,.int .i64 pl,.slice ea en ec,.slice qa qn qc] 224)):=hF.trans (Fr.of_below bE)
   have hSE:∀ k,S k→k<(wr.alloc (.cells #[.string lo,.string hi,.int .i64 pl,.slice ea en ec,.slice qa qn qc] 224)).heap.size:=fun k hk=>by have:=(hS k hk).1;simp;omega
   have hNd:=Gi b Sf fs n hnn.1 hnn.2.1 ⟨lo,hi,pl,ea,en,ec,qa,qn,qc⟩ S fa' fc' f wv' (ws++(aY (ns.take j) fr).2.map enc1) (wr.alloc (.cells #[.string lo,.string hi,.int .i64 pl,.slice ea en ec,.slice qa qn qc] 224)).drew (hLE.fr ((Below.refl _ _).drew)) (((hnm.on (vV bE (fun k hk=>by have:=(hS k hk).1;omega))).on (vV ((Below.refl _ _).drew) hSE))) hSE hnn.2.2 (by omega) hfp (by rw [jK,List.length_map];omega)
   obtain⟨pp,hpp⟩:=nM ((dK n f).1.place)
   rw [hpp] at hNd
   have HPL:Hid (cD ns fr (j+1)=cD ns fr j++[pp]):=by
    show _=_
    unfold cD
    rw [hst,List.map_append,← hpp];rfl
   have HST:Hid ((aY (ns.take (j+1)) fr).2=(aY (ns.take j) fr).2++(dK n f).2):=by show _=_;rw [hst]
   have HF:Hid (fr.drop (aY (ns.take j) fr).2.length=f):=hf
   have HLO:Hid (0<j→eN ns (j+1)=eN ns j++[lo]):=fun h0=>by rw [Pw ns j hlt h0,hnj,hlo']
   have hpln:(cD ns fr j).length=j:=Le ns fr j hj
   have hlwn:(eN ns j).length=j-1:=Vm ns j hj
   have HPN:Hid ((cD ns fr j).length=j):=hpln
   have HLN:Hid ((eN ns j).length=j-1):=hlwn
   obtain⟨u0,u1,u2,u3,u4,u5,u6,u7⟩:=bM xpE
   obtain⟨q0,q1,q2,q3,q4⟩:=eE nE
   have hb3:(cD ns fr j).length+1≤100000:=by omega
   have hb4:(eN ns j).length+1≤100000:=by omega
   clear hst hf hle1 hle0 hfl2 hpp hlo hlo' hnj hmj hpln hlwn
   go_wp2
   refine qQ (S:=(fun X=>X.cell? ⟨wr.heap.size,0,none⟩=some (.string lo)∧X.cell? ⟨wr.heap.size,1,none⟩=some (.string hi)∧X.cell? ⟨wr.heap.size,2,none⟩=some (.int .i64 pl)∧X.cell? ⟨wr.heap.size,3,none⟩=some (.slice ea en ec)∧X.cell? ⟨wr.heap.size,4,none⟩=some (.slice qa qn qc)∧X.cell? ⟨w.heap.size,5,none⟩=some (.slice via (cD ns fr j).length vic))) 8 (by kernel_rfl) ?_
   have hHeld:=(show ((fun X=>X.cell? ⟨wr.heap.size,0,none⟩=some (.string lo)∧X.cell? ⟨wr.heap.size,1,none⟩=some (.string hi)∧X.cell? ⟨wr.heap.size,2,none⟩=some (.int .i64 pl)∧X.cell? ⟨wr.heap.size,3,none⟩=some (.slice ea en ec)∧X.cell? ⟨wr.heap.size,4,none⟩=some (.slice qa qn qc)∧X.cell? ⟨w.heap.size,5,none⟩=some (.slice via (cD ns fr j).length vic))) ((wr.alloc (.cells #[.string lo,.string hi,.int .i64 pl,.slice ea en ec,.slice qa qn qc] 224)).drew) from ⟨q0,q1,q2,q3,q4,u5⟩)
   refine cV (i:=0) (v:=.pointer (some ⟨w.heap.size,5,none⟩)) rfl (by kernel_rfl) (fun _ _ _ h=>h) (.inl ⟨by rfl,fun w hSw=>by(try dsimp only at hSw);go_simp⟩) (by assumption) (fun hHeld=>?_)
   try simp only [Act.put,jV,jZ,jX]
   refine cV (i:=1) (v:=.slice via (cD ns fr j).length vic) rfl (by kernel_rfl) (fun _ _ _ h=>h) (.inl ⟨by rfl,fun w hSw=>by(try dsimp only at hSw);go_simp⟩) (by assumption) (fun hHeld=>?_)
   try simp only [Act.put,jV,jZ,jX]
   refine cV (i:=2) (v:=.pointer (some ⟨b,0,none⟩)) rfl (by kernel_rfl) (fun _ _ _ h=>h) (.inl ⟨by rfl,fun w hSw=>by(try dsimp only at hSw);go_simp⟩) (by assumption) (fun hHeld=>?_)
   try simp only [Act.put,jV,jZ,jX]
   refine cV (i:=3) (v:=.agg #[.string lo,.string hi,.int .i64 pl,.slice ea en ec,.slice qa qn qc]) rfl (by kernel_rfl) (fun _ _ _ h=>h) (.inl ⟨by rfl,fun w hSw=>by(try dsimp only at hSw);go_simp⟩) (by assumption) (fun hHeld=>?_)
   try simp only [Act.put,jV,jZ,jX]
   refine gN (i:=4) (by kernel_rfl) rfl (fun K hK=>?_)
   go_simp
   (go_at_call 147;(with_reducible refine jC hNd ?_);rintro e wt ⟨rfl,fa2,fc2,wv2,hL2,hF2,hli2⟩;have hF3:Fr (fpL b wv') (wr.alloc (.cells #[.string lo,.string hi,.int .i64 pl,.slice ea en ec,.slice qa qn qc] 224)) wt:=(Fr.refl _ _).drew.trans hF2;have xpT:=hF3.heap xpE (hLE.not xpE (by decide) (by decide));have nET:=hF3.heap nE (hLE.not nE (by decide) (by decide));have hoKT:=dH hoKE hF3 (hLE.notOwn hoKE (by decide) (by decide));have hoIT:=dH hoIE hF3 (hLE.notOwn hoIE (by decide) (by decide));obtain⟨u0,u1,u2,u3,u4,u5,u6,u7⟩:=bM xpT;obtain⟨q0,q1,q2,q3,q4⟩:=eE nET;have xpTA:=aB (.cells #[.int .i64 (pp:Nat)] 3) xpT;have nETA:=aB (.cells #[.int .i64 (pp:Nat)] 3) nET;obtain⟨t0,t1,t2,t3,t4,t5,t6,t7⟩:=bM xpTA;obtain⟨qq0,qq1,qq2,qq3,qq4⟩:=eE nETA)
   simp only []
   refine hK.out _ _ (fun _=>⟨q0,q1,q2,q3,q4,u5⟩) ?_
   clear hK K
   try simp only [Act.put,jV,jZ,jX]
   refine gN (i:=5) (by kernel_rfl) rfl (fun K hK=>?_)
   go_simp
   refine hK.out _ _ (fun _=>⟨qq0,qq1,qq2,qq3,qq4,t5⟩) ?_
   clear hK K
   try simp only [Act.put,jV,jZ,jX]
   refine gN (i:=6) (by kernel_rfl) rfl (fun K hK=>?_)
   (refine kH wt rfl (.tmp 17) (.tmp 21) 22 3 _ 1 8 rfl Tryz.underlying22 Te rfl (by decide) (.slice via (cD ns fr j).length vic) (cD ns fr j).length ((cD ns fr j).map (fun n:Nat=>Value.int .i64 n)) (by simp [Act.eval,Act.put]) hoIT [.int .i64 (pp:Nat)] (by simp [Act.eval,Act.put]) rfl (by simp [Value.oneCell']) (by omega) (by omega) ?_;intro v3 w3 A3;obtain⟨g3,k3,rfl⟩:=A3.shape (by decide);have xp3:=A3.fr.heap xpT (bD hoIT xpT (by decide));have nE3:=A3.fr.heap nET (bD hoIT nET (by decide));obtain⟨u0,u1,u2,u3,u4,u5,u6,u7⟩:=bM xp3;obtain⟨q0,q1,q2,q3,q4⟩:=eE nE3;have pfr:=aD xp3)
   refine hK.out _ _ (fun _=>⟨q0,q1,q2,q3,q4,u5⟩) ?_
   clear hK K
   try simp only [Act.put,jV,jZ,jX]
   have hHeld:=(show ((fun X=>X.cell? ⟨wr.heap.size,0,none⟩=some (.string lo)∧X.cell? ⟨wr.heap.size,1,none⟩=some (.string hi)∧X.cell? ⟨wr.heap.size,2,none⟩=some (.int .i64 pl)∧X.cell? ⟨wr.heap.size,3,none⟩=some (.slice ea en ec)∧X.cell? ⟨wr.heap.size,4,none⟩=some (.slice qa qn qc)∧X.cell? ⟨w.heap.size,5,none⟩=some (.slice via (cD ns fr j).length vic))) w3 from ⟨q0,q1,q2,q3,q4,u5⟩)
   refine cV (i:=7) (v:=.pointer (some ⟨w.heap.size,5,none⟩)) rfl (by kernel_rfl) (fun _ _ _ h=>h) (.inl ⟨by rfl,fun w hSw=>by(try dsimp only at hSw);go_simp⟩) (by assumption) (fun hHeld=>?_)
   try simp only [Act.put,jV,jZ,jX]
   refine gN (i:=8) (by kernel_rfl) rfl (fun K hK=>?_)
   go_simp
   refine hK.out _ _ (fun e=>by cases e) ?_
   clear hK K
   try simp only [Act.put,jV,jZ,jX]
   refine xI (by kernel_rfl) ?_ _
   all_goals
    obtain⟨w4,hw4⟩:=nM (w3.setCell ⟨w.heap.size,5,none⟩ (.slice (some ⟨g3,0,none⟩) ((cD ns fr j).length+1) k3))
    rw [hw4]
    have f4:Fr (Bl.one w.heap.size) w3 w4:=hw4▸(Fr.refl (Bl.one w.heap.size) w3).setCell (p:=⟨w.heap.size,5,none⟩) (.inl rfl) _
    have xp4:w4.heap[w.heap.size]?=some (.cells #[.int .i64 2,.int .i64 0,.int .i64 0,.int .i64 0,.slice vka (eN ns j).length vkc,.slice (some ⟨g3,0,none⟩) ((cD ns fr j).length+1) k3,.slice none 0 0,.string ⟨#[]⟩] 85):=by rw [← hw4];have:=aF xp3 5 (.slice (some ⟨g3,0,none⟩) ((cD ns fr j).length+1) k3);simpa using this
    have nE4:=f4.heap nE3 (oN (by omega))
    have hoI4:=dH A3.row f4 (fun k hk e=>by simp only [Bl.one] at e;subst e;exact bD A3.row xp3 (by decide) hk)
    have hoK3:=dH hoKT A3.fr (fun k hk e=>by rcases pQ hoKT hoIT (by decide) with h1|h1;rw [h1] at hk;cases hk;exact h1 (hk.trans e.symm))
    have hoK4:=dH hoK3 f4 (fun k hk e=>by simp only [Bl.one] at e;subst e;exact bD hoK3 xp3 (by decide) hk)
    have hL3:=hL2.beside A3.fr (fun k hk=>hL2.notOwn hoIT (by decide) (by decide) k hk) (fun k hk hs=>by have h1:=hlii k hk;have h2:=(h.apart k hs).1;omega)
    have hL4:=hL3.beside f4 (fun k hk=>by simp only [Bl.one] at hk;subst hk;exact hL3.not xp3 (by decide) (by decide)) (fun k hk hs=>by simp only [Bl.one] at hk;have h2:=(h.apart k hs).1;omega)
    have F3:Fr (fpL b wv) w wt:=FE.grow hF3 (fun k hk=>by rcases hk with hk|hk;exact .inl (.inl hk);exact(hli k hk).imp (fun h=>.inr h) id)
    have F4:Fr (fpL b wv) w w4:=(F3.grow A3.fr (fun k hk=>.inr (hlii k hk))).grow f4 (fun k hk=>.inr (by simp only [Bl.one] at hk;omega))
    have hli4:∀ k,wv2.ownBlock=some k→wv.ownBlock=some k∨w.heap.size≤k:=fun k hk=>by
     rcases hli2 k hk with h1|h1
     ·exact hli k h1
     ·have h2:wr.heap.size+1≤k:=by simpa using h1
      exact .inr (by omega)
    have hli3:∀ k,(Value.slice (some ⟨g3,0,none⟩) ((cD ns fr j).length+1) k3).ownBlock=some k→w.heap.size≤k:=fun k hk=>by
     rcases A3.lies k hk with h1|h1
     ·exact hlii k h1
     ·have:=F3.size;omega
    have HI:Hid (w4.ownsRow 0 3 1 (.slice (some ⟨g3,0,none⟩) (cD ns fr (j+1)).length k3) (cD ns fr (j+1)).length ((cD ns fr (j+1)).map (fun n:Nat=>Value.int .i64 n))):=by
     rw [HPL.out,jK,List.length_singleton,List.map_append];exact hoI4
    have HLL:Hid (dS w4 b Sf fa2 fc2 (fr.drop (aY (ns.take (j+1)) fr).2.length) wv2 (ws++(aY (ns.take (j+1)) fr).2.map enc1)):=by
     rw [HST.out,jK,List.map_append,← List.drop_drop,HF.out,← List.append_assoc];exact hL4
    have HPLn:Hid ((cD ns fr (j+1)).length=(cD ns fr j).length+1):=by show _=_;rw [HPL.out,jK];rfl
    obtain⟨v0,v1,v2,v3',v4,v5',v6,v7⟩:=bM xp4
    obtain⟨q0,q1,q2,q3,q4⟩:=eE nE4
    have pfr4:=aD xp4
    have nfr4:=aD nE4
    clear u0 u1 u2 u3 u4 u5 u6 u7 hw4 hNd xpTA nETA qq0 qq1 qq2 qq3 qq4 t0 t1 t2 t3 t4 t5 t6 t7 n0 n1 n2 n3 n4
    by_cases hj0:0<j
    ·have hj0':(0:Int)<(j:Int):=by omega
     go_wp2_with (at_builtin;refine nA w4 rfl (.tmp 27) (.tmp 31) 70 9 _ 1 16 rfl Tryz.underlying70 tP rfl (by decide) (.slice vka (eN ns j).length vkc) (eN ns j).length ((eN ns j).map .string) rfl hoK4 [.string lo] (by simp [Act.eval]) rfl (by simp [Value.oneCell']) (by omega) (by omega) ?_;intro vv5 w5 A5;obtain⟨g5,k5,rfl⟩:=A5.shape (by decide);have xp5:=A5.fr.heap xp4 (bD hoK4 xp4 (by decide));obtain⟨z0,z1,z2,z3,z4,z5,z6,z7⟩:=bM xp5;have pfr5:=aD xp5)
     have f6:Fr (Bl.one w.heap.size) w5 (w5.setCell ⟨w.heap.size,4,none⟩ (.slice (some ⟨g5,0,none⟩) ((eN ns j).length+1) k5)):=(Fr.refl (Bl.one w.heap.size) w5).setCell (p:=⟨w.heap.size,4,none⟩) (.inl rfl) _
     have xp6:=aF xp5 4 (.slice (some ⟨g5,0,none⟩) ((eN ns j).length+1) k5)
     have hoI5:=dH HI.out A5.fr (fun k hk e=>by rcases pQ HI.out hoK4 (by decide) with h1|h1;rw [h1] at hk;cases hk;exact h1 (hk.trans e.symm))
     have hoI6:=dH hoI5 f6 (fun k hk e=>by simp only [Bl.one] at e;subst e;exact bD hoI5 xp5 (by decide) hk)
     have hoK6:=dH A5.row f6 (fun k hk e=>by simp only [Bl.one] at e;subst e;exact bD A5.row xp5 (by decide) hk)
     have hL5:=HLL.out.beside A5.fr (fun k hk=>HLL.out.notOwn hoK4 (by decide) (by decide) k hk) (fun k hk hs=>by have h1:=hlk k hk;have h2:=(h.apart k hs).1;omega)
     have hL6:=hL5.beside f6 (fun k hk=>by simp only [Bl.one] at hk;subst hk;exact hL5.not xp5 (by decide) (by decide)) (fun k hk hs=>by simp only [Bl.one] at hk;have h2:=(h.apart k hs).1;omega)
     have hlw:=HLO.out hj0
     have hlwl:(eN ns (j+1)).length=(eN ns j).length+1:=by rw [hlw,jK];rfl
     refine⟨⟨j+1,some ⟨g5,0,none⟩,some ⟨g3,0,none⟩,k5,k3,fa2,fc2,wv2,by simp,by omega,?_,?_,hoI6,hL6,(F4.grow A5.fr (fun k hk=>.inr (hlk k hk))).grow f6 (fun k hk=>.inr (by simp only [Bl.one] at hk;omega)),hli4,?_,?_⟩,by simp [intOf];omega⟩
     ·rw [hlwl,HPLn.out];simpa using xp6
     ·rw [hlwl,hlw,List.map_append];exact hoK6
     ·intro k hk
      rw [hlwl] at hk
      rcases A5.lies k hk with h1|h1
      ·exact hlk k h1
      ·have:=F4.size;omega
     ·intro k hk
      rw [HPLn.out] at hk
      exact hli3 k hk
    ·have hj0':¬ (0:Int)<(j:Int):=by omega
     have hj00:j=0:=by omega
     have hl1:eN ns (j+1)=eN ns j:=by rw [hj00,Vl];rfl
     have HL1:Hid (eN ns (j+1)=eN ns j):=hl1
     have HJ0:Hid (j=0):=hj00
     clear hl1 hj00
     go_wp2
     refine⟨⟨j+1,vka,some ⟨g3,0,none⟩,vkc,k3,fa2,fc2,wv2,by simp,by omega,?_,?_,HI.out,HLL.out,F4,hli4,?_,?_⟩,by simp [intOf];omega⟩
     ·rw [HL1.out,HPLn.out];exact xp4
     ·rw [HL1.out];exact hoK4
     ·intro k hk;rw [HL1.out] at hk;exact hlk k hk
     ·intro k hk
      rw [HPLn.out] at hk
      exact hli3 k hk
  ·obtain rfl:j=ns.length:=by omega
   rw [List.take_length] at hL
   have hlw:eN ns ns.length=ns.tail.map (fun n=>n.sp.lo):=by unfold eN;rw [List.take_length]
   have hpw:cD ns fr ns.length=(aY ns fr).1.map T.place:=by unfold cD;rw [List.take_length]
   rw [hlw] at xp hoK hlk
   rw [hpw] at xp hoI hlii
   obtain⟨los,hlos⟩:=nM (ns.tail.map (fun n=>n.sp.lo))
   obtain⟨pls,hpls⟩:=nM ((aY ns fr).1.map T.place)
   rw [hlos] at xp hoK hlk hE hsm
   rw [hpls] at xp hoI hlii hE hsm
   obtain⟨pl,hpl⟩:=nM (fr[(aY ns fr).2.length]'(by omega))
   have hgD:fr.getD (aY ns fr).2.length 0=pl:=by rw [List.getD_eq_getElem?_getD,jQ (by omega),hpl];rfl
   have hdr:fr.drop (aY ns fr).2.length=pl :: fr.drop ((aY ns fr).2.length+1):=by rw [List.drop_eq_getElem_cons (by omega),hpl]
   rw [hdr] at hL
   obtain⟨a1,c1,e1,hc1,hrowK⟩:=cP hoK
   simp only [Value.slice.injEq,true_and] at e1
   obtain⟨rfl,rfl⟩:=e1
   obtain⟨a2,c2,e2,hc2,hrowI⟩:=cP hoI
   simp only [Value.slice.injEq,true_and] at e2
   obtain⟨rfl,rfl⟩:=e2
   have hPg:=Bn b Sf fa' fc' pl _ wv' _ (eM los pls) vka via none vkc vic 0 (fun k=>(Value.slice vka los.length vkc).ownBlock=some k∨(Value.slice via pls.length vic).ownBlock=some k) wr hL ⟨hrowK.mono (fun k hk=>.inl hk),(by
     have e:(eM los pls).kids.map (Value.int .i64)=pls.map (fun n:Nat=>Value.int .i64 n):=by simp [eM,Function.comp_def]
     rw [e];exact hrowI.mono (fun k hk=>.inr hk)),.inl rfl⟩ (fun k hk=>by rcases hk with hk|hk;exact aQ hoK hk;exact aQ hoI hk) (fun e=>by rcases e with e|e;exact hL.notOwn hoK (by decide) (by decide) _ e (.inl rfl);exact hL.notOwn hoI (by decide) (by decide) _ e (.inl rfl)) hsm hE (by rw [jK,List.length_map];omega)
   have e1:(eM los pls).kids.length=pls.length:=by simp [eM]
   rw [e1] at hPg
   have e2:(eM los pls).ents.length=0:=rfl
   rw [e2] at hPg
   obtain⟨sn,hsn⟩:=nM ((eM los pls).encS)
   rw [hsn] at hPg
   have HO:Hid (ws++(gD ns fr).2.map enc1=(ws++(aY ns fr).2.map enc1)++[(pl,sn)]):=by
    show _=_
    rw [gD]
    simp only
    rw [hgD,hlos,hpls,List.map_append,List.append_assoc,← hsn];rfl
   have HPP:Hid ((gD ns fr).1.place=pl):=by show _=_;rw [gD];exact hgD
   have HLB:Hid ((gD ns fr).2.length=(aY ns fr).2.length+1):=by show _=_;rw [gD];simp
   simp only [eM] at hPg
   obtain⟨v0,v1,v2,v3',v4,v5',v6,v7⟩:=bM xp
   clear e1 e2 hsn hgD hdr hE hsm hlos hpls hpl hlw hpw
   go_wp2_with (go_at_call 180;(with_reducible refine jC hPg ?_);rintro e wp ⟨rfl,fa2,wv2,hL2,hF2,hli2⟩)
   go_ret
   rw [HO.out,HPP.out,HLB.out]
   refine⟨rfl,fa2,_,wv2,hL2,hF.grow hF2 (fun k hk=>?_),fun k hk=>?_⟩
   ·rcases hk with hk|hk
    ·exact .inl (.inl hk)
    ·exact(hli k hk).imp (fun h=>.inr h) id
   ·rcases hli2 k hk with h1|h1
    ·exact hli k h1
    ·exact .inr (vJ hF.size h1)
