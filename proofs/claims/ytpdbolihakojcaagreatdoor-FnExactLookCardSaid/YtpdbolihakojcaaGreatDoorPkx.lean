import Derived.Test.YtpdbolihakojcaaGreatDoorPkv
namespace Go.Proofs.YtpdbolihakojcaaGreatDoor
set_option maxRecDepth 20000
set_option linter.unusedVariables false
set_option linter.unusedSimpArgs false
set_option maxHeartbeats 4000000
open Go.RowKit
variable {W Y w w' w0 wr : World} {b : List UInt8} {A B at_ base' c cap e f g gs i j k lo m n u z : Nat} {R d is l : List Nat} {E G I J K L M N O v0 v1 v2 v3 v4 v5 v6 x y : Value} {o : Oper} {Q : Exit → Act → World → Prop} {bvs xs : List Value} {t : TypeId} {cs tmps : Array Value} {p : Addr} {a : Option Addr} {first ok : Bool} {s : ByteArray} {rs : List (List Nat)}
theorem EV{t:List UInt8}(h:dS t 1 4294967295=some n)(z:n≠4294967295):dS t 1 4294967294=some n:=by
 unfold dS at*;split at h
 ·next hc=>
  simp only[MK] at h;rw[if_pos ⟨hc.1,hc.2.1,by omega⟩,h]
 ·cases h
theorem xy{t:List UInt8}(h:dS t 1 4294967295=none):dS t 1 4294967294=none:=by
 unfold dS at*;split at h
 ·cases h
 ·next hc=>rw[if_neg (fun z=>hc ⟨z.1,z.2.1,by omega⟩)]
theorem xw{t:List UInt8}(h:dS t 1 4294967295=some 4294967295):dS t 1 4294967294=none:=by
 unfold dS at*;split at h
 ·next hc=>
  simp only[MK] at h;rw[if_neg (fun z=>by omega)]
 ·cases h
theorem lN{ws:List (List UInt8)}{s:IX}(h:ws.length=5→s.mails.length<100→it ([65]::ws) s=none):dU false ([65]::ws) s=none:=by
 unfold dU;rw[if_neg (by simp)];unfold me;rw[if_neg (by simp)];split
 ·next hc=>exact h (by simpa using hc.1) hc.2.2
 ·rfl
theorem Jt{c d e f:List UInt8}{s:IX}{t fl:Nat}(M:s.mails.length<100)(E:dS b 1 4294967294=some u)(G:dS c 0 1000000000000=some t)(I:dS d 0 2147483647=some fl)(J:dS e 0 40000=some n)(K:dS f 0 1=some z)(L:kz s.mails u=true):
  dU false [[65],b,c,d,e,f] s=some {s with next:=if s.next≤u then u+1 else s.next,mails:=s.mails++[⟨u,t,fl,n,z⟩]}:=by
 unfold dU;rw[if_neg (by simp)];unfold me;rw[if_neg (by simp),if_pos ⟨rfl,rfl,M⟩];unfold it;have A:dS b 1 (fY-1)=some u:=E;simp only[A,G,I,J,K,L,if_true]
theorem LY{r:List (List UInt8)}{s:IX}(h:dS b 1 4294967294=none):it ([65]::b::r) s=none:=by
 unfold it;have z:dS b 1 (fY-1)=none:=h;split
 ·next e=>cases e;simp only[z]
 ·rfl
theorem Mx{c:List UInt8}{r:List (List UInt8)}{s:IX}(h:dS c 0 1000000000000=none):it ([65]::b::c::r) s=none:=by
 unfold it;split
 ·next e=>
  cases e;cases dS b 1 (fY-1)<;>simp only[h]
 ·rfl
theorem My{c d:List UInt8}{r:List (List UInt8)}{s:IX}(h:dS d 0 2147483647=none):it ([65]::b::c::d::r) s=none:=by
 unfold it;split
 ·next e=>
  cases e;cases dS b 1 (fY-1)<;>cases dS c 0 1000000000000<;>simp only[h]
 ·rfl
theorem Mz{c d e:List UInt8}{r:List (List UInt8)}{s:IX}(h:dS e 0 40000=none):it ([65]::b::c::d::e::r) s=none:=by
 unfold it;split
 ·next e1=>
  cases e1;cases dS b 1 (fY-1)<;>cases dS c 0 1000000000000<;>cases dS d 0 2147483647<;>simp only[h]
 ·rfl
theorem MB{c d e f:List UInt8}{r:List (List UInt8)}{s:IX}(h:dS f 0 1=none):it ([65]::b::c::d::e::f::r) s=none:=by
 unfold it;split
 ·next e1=>
  cases e1;cases dS b 1 (fY-1)<;>cases dS c 0 1000000000000<;>cases dS d 0 2147483647<;>cases dS e 0 40000<;>simp only[h]
 ·rfl
theorem MC{r:List (List UInt8)}{s:IX}(h:dS b 1 4294967294=some u)(E:kz s.mails u=false):it ([65]::b::r) s=none:=by
 unfold it;have A:dS b 1 (fY-1)=some u:=h;split
 ·next x y z _ _ e1=>
  cases e1;simp only[A,E];split<;>simp_all
 ·rfl
theorem Tryz.infoIL:(Tryz.prog.info? 262).map (fun i=>(i.zero,i.size,i.bytes))=some (some (.agg #[.int .u32 0,.int .i64 0,.int .u32 0,.slice none 0 0,.int .i64 0,.bool false]),6,64):=by kernel_rfl
theorem tt{M:Array Oper}{A:Act}{K:Act→World→Prop}{E:Prop}(w:World)(V:o.guard=none)(s x:Operand)
  (ho:o.op= .call {callee:= .builtin .append,args:= #[s,x],argTypes:= #[214,214]})
  (G:Nat) (v:Value) (ms:List IM) (m:IM) (J c:Nat) (hs:A.eval s=v) (hx:A.eval x= .slice (some ⟨J,0,none⟩) 1 c) (L:mr w G v ms)
  (hc:∀j u,(il0 m)[j]? =some u→w.cell? ⟨J,j,none⟩=some u) (ab:ms.length≤1048576) (O:G≤w.heap.size)
  (h:∀I w',mr w' G I (ms++[m])→w.grownBy w' v.ownBlock→K (A.put o.dst I) w'):if Region.wanted o (yielded M A.tmps)=true then Oper.wp Tryz.prog o A w K Q else E:=by
 have hw:Region.wanted o (yielded M A.tmps)=true:=(by simp[Region.wanted,V]);rw[if_pos hw];obtain⟨i0,hi,Y,Z,aa⟩:=info_parts Tryz.infoIL;have R:w.ownsRow G 262 6 v ms.length (ms.map il0).flatten:=(by have:=L.2;rw[MI] at this;exact this);refine wp_append_own w s x 214 ho G 262 i0 (.agg #[.int .u32 0,.int .i64 0,.int .u32 0,.slice none 0 0,.int .i64 0,.bool false]) 6 64 Tryz.underlying214 hi Y Z aa rfl (by decide) v ms.length (ms.map il0).flatten hs R ⟨J,0,none⟩ 1 c (il0 m) hx (by simp[il0]) ?_ ?_ (by unfold maxLen;omega) (by omega) O ?_
 ·intro j u hj;rw[ej,Ng];exact hc j u hj
 ·intro u N;simp only[il0,M1,Nw,or_false] at N;rcases N with rfl|rfl|rfl|rfl|rfl|rfl<;>rfl
 ·intro I w' U hg _;refine h I w' ⟨?_,?_⟩ hg
  ·intro y z;rw[MS,Nb] at z;rcases z with z|z
   ·exact L.1 y z
   ·simp only[M0,Ns,M9] at z;rw[z];rfl
  ·rw[MI,MT,MS,NG];simpa using U
theorem RdI.aside{E G:Nat}{s:IX}{A:Value}{ws:List ByteArray}(h:RdI E G B w wr s A ws)(K:Blk wr g cs 262)(J:B≤g)(L:A.ownBlock≠some g)(u:Value):RdI E G B w (wr.setCell ⟨g,j,none⟩ u) s A ws:=by
 have O:=h.n1;refine⟨h.st.other (by omega) u,b9.keep h.row (fun b z=>heap_setCell_other wr ⟨g,j,none⟩ b u (by intro e;have I:b=g:=e;subst I;exact L z)),h.tw.keep (fun b N t z M=>heap_setCell_other wr ⟨g,j,none⟩ b u (by
  have:b≠g:=kY z K (by rcases M with rfl|rfl<;>decide);simpa using this)),h.fr.high J u,by simpa using h.sz,h.n1,h.n2⟩
theorem Ln{Q:Nat}{s:IX}{r:List ByteArray}{M:IM}{o:Obj}(h:RdI z Q B w W s G r)(O:Y.heap=(W.alloc o).heap)(e2:Y.os=W.os)(e3:Y.tape=W.tape)(e4:Y.output=W.output)(Z:mr w' B E (s.mails++[M]))(J:Y.grownBy w' G.ownBlock):
  w'.cell? ⟨z,9,none⟩=some G∧w'.frozen? ⟨z,9,none⟩=false∧RdI z Q B w (w'.setCell ⟨z,9,none⟩ E) {s with mails:=s.mails++[M]} E r:=by
 have N:=nAl W o;have ab:W.heap.size≤w'.heap.size:=by
  have:=J.size;rw[O] at this;exact MN N.size this
 have L:∀b,b<W.heap.size→G.ownBlock≠some b→w'.heap[b]? =W.heap[b]? :=fun b I R=>by
  rw[J.block b (by rw[O];exact MW I N.size) (fun e=>R e.symm),O];exact N.block b I
 have n1:=h.n1;have n2:=h.n2;have ac:=h.sz;have V:∀b,b<B→G.ownBlock≠some b:=fun b A e=>(by have:=(b9.lt h.row b e).1;omega);have K:MbI w' z s G:=h.st.keepB (L z (by omega) (V z n1));have hT:TW w' Q r:=h.tw.keep (fun b aa t A U=>L b A.lt (eM h.row A (by rcases U with rfl|rfl<;>decide)));refine⟨K.cell 9,K.fz 9,?_,?_,?_,?_,by simp;omega,n1,n2⟩
 ·have:=K.set 9 E;show Blk _ z (mbA _ _) _;simpa[mbA] using this
 ·exact b9.keep Z (fun b A=>heap_setCell_other w' ⟨z,9,none⟩ b E (by have:=(b9.lt Z b A).1;simp;omega))
 ·exact hT.keep (fun b aa t A U=>heap_setCell_other w' ⟨z,9,none⟩ b E (by
   have:b≠z:=kY A K (by rcases U with rfl|rfl<;>decide);simpa using this))
 ·refine dV.set ⟨J.os.trans (e2.trans h.fr.os),J.tape.trans (e3.trans h.fr.tape),J.output.trans (e4.trans h.fr.output),MN h.fr.size ab,fun b I R=>(L b (by omega) (V b I)).trans (h.fr.block b I R)⟩ E
theorem Ai{ms:List IM}(h:0<ms.length):kz ms u=decide ((ms[ms.length-1]'(by omega)).uid<u):=by
 unfold kz;rw[List.getLast?_eq_getElem?,MM (by omega)]
theorem xC(M V B:Nat)(w wr:World)(s:IX)(mv:Value)(ws:List ByteArray)(hR:RdI M V B w wr s mv ws)(hE:∀w',dV M B w w'→Env w')(aH:∀y∈ws,y.size≤40000)(bK:s.mails.length≤100):
  Calls Tryz.prog 148 #[.pointer (some ⟨M,0,none⟩),.pointer (some ⟨V,0,none⟩)] wr (wh M V B w (dU false ([65]::ws.map (·.data.toList)) s)):=by
 have HE:=a8 hE;have HR:=a8 hR;have bn:=a8 aH;have C1:=a8 (ka V ws wr hR.tw (hR.env hE) aH);clear hR hE aH;go_enter Tryz.func148,Tryz.ntmps148;go_wp2_with fail;refine C1.out.mono ?_;rintro e z ⟨aA,⟨x1,r1,u,rfl,hn1,rfl,aS⟩|⟨Z,hn1⟩⟩
 ·have N:=a8 (HR.out.word aA aS);have aN:=a8 hn1;have bL:=ef hn1;have bM:(u:Int)≤4294967295:=(by omega);clear aA aS hn1 C1 HR;by_cases ay:u=4294967295
  ·have L:=a8 (show dU false ([65]::(x1::r1).map (·.data.toList)) s=none from lN (fun _ _=>LY (xw (by have h:=aN.out;rw[ay] at h;exact h))));have bw:((u:Int)==4294967295)=true:=(by simp;omega);clear ay;go_wp2;exact⟨rfl,Or.inr ⟨⟨_,rfl⟩,L.out,N.out.bad⟩⟩
  ·have bw:((u:Int)==4294967295)=false:=(by simp;omega);have aK:=a8 (EV aN.out ay);have bC:(u:Int)≤4294967294:=(by omega);obtain⟨Q,nm,R,bt⟩:=eA N.out.row;subst bt;have bu:nm=s.mails.length:=by
    obtain⟨a',c',e'⟩:=b9.slice N.out.row;rw[MI] at e';simp only[MR] at e';exact e'.2.1
   subst bu;obtain⟨-,-,-,-,-,-,-,-,-,c9⟩:=N.out.st.c10;clear ay;by_cases an:s.mails.length=100
   ·have L:=a8 (show dU false ([65]::(x1::r1).map (·.data.toList)) s=none from lN (fun _ h=>by omega));have aJ:((s.mails.length:Int)==100)=true:=(by simp;omega);clear an;go_wp2;exact⟨rfl,Or.inr ⟨⟨_,rfl⟩,L.out,N.out.bad⟩⟩
   ·have aJ:((s.mails.length:Int)==100)=false:=(by simp;omega);by_cases aa:kz s.mails u=true
    ·have bm:=a8 aa;have bh:=a8 (show s.mails.length<100 by omega);have be:=a8 (show∀g,(Value.slice Q s.mails.length R).ownBlock=some g→g<z.heap.size from fun g hg=>(b9.lt N.out.row g hg).2);go_upto_region 6 with fail;go_cut [35] (fun c wx=>c= .bool false∧wx=z)
     case first=>
      by_cases hp:0<s.mails.length
      ·obtain⟨g,aF,_,_⟩:=N.out.row.at0 (by rw[MI];omega);subst aF;obtain⟨k,hk⟩:∃k,s.mails.length=k+1:=⟨s.mails.length-1,by omega⟩
       have k0:z.cell? ⟨g,k*6,none⟩=some (.int .u32 (((s.mails[k]'(by omega)).uid:Nat):Int)):=pS N.out.row k (by omega) 0 (by omega);have bc:(s.mails[k]'(by omega)).uid<u:=by
        rw[Ai hp] at aa;have:=of_decide_eq_true aa;simp only[hk,Nat.add_sub_cancel] at this;omega
       generalize (s.mails[k]'(by omega)).uid=lu at k0 bc;have bf:¬(u:Int)≤(lu:Int):=(by omega);have bq:(0:Int)<(s.mails.length:Int):=(by omega);have bJ:(s.mails.length:Int)-1=(k:Int):=(by omega);have br:(k:Int)<(s.mails.length:Int):=(by omega);have bN:IntKind.i64.wrap (k:Int)=(k:Int):=(by rw[IntKind.wrap_i64];omega);clear aa hp hk an bc;go_wp2_with fail;go_meet
       case rel=>exact⟨rfl,rfl⟩
      ·have h0:¬(0:Int)<(s.mails.length:Int):=(by omega);clear aa hp an;go_wp2_with fail;go_meet
       case rel=>exact⟨rfl,rfl⟩
     case rest=>
     obtain⟨rfl,bd⟩:=hcut;rw[bd];clear bd c9 aa an;have aX:=nAl z (.cells #[.int .u32 (u:Int),.int .i64 0,.int .u32 0,.slice none 0 0,.int .i64 0,.bool false] 262);have ao:=a8 (dN z #[.int .u32 (u:Int),.int .i64 0,.int .u32 0,.slice none 0 0,.int .i64 0,.bool false] 262);have ad:=a8 (N.out.below aX);have aO:=a8 (show∀y∈r1,y.size≤40000 from fun y hy=>bn.out y (MV _ hy));have aB:B≤z.heap.size:=N.out.sz;have ba:∀g,(Value.slice Q s.mails.length R).ownBlock=some g→g≠z.heap.size:=fun g hg e=>(by have:=be.out g hg;omega);have az:=a8 (show(Value.slice Q s.mails.length R).ownBlock≠some z.heap.size from fun e=>ba _ e rfl);clear aX ba N;go_upto_region 9 with fail;generalize z.alloc (.cells #[.int .u32 (u:Int),.int .i64 0,.int .u32 0,.slice none 0 0,.int .i64 0,.bool false] 262)=W2 at ao ad⊢;have C2:=a8 (jt V 0 1000000000000 r1 W2 ad.out.tw (ad.out.env HE.out) aO.out (by omega));obtain⟨-,g2⟩:=ao.out.c2;go_wp2_with fail;refine C2.out.mono ?_;rintro e w2 ⟨au,⟨x2,r2,E,rfl,ah,rfl,aT⟩|⟨Z,ah⟩⟩
     rotate_left
     ·obtain⟨t,rfl⟩:=Z;have L:=a8 (show dU false ([65]::(x1::r1).map (·.data.toList)) s=none from lN (fun hl _=>by
       match r1,hl,ah with
       |x::r,hl,hn=>exact Mx hn))
      have U:=a8 (nU ad.out au);clear ah au C2 g2;go_wp2;exact⟨rfl,Or.inr ⟨⟨t,rfl⟩,L.out,U.out⟩⟩
     have bi:=a8 ah;have bE:=(ef ah).2;have bx:(E:Int)≤1000000000000:=(by omega);have O:=a8 (ad.out.word au aT);have A:=a8 (ao.out.keepB (au.block z.heap.size ao.out.lt (by
      obtain⟨gr,aI,c,aE,hq,_⟩:=ad.out.tw;exact kY ao.out hq (by decide))))
     have aP:=a8 (show∀y∈r2,y.size≤40000 from fun y hy=>aO.out y (MV _ hy));have ae:=a8 (O.out.aside (j:=1) A.out aB az.out (.int .i64 (E:Int)));have ap:=a8 (show Blk (w2.setCell ⟨z.heap.size,1,none⟩ (.int .i64 (E:Int))) z.heap.size #[.int .u32 (u:Int),.int .i64 (E:Int),.int .u32 0,.slice none 0 0,.int .i64 0,.bool false] 262 from by
      have h:=A.out.set 1 (.int .i64 (E:Int));simpa using h)
     obtain⟨-,g2⟩:=A.out.c2;have fg:=fun j=>A.out.fz j;clear au ah aT C2 O A;go_upto_region 10 with fail;clear g2 fg;generalize w2.setCell ⟨z.heap.size,1,none⟩ (.int .i64 (E:Int))=W3 at ae ap⊢;have C3:=a8 (uW V r2 W3 ae.out.tw (ae.out.env HE.out) aP.out);obtain⟨-,-,g3⟩:=ap.out.c3;go_wp2_with fail;refine C3.out.mono ?_;rintro e w3 ⟨av,⟨x3,r3,I,rfl,ai,rfl,aU⟩|⟨Z,ai⟩⟩
     rotate_left
     ·obtain⟨t,rfl⟩:=Z;have L:=a8 (show dU false ([65]::(x1::x2::r2).map (·.data.toList)) s=none from lN (fun hl _=>by
       match r2,hl,ai with
       |x::r,hl,hn=>exact My hn))
      have U:=a8 (nU ae.out av);clear ai av C3 g3;go_wp2;exact⟨rfl,Or.inr ⟨⟨t,rfl⟩,L.out,U.out⟩⟩
     have bj:=a8 ai;have bF:=(ef ai).2;have bz:(I:Int)≤2147483647:=(by omega);have O:=a8 (ae.out.word av aU);have A:=a8 (ap.out.keepB (av.block z.heap.size ap.out.lt (by
      obtain⟨gr,aI,c,aE,hq,_⟩:=ae.out.tw;exact kY ap.out hq (by decide))))
     have aQ:=a8 (show∀y∈r3,y.size≤40000 from fun y hy=>aP.out y (MV _ hy));have af:=a8 (O.out.aside (j:=2) A.out aB az.out (.int .u32 (I:Int)));have aq:=a8 (show Blk (w3.setCell ⟨z.heap.size,2,none⟩ (.int .u32 (I:Int))) z.heap.size #[.int .u32 (u:Int),.int .i64 (E:Int),.int .u32 (I:Int),.slice none 0 0,.int .i64 0,.bool false] 262 from by
      have h:=A.out.set 2 (.int .u32 (I:Int));simpa using h)
     obtain⟨-,-,g3⟩:=A.out.c3;have fg:=fun j=>A.out.fz j;clear av ai aU C3 O A;go_upto_region 11 with fail;clear g3 fg;generalize w3.setCell ⟨z.heap.size,2,none⟩ (.int .u32 (I:Int))=W4 at af aq⊢;have C4:=a8 (jt V 0 40000 r3 W4 af.out.tw (af.out.env HE.out) aQ.out (by omega));obtain⟨-,-,-,-,g4⟩:=aq.out.c5;go_wp2_with fail;refine C4.out.mono ?_;rintro e w4 ⟨aw,⟨x4,r4,J,rfl,aj,rfl,aV⟩|⟨Z,aj⟩⟩
     rotate_left
     ·obtain⟨t,rfl⟩:=Z;have L:=a8 (show dU false ([65]::(x1::x2::x3::r3).map (·.data.toList)) s=none from lN (fun hl _=>by
       match r3,hl,aj with
       |x::r,hl,hn=>exact Mz hn))
      have U:=a8 (nU af.out aw);clear aj aw C4 g4;go_wp2;exact⟨rfl,Or.inr ⟨⟨t,rfl⟩,L.out,U.out⟩⟩
     have bk:=a8 aj;have bG:=(ef aj).2;have bA:(J:Int)≤40000:=(by omega);have O:=a8 (af.out.word aw aV);have A:=a8 (aq.out.keepB (aw.block z.heap.size aq.out.lt (by
      obtain⟨gr,aI,c,aE,hq,_⟩:=af.out.tw;exact kY aq.out hq (by decide))))
     have aR:=a8 (show∀y∈r4,y.size≤40000 from fun y hy=>aQ.out y (MV _ hy));have ag:=a8 (O.out.aside (j:=4) A.out aB az.out (.int .i64 (J:Int)));have ar:=a8 (show Blk (w4.setCell ⟨z.heap.size,4,none⟩ (.int .i64 (J:Int))) z.heap.size #[.int .u32 (u:Int),.int .i64 (E:Int),.int .u32 (I:Int),.slice none 0 0,.int .i64 (J:Int),.bool false] 262 from by
      have h:=A.out.set 4 (.int .i64 (J:Int));simpa using h)
     obtain⟨-,-,-,-,g4⟩:=A.out.c5;have fg:=fun j=>A.out.fz j;clear aw aj aV C4 O A;go_upto_region 12 with fail;clear g4 fg;generalize w4.setCell ⟨z.heap.size,4,none⟩ (.int .i64 (J:Int))=W5 at ag ar⊢;have C5:=a8 (jt V 0 1 r4 W5 ag.out.tw (ag.out.env HE.out) aR.out (by omega));obtain⟨-,-,-,-,-,g5⟩:=ar.out.c6;go_wp2_with fail;refine C5.out.mono ?_;rintro e w5 ⟨ax,⟨x5,r5,G,rfl,ak,rfl,aW⟩|⟨Z,ak⟩⟩
     rotate_left
     ·obtain⟨t,rfl⟩:=Z;have L:=a8 (show dU false ([65]::(x1::x2::x3::x4::r4).map (·.data.toList)) s=none from lN (fun hl _=>by
       match r4,hl,ak with
       |x::r,hl,hn=>exact MB hn))
      have U:=a8 (nU ag.out ax);clear ak ax C5 g5;go_wp2;exact⟨rfl,Or.inr ⟨⟨t,rfl⟩,L.out,U.out⟩⟩
     have bl:=a8 ak;have bH:=(ef ak).2;have bB:(G:Int)≤1:=(by omega);have O:=a8 (ag.out.word ax aW);have A:=a8 (ar.out.keepB (ax.block z.heap.size ar.out.lt (by
      obtain⟨gr,aI,c,aE,hq,_⟩:=ag.out.tw;exact kY ar.out hq (by decide))))
     have bD:=a8 (show∀y∈r5,y.size≤40000 from fun y hy=>aR.out y (MV _ hy));have ac:=a8 (O.out.aside (j:=5) A.out aB az.out (.bool (decide (G=1))));have ab:=a8 (show Blk (w5.setCell ⟨z.heap.size,5,none⟩ (.bool (decide (G=1)))) z.heap.size #[.int .u32 (u:Int),.int .i64 (E:Int),.int .u32 (I:Int),.slice none 0 0,.int .i64 (J:Int),.bool (decide (G=1))] 262 from by
      have h:=A.out.set 5 (.bool (decide (G=1)));simpa using h)
     obtain⟨-,-,-,-,-,g5⟩:=A.out.c6;have fg:=fun j=>A.out.fz j;have bI:((G:Int)==1)=decide (G=1):=(by by_cases h:G=1<;>simp[h]<;>omega);clear ax ak aW C5 O A;go_upto_region 13 with fail;clear g5 fg;generalize w5.setCell ⟨z.heap.size,5,none⟩ (.bool (decide (G=1)))=K at ac ab⊢;have bg:s.mails.length≤1048576:=(by omega);have LK:=a8 (fun(Y:World) (e1:Y.heap=(K.alloc (.cells #[.int .u32 (u:Int),.int .i64 (E:Int),.int .u32 (I:Int),.slice none 0 0,.int .i64 (J:Int),.bool (decide (G=1))] 262)).heap) (e2:Y.os=K.os) (e3:Y.tape=K.tape) (e4:Y.output=K.output)=>((⟨b9.keep ac.out.row (fun g hg=>by rw[e1];exact(nAl K _).block g (b9.lt ac.out.row g hg).2),(fun j v hj=>by rw[d5 (w:=K.alloc (.cells #[.int .u32 (u:Int),.int .i64 (E:Int),.int .u32 (I:Int),.slice none 0 0,.int .i64 (J:Int),.bool (decide (G=1))] 262)) (by rw[e1]),(dN K #[.int .u32 (u:Int),.int .i64 (E:Int),.int .u32 (I:Int),.slice none 0 0,.int .i64 (J:Int),.bool (decide (G=1))] 262).cell j];simpa[il0] using hj),(by rw[e1];simp;have:=ac.out.sz;omega),(fun v' w' ho hg=>Ln ac.out e1 e2 e3 e4 ho hg)⟩):mr Y B (.slice Q s.mails.length R) s.mails∧(∀j v,(il0 ⟨u,E,I,J,G⟩)[j]? =some v→Y.cell? ⟨K.heap.size,j,none⟩=some v)∧B≤Y.heap.size∧(∀v' w',mr w' B v' (s.mails++[⟨u,E,I,J,G⟩])→Y.grownBy w' (Value.slice Q s.mails.length R).ownBlock→w'.cell? ⟨M,9,none⟩=some (.slice Q s.mails.length R)∧w'.frozen? ⟨M,9,none⟩=false∧RdI M V B w (w'.setCell ⟨M,9,none⟩ v') {s with mails:=s.mails++[⟨u,E,I,J,G⟩]} v' r5)));obtain⟨-,-,-,-,-,-,-,-,-,c9⟩:=ac.out.st.c10;obtain⟨q0,q1,q2,q3,q4,q5⟩:=ab.out.c6;have aY:=(nAl K (.cells #[.int .u32 (u:Int),.int .i64 (E:Int),.int .u32 (I:Int),.slice none 0 0,.int .i64 (J:Int),.bool (decide (G=1))] 262)).drew;have bo:(K.alloc (.cells #[.int .u32 (u:Int),.int .i64 (E:Int),.int .u32 (I:Int),.slice none 0 0,.int .i64 (J:Int),.bool (decide (G=1))] 262)).drew.cell? ⟨M,9,none⟩=some (.slice Q s.mails.length R):=(aY.cell (p:=⟨M,9,none⟩) ac.out.st.lt).trans c9;clear aY;go_region_law (first
      |(refine tt _ (by rfl) (.tmp 61) (.tmp 63) (by rfl) B (.slice Q s.mails.length R) s.mails ⟨u,E,I,J,G⟩ K.heap.size 1 (by simp[go_sem]) (by simp[go_sem]) (LK.out _ (by rfl) (by rfl) (by rfl) (by rfl)).1 (LK.out _ (by rfl) (by rfl) (by rfl) (by rfl)).2.1 bg (LK.out _ (by rfl) (by rfl) (by rfl) (by rfl)).2.2.1 ?_;intro v7 w7 aG aZ;have aC:=(LK.out _ (by rfl) (by rfl) (by rfl) (by rfl)).2.2.2 v7 w7 aG aZ;obtain⟨a7,n7,c7,rfl⟩:=eA aG;have z9:=aC.1;have bp:=aC.2.1;have aD:=a8 aC.2.2;clear aC aG aZ)
      |fail)
     all_goals
      clear z9 bp c9 bo q0 q1 q2 q3 q4 q5;go_upto_region 14 with fail;generalize w7.setCell ⟨M,9,none⟩ (.slice a7 n7 c7)=W8 at aD⊢;have CP:=a8 (Aa M {s with mails:=s.mails++[⟨u,E,I,J,G⟩]} (.slice a7 n7 c7) u W8 aD.out.st (by omega));have L:=a8 (show dU false ([65]::(x1::x2::x3::x4::x5::r5).map (·.data.toList)) s=if r5=[] then some {s with next:=if s.next≤u then u+1 else s.next,mails:=s.mails++[⟨u,E,I,J,G⟩]} else none from by
       by_cases hr:r5=[]
       ·subst hr;rw[if_pos rfl];exact Jt bh.out aK.out bi.out bj.out bk.out bl.out bm.out
       ·rw[if_neg hr];exact lN (fun hl _=>absurd (by simpa using hl) hr))
      have aM:=a8 (aD.out.put 1 (.int .u32 ((if s.next≤u then u+1 else s.next:Nat):Int)) {s with next:=if s.next≤u then u+1 else s.next,mails:=s.mails++[⟨u,E,I,J,G⟩]} rfl rfl);go_wp2_with fail;refine CP.out.mono ?_;rintro e w8 ⟨rfl,rfl⟩;generalize W8.setCell ⟨M,1,none⟩ (.int .u32 ((if s.next≤u then u+1 else s.next:Nat):Int))=W9 at aM⊢;clear CP;go_wp2
      go_end0
      exact Or.inl ⟨_,_,r5,rfl,aM.out,L.out⟩
    ·have al:kz s.mails u=false:=(by simpa using aa);have L:=a8 (show dU false ([65]::(x1::r1).map (·.data.toList)) s=none from lN (fun _ _=>MC aK.out al));have aL:0<s.mails.length:=by
      by_cases h:0<s.mails.length
      ·exact h
      ·exfalso;have:s.mails=[]:=Nc.1 (by omega);rw[this] at al;simp[kz] at al
     obtain⟨g,aF,_,_⟩:=N.out.row.at0 (by rw[MI];omega);subst aF;obtain⟨k,hk⟩:∃k,s.mails.length=k+1:=⟨s.mails.length-1,by omega⟩
     have k0:z.cell? ⟨g,k*6,none⟩=some (.int .u32 (((s.mails[k]'(by omega)).uid:Nat):Int)):=pS N.out.row k (by omega) 0 (by omega);have bb:u≤(s.mails[k]'(by omega)).uid:=by
      rw[Ai aL] at al;have:=of_decide_eq_false al;simp only[hk,Nat.add_sub_cancel] at this;omega
     generalize (s.mails[k]'(by omega)).uid=lu at k0 bb;have bf:(u:Int)≤(lu:Int):=(by omega);have bq:(0:Int)<(k:Int)+1:=(by omega);have br:(k:Int)≤100:=(by omega);rw[hk] at c9 aJ;clear aa al aL hk an bb;go_wp2;exact⟨rfl,Or.inr ⟨⟨_,rfl⟩,L.out,N.out.bad⟩⟩
 ·obtain⟨t,rfl⟩:=Z;have L:=a8 (show dU false ([65]::ws.map (·.data.toList)) s=none from lN (fun hl _=>by
   match ws,hl,hn1 with
   |x::r,hl,hn1=>exact LY (xy hn1)))
  have U:=a8 (nU HR.out aA);clear hn1 aA C1;go_wp2;exact⟨rfl,Or.inr ⟨⟨t,rfl⟩,L.out,U.out⟩⟩
theorem E3(z B:Nat)(s:IX)(a:Option Addr)(cap u:Nat)(w:World)(h:MbI w z s (.slice a s.mails.length cap))(L:mr w B (.slice a s.mails.length cap) s.mails)(K:s.mails.length≤1048576)(A:(s.mails.map (·.uid)).Pairwise (·<·)):
  Calls Tryz.prog 149 #[.pointer (some ⟨z,0,none⟩),.int .u32 (u:Int)] w fun e w'=>Fy s.mails u e∧Below w.heap.size w w':=by
 obtain⟨-,-,-,-,-,-,-,-,-,Q⟩:=h.c10;have E:=a8 (fun(Y:World) (R:Below w.heap.size w Y)=>Jc B a cap s.mails u Y K (b9.below L R (MH _)) A);generalize s.mails=ms at Q E⊢;clear h L K A;go_enter Tryz.func149,Tryz.ntmps149;go_wp2_with fail;refine(E.out _ (by first|exact MJ _ _|exact(MJ _ _).drew)).mono ?_;rintro e U ⟨⟨i,f,rfl,G,I⟩,J⟩;have M:=a8 G;have N:=a8 I;have O:=a8 J;clear G I J;go_wp2;go_ret2;exact⟨⟨i,f,rfl,M.out,N.out⟩,O.out⟩
theorem ss{ws:List (List UInt8)}{s:IX}(h:ws.head?≠some [86]):dU true ws s=none:=by
 unfold dU;rw[if_pos rfl];unfold jP;split
 ·next a b c d=>
  rw[if_neg (fun e=>h (by rw[e];rfl))]
 ·rfl
theorem GR{r:List (List UInt8)}{s:IX}(h:(match r with|[]=>none|x::_=>dS x 1 4294967295)=none):dU true ([86]::r) s=none:=by
 unfold dU;rw[if_pos rfl];unfold jP;split
 ·next a b c d e=>
  simp only[List.cons.injEq] at e;obtain⟨rfl,rfl⟩:=e;rw[if_pos rfl];simp only at h;rw[h]
 ·rfl
theorem GS{r:List (List UInt8)}{s:IX}(h:(match r with|[]=>none|x::_=>dS x 1 4294967295)=none):dU true ([86]::b::r) s=none:=by
 unfold dU;rw[if_pos rfl];unfold jP;split
 ·next a b c d e=>
  simp only[List.cons.injEq] at e;obtain⟨rfl,rfl,rfl⟩:=e;rw[if_pos rfl];simp only at h;rw[h];split<;>first|rfl|(next h1 h2 h3=>cases h2)
 ·rfl
theorem GT{c:List UInt8}{r:List (List UInt8)}{s:IX}(h:(match r with|[]=>none|x::_=>dS x 0 99999)=none):dU true ([86]::b::c::r) s=none:=by
 unfold dU;rw[if_pos rfl];unfold jP;split
 ·next a b c d e=>
  simp only[List.cons.injEq] at e;obtain⟨rfl,rfl,rfl,rfl⟩:=e;rw[if_pos rfl];simp only at h;rw[h];split<;>first|rfl|(next h1 h2 h3=>cases h3)
 ·rfl
theorem BA{b c d:List UInt8}{r:List (List UInt8)}{s:IX}{v n g:Nat}(z:dS b 1 4294967295=some v)(A:dS c 1 4294967295=some n)(E:dS d 0 99999=some g):dU true ([86]::b::c::d::r) s=if r=[] then some ⟨v,n,g,s.mails⟩ else none:=by
 unfold dU;rw[if_pos rfl];unfold jP;cases r with
 |nil=>
  rw[show fY=4294967295 from rfl];simp[z,A,E]
 |cons x xs=>rfl
theorem vv{ws:List (List UInt8)}{s:IX}(z:ws.head?≠some [65])(A:ws.head?≠some [70]):dU false ws s=none:=by
 unfold dU;rw[if_neg (by simp)];unfold me;rw[if_neg (fun h=>A h.2),if_neg (fun h=>z h.2.1)]
theorem ql{x:ByteArray}{l:List UInt8}(h:x.data.toList=l):x=⟨l.toArray⟩:=by
 subst h;rfl
theorem rC{x:ByteArray}{l:List UInt8}(h:x≠⟨l.toArray⟩):(x.toList==l)=false:=by
 rw[ByteArray.toList_eq];exact beq_eq_false_iff_ne.2 (fun e=>h (ql e))
theorem ux(A I B k:Nat)(w wr:World)(s:IX)(mv:Value)(ws:List ByteArray)(hR:RdI A I B w wr s mv ws)(hE:∀w',dV A B w w'→Env w')(ap:∀y∈ws,y.size≤40000)(ax:s.mails.length≤100)(hF:k=0∨ws.head?≠some ⟨#[70]⟩):
  Calls Tryz.prog 114 #[.pointer (some ⟨A,0,none⟩),.int .i64 (k:Int),.pointer (some ⟨I,0,none⟩)] wr (wh A I B w (dU (decide (k=0)) (ws.map (·.data.toList)) s)):=by
 have HE:=a8 hE;have HR:=a8 hR;have aj:=a8 ap;have HF:=a8 hF;have CW:=a8 (mW I ws wr hR.tw);clear hE hR ap hF;go_enter Tryz.func114,Tryz.ntmps114;go_wp2_with fail;refine CW.out.mono ?_;rintro e w1 (⟨x,r,rfl,rfl,al,ak⟩|⟨rfl,aw,rfl⟩)
 ·have G:=a8 (HR.out.word ak al);have ac:=a8 (show∀y∈r,y.size≤40000 from fun y Y=>aj.out y (MV _ Y));have ai:=a8 (show k=0∨x≠⟨#[70]⟩ from HF.out.imp id (fun h e=>h (by rw[e];rfl)));clear al ak CW HR aj HF;by_cases L:k=0
  ·subst L;by_cases E:x=⟨#[86]⟩
   ·subst E;have C1:=a8 (ka I r w1 G.out.tw (G.out.env HE.out) ac.out);go_wp2_with fail;refine C1.out.mono ?_;rintro e w2 ⟨ad,⟨x1,r1,Z,rfl,N,rfl,am⟩|⟨V,N⟩⟩
    rotate_left
    ·obtain⟨t,rfl⟩:=V;have z:=a8 (show dU (decide (0=0)) ([86]::r.map (·.data.toList)) s=none from GR (by cases r<;>exact N));have M:=a8 (nU G.out ad);clear N ad C1;go_wp2;exact⟨rfl,Or.inr ⟨⟨t,rfl⟩,z.out,M.out⟩⟩
    have aa:=a8 (G.out.word ad am);have aq:=a8 N;have g0:w2.cell? ⟨A,0,none⟩=some (.int .u32 (s.val:Int)):=aa.out.st.cell 0;have fg:=fun j=>aa.out.st.fz j;have J:=a8 (aa.out.put 0 (.int .u32 (Z:Int)) {s with val:=Z} rfl rfl);clear ad am N C1 G;go_upto_region 4 with fail;generalize w2.setCell ⟨A,0,none⟩ (.int .u32 (Z:Int))=W2 at J⊢;clear g0 fg aa;have C2:=a8 (ka I r1 W2 J.out.tw (J.out.env HE.out) (fun y Y=>ac.out y (MV _ Y)));go_wp2_with fail;refine C2.out.mono ?_;rintro e w3 ⟨ae,⟨x2,r2,n2,rfl,O,rfl,an⟩|⟨V,O⟩⟩
    rotate_left
    ·obtain⟨t,rfl⟩:=V;have z:=a8 (show dU (decide (0=0)) ([86]::x1.data.toList::r1.map (·.data.toList)) s=none from GS (by cases r1<;>exact O));have M:=a8 (nU J.out ae);clear O ae C2;go_wp2;exact⟨rfl,Or.inr ⟨⟨t,rfl⟩,z.out,M.out⟩⟩
    have ab:=a8 (J.out.word ae an);have ar:=a8 O;obtain⟨-,g1⟩:=ab.out.st.c2;have fg:=fun j=>ab.out.st.fz j;have K:=a8 (ab.out.put 1 (.int .u32 (n2:Int)) {s with val:=Z,next:=n2} rfl rfl);clear ae an O C2 J;go_upto_region 5 with fail;generalize w3.setCell ⟨A,1,none⟩ (.int .u32 (n2:Int))=W3 at K⊢;clear g1 fg ab;have C3:=a8 (jt I 0 99999 r2 W3 K.out.tw (K.out.env HE.out) (fun y Y=>ac.out y (MV _ (MV _ Y))) (by omega));go_wp2_with fail;refine C3.out.mono ?_;rintro e w4 ⟨af,⟨x3,r3,n3,rfl,Q,rfl,ao⟩|⟨V,Q⟩⟩
    rotate_left
    ·obtain⟨t,rfl⟩:=V;have z:=a8 (show dU (decide (0=0)) ([86]::x1.data.toList::x2.data.toList::r2.map (·.data.toList)) s=none from GT (by cases r2<;>exact Q));have M:=a8 (nU K.out af);clear Q af C3;go_wp2;exact⟨rfl,Or.inr ⟨⟨t,rfl⟩,z.out,M.out⟩⟩
    have ah:=a8 (K.out.word af ao);have au:=a8 Q;obtain⟨-,-,g2⟩:=ah.out.st.c3;have fg:=fun j=>ah.out.st.fz j;have av:=a8 (ah.out.put 2 (.int .u64 (n3:Int)) {s with val:=Z,next:=n2,gen:=n3} rfl rfl);clear af ao Q C3 K;go_wp2
    go_end0
    exact Or.inl ⟨_,_,_,rfl,av.out,(BA (r:=r3.map (·.data.toList)) aq.out ar.out au.out).trans (by cases r3<;>simp)⟩
   ·have z:=a8 (show dU (decide (0=0)) ((x::r).map (·.data.toList)) s=none from ss (fun e=>E (ql (by simpa using e))));have ay:(x.toList==[86])=false:=rC E;clear E;go_wp2;exact⟨rfl,Or.inr ⟨⟨_,rfl⟩,z.out,G.out.bad⟩⟩
  ·have aB:((k:Int)==0)=false:=(by simp;omega);have aA:(0:Int)<(k:Int):=(by omega);have ag:=a8 (show decide (k=0)=false by simpa using L);have az:(x.toList==[70])=false:=rC (ai.out.resolve_left L);by_cases E:x=⟨#[65]⟩
   ·subst E;have CM:=a8 (xC A I B w w1 s mv r G.out HE.out ac.out ax);clear L;go_wp2_with fail;refine CM.out.mono ?_;rintro e w2 (⟨s',aC,r',rfl,R,U⟩|⟨⟨t,rfl⟩,R,U⟩)
    ·have H2:=a8 R;have H3:=a8 (show dU (decide (k=0)) ([65]::r.map (·.data.toList)) s=if r'=[] then some s' else none by rw[ag.out];exact U);clear R U CM;go_wp2
     go_end0
     exact Or.inl ⟨_,_,_,rfl,H2.out,H3.out⟩
    ·have H2:=a8 (show dU (decide (k=0)) ([65]::r.map (·.data.toList)) s=none by rw[ag.out];exact R);have H3:=a8 U;clear R U CM;go_wp2;exact⟨rfl,Or.inr ⟨⟨t,rfl⟩,H2.out,H3.out⟩⟩
   ·have z:=a8 (show dU (decide (k=0)) ((x::r).map (·.data.toList)) s=none by rw[ag.out];exact vv (fun e=>E (ql (by simpa using e))) (fun e=>ai.out.resolve_left L (ql (by simpa using e))));have ay:(x.toList==[65])=false:=rC E;clear E L;go_wp2;exact⟨rfl,Or.inr ⟨⟨_,rfl⟩,z.out,G.out.bad⟩⟩
 ·obtain⟨t,rfl⟩:=aw;have z:=a8 (show dU (decide (k=0)) (([]:List ByteArray).map (·.data.toList)) s=none from by
   cases decide (k=0)
   ·exact vv (by simp) (by simp)
   ·exact ss (by simp))
  clear CW;go_wp2;exact⟨rfl,Or.inr ⟨⟨t,rfl⟩,z.out,HR.out.bad⟩⟩
theorem uG(f:FuncId)(L:∀(v:Value) (w:World),(callFunc f #[v]).run Tryz.prog w= .ok (.enter f #[v]) w){I:Array Oper}{z:Act}{K:Act→World→Prop}{E:Prop}(x:Operand)(ts:Array TypeId)(G:o.guard=none)
  (J:o.op= .call {callee:= .value (.func f),args:= #[x],argTypes:=ts}) (v:Value) (N:z.eval x=v) (h:Calls Tryz.prog f #[v] w fun e w'=>(∃u,e= .returned u∧K (z.put o.dst u) w')∨(∃c,e= .panicked c∧Q (.panic c) z w')):
  if Region.wanted o (yielded I z.tmps)=true then Oper.wp Tryz.prog o z w K Q else E:=by
 have M:Region.wanted o (yielded I z.tmps)=true:=(by simp[Region.wanted,G]);rw[if_pos M];obtain⟨U,Y,Z,V,O,R⟩:=o;simp only at J G;subst J;unfold Oper.wp;rw[execOp_call_go];simp only[List.map_toArray,M0,Ns,N,List.append_toArray,Nq,Nn,L,Oper.upon_enter];refine h.mono ?_;rintro e w' (⟨u,rfl,A⟩|⟨c,rfl,A⟩)
 ·exact A
 ·exact A
theorem As(v:Value)(w:World):(callFunc 150 #[v]).run Tryz.prog w= .ok (.enter 150 #[v]) w:=by
 go_simp
theorem LU{r:List (List UInt8)}{s:IX}(h:(match r with|[]=>none|x::_=>dS x 1 4294967295)=none):dU false ([70]::r) s=none:=by
 unfold dU;rw[if_neg (by simp)];unfold me;by_cases z:([70]::r).length=3∧([70]::r).head? =some [70]
 ·rw[if_pos z]
  match r,h,z with
  |[b,c],h,_=>
   unfold ol;simp only at h;rw[show fY=4294967295 from rfl];simp[h]
 ·rw[if_neg z,if_neg (fun h=>by have:=h.2.1;simp at this)]
theorem LX{r:List (List UInt8)}{s:IX}(A:dS b 1 4294967295=some u)(h:ja s.mails u=none):dU false ([70]::b::r) s=none:=by
 unfold dU;rw[if_neg (by simp)];unfold me;by_cases z:([70]::b::r).length=3∧([70]::b::r).head? =some [70]
 ·rw[if_pos z]
  match r,z with
  |[c],_=>
   unfold ol;rw[show fY=4294967295 from rfl];simp only[A];cases dS c 0 2147483647<;>simp[h]
 ·rw[if_neg z,if_neg (fun h=>by have:=h.2.1;simp at this)]
theorem LW{r:List (List UInt8)}{s:IX}(h:(match r with|[]=>none|x::_=>dS x 0 2147483647)=none):dU false ([70]::b::r) s=none:=by
 unfold dU;rw[if_neg (by simp)];unfold me;by_cases z:([70]::b::r).length=3∧([70]::b::r).head? =some [70]
 ·rw[if_pos z]
  match r,h,z with
  |[c],h,_=>
   unfold ol;simp only at h⊢;rw[h];cases dS b 1 fY<;>rfl
 ·rw[if_neg z,if_neg (fun h=>by have:=h.2.1;simp at this)]
theorem Ju{b c:List UInt8}{r:List (List UInt8)}{s:IX}{u f i:Nat}(z:dS b 1 4294967295=some u)(A:dS c 0 2147483647=some f)(E:ja s.mails u=some i):dU false ([70]::b::c::r) s=if r=[] then some {s with mails:=s.mails.modify i (fun m=>{m with flags:=f})} else none:=by
 unfold dU;rw[if_neg (by simp)];unfold me;cases r with
 |nil=>
  rw[if_pos ⟨rfl,rfl⟩,if_pos rfl];unfold ol;rw[show fY=4294967295 from rfl];simp only[z,A,E]
 |cons x xs=>
  rw[if_neg (fun h=>by have:=h.1;simp at this),if_neg (fun h=>by have:=h.2.1;simp at this),if_neg (by simp)]
theorem Et(ms:List IM)(i f:Nat):(ms.modify i (fun m=>{m with flags:=f})).map il0=(ms.map il0).modify i (fun x=>x.set 2 (.int .u32 (f:Int))):=by
 apply List.ext_getElem?;intro j;rw[Nr,List.getElem?_modify,List.getElem?_modify,Nr];cases ms[j]? with
 |none=>rfl
 |some m=>
  by_cases h:i=j
  ·simp[h,il0]
  ·simp[h]
theorem RdI.flag{s:IX}{ws:List ByteArray}(h:RdI z A B w wr s (.slice (some ⟨g,0,none⟩) n cap) ws)(i f:Nat):RdI z A B w (wr.setCell ⟨g,i*6+2,none⟩ (.int .u32 (f:Int))) {s with mails:=s.mails.modify i (fun m=>{m with flags:=f})} (.slice (some ⟨g,0,none⟩) n cap) ws:=by
 have J:=b9.lt h.row g rfl;have G:z≠g:=(by have:=h.n1;omega);refine⟨h.st.other G _,?_,?_,h.fr.high J.1 _,by simpa using h.sz,h.n1,h.n2⟩
 ·have E:=b9.store h.row i 2 (by omega) (.int .u32 (f:Int));rw[←Et] at E;exact E
 ·exact h.tw.keep (fun k L t I K=>heap_setCell_other wr ⟨g,i*6+2,none⟩ k _ (by
   intro e;have e:k=g:=e;subst e;exact eM h.row I (by rcases K with rfl|rfl<;>decide) rfl))
def qS(g j:Nat)(c:Value)(w:World):Prop:=w.cell? ⟨g,j,none⟩=some c
theorem xD(A I B k:Nat)(w wr:World)(s:IX)(mv:Value)(M:List ByteArray)(hR:RdI A I B w wr s mv (⟨#[70]⟩::M))(hE:∀w',dV A B w w'→Env w')(ap:∀y∈M,y.size≤40000)(ao:lG s)(hk:0<k):
  Calls Tryz.prog 114 #[.pointer (some ⟨A,0,none⟩),.int .i64 (k:Int),.pointer (some ⟨I,0,none⟩)] wr (wh A I B w (dU false ([70]::M.map (·.data.toList)) s)):=by
 have HE:=a8 hE;have ah:=a8 ap;have af:=a8 ao;have CW:=a8 (mW I _ wr hR.tw);have HR:=a8 hR;have aD:((k:Int)==0)=false:=(by simp;omega);have aC:(0:Int)<(k:Int):=(by omega);clear hE hR ap ao hk;go_enter Tryz.func114,Tryz.ntmps114;go_wp2_with fail;refine CW.out.mono ?_;rintro e w1 (⟨x,r,ac,rfl,aj,ai⟩|⟨ac,aA,rfl⟩)
 rotate_left
 ·cases ac
 simp only[List.cons.injEq] at ac;obtain⟨rfl,rfl⟩:=ac;have N:=a8 (HR.out.word ai aj);clear aj ai CW HR;have C1:=a8 (ka I M w1 N.out.tw (N.out.env HE.out) ah.out);go_wp2_with fail;refine C1.out.mono ?_;rintro e w2 ⟨aa,⟨x1,r1,n1,rfl,O,rfl,ak⟩|⟨hf,O⟩⟩
 rotate_left
 ·obtain⟨t,rfl⟩:=hf;have R:=a8 (show dU false ([70]::M.map (·.data.toList)) s=none from LU (by cases M<;>exact O));have ad:=a8 (nU N.out aa);clear O aa C1;go_wp2;exact⟨rfl,Or.inr ⟨⟨t,rfl⟩,R.out,ad.out⟩⟩
 have J:=a8 (N.out.word aa ak);have ae:=a8 O;clear aa ak O C1 N;obtain⟨am,nm,L,ax⟩:=eA J.out.row;subst ax;have ay:nm=s.mails.length:=by
  obtain⟨a',c',e'⟩:=b9.slice J.out.row;rw[MI] at e';simp only[MR] at e';exact e'.2.1
 subst ay;have CP:=a8 (E3 A B s am L n1 w2 J.out.st J.out.row (by have:=af.out.len;omega) af.out.rise);go_wp2_with fail;refine CP.out.mono ?_;rintro e V ⟨⟨i,f,rfl,h1,h2⟩,hb⟩;have G:=a8 (J.out.below hb);clear hb CP J;cases f with
 |false=>
  have R:=a8 (show dU false ([70]::(x1::r1).map (·.data.toList)) s=none from LX ae.out (h2 rfl));clear h1 h2;go_wp2;exact⟨rfl,Or.inr ⟨⟨_,rfl⟩,R.out,G.out.bad⟩⟩
 |true=>
  have ag:=a8 (h1 rfl);have an:=Ab ag.out;have az:(i:Int)<(s.mails.length:Int):=(by omega);obtain⟨g,aw,_,_⟩:=G.out.row.at0 (by rw[MI];omega);subst aw;have CF:=a8 (fun(Y:World) (hY:Below V.heap.size V Y)=>uW I r1 Y (G.out.below hY).tw ((G.out.below hY).env HE.out) (fun y hy=>ah.out y (MV _ hy)));obtain⟨-,-,-,-,-,-,-,-,-,c9⟩:=G.out.st.c10;have aB:A<V.heap.size:=G.out.st.lt;clear h1 h2;go_upto_region 12 with fail;have E:qS A 9 (.slice (some ⟨g,0,none⟩) s.mails.length L) V.drew:=c9;refine gD (by kernel_rfl) (qS A 9 (.slice (some ⟨g,0,none⟩) s.mails.length L)) 10 ?_;clear c9;refine d7 0 (.pointer (some ⟨A,0,none⟩)) rfl (fun _ _ _ h=>h) (Or.inl ⟨by rfl,?_⟩) E ?_
  ·intro wz z;unfold qS at z;go_simp
  simp only[dJ,dK,dL,dM];refine d7 1 (.pointer (some ⟨A,0,none⟩)) rfl (fun _ _ _ h=>h) (Or.inl ⟨by rfl,?_⟩) E ?_
  ·intro wz z;unfold qS at z;go_simp
  simp only[dJ,dK,dL,dM];refine d7 2 (.pointer (some ⟨A,9,none⟩)) rfl (fun _ _ _ h=>h) (Or.inl ⟨by rfl,?_⟩) E ?_
  ·intro wz z;unfold qS at z;go_simp
  simp only[dJ,dK,dL,dM];refine d7 3 (.slice (some ⟨g,0,none⟩) s.mails.length L) rfl (fun _ _ _ h=>h) (Or.inl ⟨by rfl,?_⟩) E ?_
  ·intro wz z;unfold qS at z;go_simp
  simp only[dJ,dK,dL,dM];refine d7 4 (.int .i64 (i:Int)) rfl (fun _ _ _ h=>h) (Or.inl ⟨by rfl,?_⟩) E ?_
  ·intro wz z;unfold qS at z;go_simp
  simp only[dJ,dK,dL,dM];refine d7 5 (.pointer (some ⟨I,0,none⟩)) rfl (fun _ _ _ h=>h) (Or.inl ⟨by rfl,?_⟩) E ?_
  ·intro wz z;unfold qS at z;go_simp
  simp only[dJ,dK,dL,dM];refine ee 6 rfl (by kernel_rfl) (fun K U=> ?_);refine uG 150 As (.tmp 68) #[259] (by rfl) (by rfl) (.pointer (some ⟨I,0,none⟩)) (by simp[go_sem]) ?_;refine(CF.out _ (MJ _ _).drew).mono ?_;rintro e w4 ⟨ab,⟨x2,r2,n2,rfl,Q,rfl,al⟩|⟨hf,Q⟩⟩
  rotate_left
  ·obtain⟨t,rfl⟩:=hf;have R:=a8 (show dU false ([70]::x1.data.toList::r1.map (·.data.toList)) s=none from LW (by cases r1<;>exact Q));have ad:=a8 (nU (G.out.below (MJ _ _).drew) ab);clear Q ab CF U;refine Or.inr ⟨_,rfl,?_⟩;exact⟨rfl,Or.inr ⟨⟨t,rfl⟩,R.out,ad.out⟩⟩
  have Z:=a8 ((G.out.below (MJ _ _).drew).word ab al);have ar:=a8 Q;have av:qS A 9 (.slice (some ⟨g,0,none⟩) s.mails.length L) w4:=Z.out.st.cell 9;clear ab al Q E CF;have E:=av;refine Or.inl ⟨_,rfl,U _ _ (fun _=>E) ?_⟩;clear U K;simp only[dJ,dK,dL,dM];refine d7 7 (.pointer (some ⟨g,i*6,none⟩)) rfl (fun _ _ _ h=>h) (Or.inl ⟨by rfl,?_⟩) E ?_
  ·intro wz z;unfold qS at z;go_simp
  simp only[dJ,dK,dL,dM];refine d7 8 (.pointer (some ⟨g,i*6,none⟩)) rfl (fun _ _ _ h=>h) (Or.inl ⟨by rfl,?_⟩) E ?_
  ·intro wz z;unfold qS at z;go_simp
  simp only[dJ,dK,dL,dM];refine d7 9 (.pointer (some ⟨g,i*6+2,none⟩)) rfl (fun _ _ _ h=>h) (Or.inl ⟨by rfl,?_⟩) E ?_
  ·intro wz z;unfold qS at z;go_simp
  simp only[dJ,dK,dL,dM];have k2:w4.cell? ⟨g,i*6+2,none⟩=some (.int .u32 ((s.mails[i]'an).flags:Int)):=pS Z.out.row i an 2 (by omega);have fz:=fun j=>Z.out.row.frozen j;have au:=a8 (Z.out.flag i n2);have aq:=a8 (show dU false ([70]::(x1::x2::r2).map (·.data.toList)) s=if r2=[] then some {s with mails:=s.mails.modify i (fun m=>{m with flags:=n2})} else none from(Ju (r:=r2.map (fun x:ByteArray=>x.data.toList)) ae.out ar.out ag.out).trans (by cases r2<;>simp));refine ee 10 rfl (by kernel_rfl) (fun K U=> ?_);go_simp;refine U _ _ (fun h=>by cases h) (fI (by kernel_rfl) ?_ _);go_wp2
  go_end0
  exact Or.inl ⟨_,_,_,rfl,au.out,aq.out⟩
theorem tj(z A B k:Nat)(w wr:World)(s:IX)(G:Value)(ws:List ByteArray)(M:RdI z A B w wr s G ws)(K:∀w',dV z B w w'→Env w')(J:∀y∈ws,y.size≤40000)(I:lG s):
  Calls Tryz.prog 114 #[.pointer (some ⟨z,0,none⟩),.int .i64 (k:Int),.pointer (some ⟨A,0,none⟩)] wr (wh z A B w (dU (decide (k=0)) (ws.map (·.data.toList)) s)):=by
 by_cases L:k=0∨ws.head?≠some ⟨#[70]⟩
 ·exact ux z A B k w wr s G ws M K J I.len L
 ·obtain⟨N,O⟩:=not_or.1 L;have E:ws.head? =some ⟨#[70]⟩:=Classical.not_not.1 O;cases ws with
  |nil=>cases E
  |cons x r=>
   simp only[List.head?_cons,MK] at E;subst E;have:=xD z A B k w wr s G r M K (fun y Q=>J y (MV _ Q)) I (by omega);rw[show decide (k=0)=false by simpa using N];exact this
def il1(m:IM)(bv:Value):List Value:=[.int .u32 (m.uid:Int),.int .i64 (m.stamp:Int),.int .u32 (m.flags:Int),bv,.int .i64 (m.size:Int),.bool (decide (m.bare=1))]
theorem Jr(ms:List IM)(bvs:List Value)(j:Nat)(bv:Value):List.zipWith il1 ms (bvs.set j bv)=(List.zipWith il1 ms bvs).modify j (fun x=>x.set 3 bv):=by
 apply List.ext_getElem?;intro k;rw[List.getElem?_zipWith,List.getElem?_modify,List.getElem?_zipWith,List.getElem?_set];by_cases h:j=k
 ·subst h;cases ms[j]? with
  |none=>simp
  |some m=>
   cases hb:bvs[j]? with
   |none=>
    have:¬j<bvs.length:=fun z=>(by rw[MM z] at hb;cases hb);simp[this]
   |some b=>
    have:j<bvs.length:=by
     rcases NB j bvs.length with h|h
     ·exact h
     ·rw[Nf h] at hb;cases hb
    simp[this,il1]
 ·simp[h]
theorem GM(ms:List IM):ms.map il0=List.zipWith il1 ms (List.replicate ms.length (.slice none 0 0)):=by
 induction ms with
 |nil=>rfl
 |cons m ms ih=>simp only[M0,M2,List.replicate_succ,List.zipWith_cons_cons,ih];rfl
theorem oj{ms:List IM}(h:b9 w A 262 6 (.slice (some ⟨g,0,none⟩) n cap) (List.zipWith il1 ms bvs))(i:Nat)(I:i<ms.length)(G:i<bvs.length)(j:Nat)(z:j<6):w.cell? ⟨g,i*6+j,none⟩=(il1 ms[i] bvs[i])[j]? :=by
 have E:((List.zipWith il1 ms bvs)[i]'(by rw[List.length_zipWith];omega)).length=6:=(by rw[List.getElem_zipWith];rfl);rw[h.cell i j (by rw[List.length_zipWith];omega) (by rw[E];exact z),MM (by show j<6;exact z)];congr 1;simp
theorem BY(n:Nat)(h:dO w A (.slice a l.length cap) l)(M:n≤l.length)(O:0<l.length):dO w A (.slice a n cap) (l.take n):=by
 rcases h.2 with⟨e,R⟩|⟨g,N,G,e,K,L,Q,I,J,E⟩
 ·omega
 ·simp only[MR,true_and] at e;obtain⟨rfl,rfl⟩:=e;have z:(l.take n).length=n:=(by rw[MZ];omega);refine⟨by simp,.inr ⟨g,cap,G,by rw[z],K,L,by rw[z];omega,I,J,?_⟩⟩;rw[z,List.map_take,Nat.mul_one];rw[Nat.mul_one] at E;rw[←E,List.take_take,Nat.min_eq_left M]
structure TkR(gr LO:Nat)(w0 w:World)(n cap:Nat)(ms:List IM)(bvs:List Value):Prop where
 row:b9 w 0 262 6 (.slice (some ⟨gr,0,none⟩) n cap) (List.zipWith il1 ms bvs)
 bel:dV gr LO w0 w
 sz:LO≤w.heap.size
 lt:gr<LO
theorem TkR.below{gr LO:Nat}{ms:List IM}(h:TkR gr LO w0 w n cap ms bvs)(z:Below w.heap.size w w'):TkR gr LO w0 w' n cap ms bvs:=
 ⟨b9.below h.row z (MH _),h.bel.trans (dV.of_below z h.sz),MN h.sz z.size,h.lt⟩
theorem TkR.set{gr LO:Nat}{ms:List IM}(h:TkR gr LO w0 w n cap ms bvs)(i:Nat)(bv:Value):TkR gr LO w0 (w.setCell ⟨gr,i*6+3,none⟩ bv) n cap ms (bvs.set i bv):=by
 refine⟨?_,h.bel.set bv,by simpa using h.sz,h.lt⟩;rw[Jr];exact b9.store h.row i 3 (by omega) bv
def KR(gr LO lo:Nat)(w0:World)(n cap:Nat)(ms:List IM)(bvs:List Value)(i:Nat)(m:IM)(x:Nat×Nat×List Nat)(ba:Option Addr)(e:Ending)(w':World):Prop:=
 ∃(ok:Bool) (k bc:Nat),e= .returned (.bool ok)∧TkR gr LO w0 w' n cap ms (bvs.set i (.slice ba k bc))∧(ok=false→eS m x=none)∧(ok=true→∃b,eS m x=some b∧dO w' lo (.slice ba k bc) b)
theorem Dn{l:List Nat}(h:l.getLast? =some 10):0<l.length∧l.drop (l.length-1)=[10]∧l.dropLast=l.take (l.length-1):=by
 cases l with
 |nil=>cases h
 |cons y ys=>
  refine⟨by simp,?_,by rw[List.dropLast_eq_take]⟩;rw[List.getLast?_eq_getElem?] at h;have z:(y::ys).length-1<(y::ys).length:=(by simp);rw[MM z] at h;rw[Nl z,Nv h,List.drop_eq_nil_of_le (by simp)]
theorem Hr(h:¬l.getLast? =some 10):¬(l.drop (l.length-1)=[10]∧0<l.length):=by
 rintro⟨z,A⟩;apply h;rw[List.getLast?_eq_getElem?];have:=congrArg (fun x=>x[0]?) z;simp only[List.getElem?_drop,Nat.add_zero] at this;exact this
theorem ud(z:Option Addr)(w:World):Calls Tryz.prog 207 #[.slice none 0 0,.slice z 1 1] w fun e w'=>e= .returned (.bool false)∧w'=w:=by
 go_enter Tryz.func207,Tryz.ntmps207;go_wp2;go_ret;exact⟨rfl,rfl⟩
theorem tR(z:Option Addr)(w:World):Calls Tryz.prog 184 #[.slice none 0 0,.slice z 1 1] w fun e w'=>e= .returned (.tuple #[.slice none 0 0,.bool false])∧w'=w:=by
 have A:=a8 (ud z w);go_enter Tryz.func184,Tryz.ntmps184;go_wp2_with fail;refine(A.out).mono ?_;rintro e w' ⟨rfl,rfl⟩;go_wp2;go_ret2;exact⟨rfl,rfl⟩
theorem D5(A:Option Addr)(lo:Nat)(G:Option Addr)(E:Nat)(l:List Nat)(w:World)(J:dO w lo (.slice G l.length E) l)(M:dW w A [10])(K:∀x∈l,x<256)(L:l.length≤1048576):
  Calls Tryz.prog 184 #[.slice G l.length E,.slice A 1 1] w fun e w'=>e= .returned (.tuple #[.slice G (if l.getLast? =some 10 then l.length-1 else l.length) E,.bool (decide (l.getLast? =some 10))])∧w'=w:=by
 rcases J.2 with⟨e,I⟩|⟨g,R,U,e,Z,hg,N,V,Y,ht⟩
 ·have I:l=[]:=Nc.1 I;subst I;simp only[MR] at e;obtain⟨rfl,_,rfl⟩:=e;exact(tR A w).mono (fun e w' h=>by simpa using h)
 ·simp only[MR,true_and] at e;obtain⟨rfl,rfl⟩:=e;by_cases z:l.getLast? =some 10
  ·obtain⟨O,Q,_⟩:=Dn z;refine(kZ g 0 E l.length A l w rfl N L J.text M K O Q).mono (fun e w' h=> ?_);rw[if_pos z,decide_eq_true z];exact h
  ·refine(j4 g 0 E l.length A l w rfl N L J.text M K (Hr z)).mono (fun e w' h=> ?_);rw[if_neg z,decide_eq_false z];exact h
theorem qII(gr LO lo:Nat)(w0 w:World)(n cap:Nat)(ms:List IM)(bvs:List Value)(i:Nat)(I:i<ms.length)(aa:bvs.length=ms.length)(st A:Nat)(E:Option Addr)(z:Nat)(l:List Nat)(hR:TkR gr LO w0 w n cap ms bvs)(ho:dO w lo (.slice E l.length z) l)(ah:gr<lo)(ai:∀x∈l,x<256)(ak:l.length≤1048576)(an:st≤A∧A≤1048576):
  Calls Tryz.prog 153 #[.pointer (some ⟨gr,i*6,none⟩),.agg #[.int .i64 (st:Int),.int .i64 (A:Int),.slice E l.length z]] w (KR gr LO lo w0 n cap ms bvs i ms[i] (st,A,l) E):=by
 have hA:=nAl w (.cells #[.int .i64 (st:Int),.int .i64 (A:Int),.slice E l.length z] 179);have HX:=a8 (dN w #[.int .i64 (st:Int),.int .i64 (A:Int),.slice E l.length z] 179);have HR:=a8 (hR.below hA);have HO:=a8 (ho.below hA (MH _));have ag:gr≠w.heap.size:=(by have:=(b9.lt hR.row gr rfl).2;omega);clear hR ho hA;go_enter Tryz.func153,Tryz.ntmps153;go_upto_region 1 with fail;generalize w.alloc (.cells #[.int .i64 (st:Int),.int .i64 (A:Int),.slice E l.length z] 179)=w1 at HX HR HO⊢;obtain⟨-,-,x2⟩:=HX.out.c3;have k3:w1.cell? ⟨gr,i*6+3,none⟩=some (bvs[i]'(by omega)):=oj HR.out.row i I (by omega) 3 (by omega);have fz:=fun j=>HR.out.row.frozen j;have N:=a8 (HR.out.set i (.slice E l.length z));have U:=a8 (HO.out.set_low (p:=⟨gr,i*6+3,none⟩) ah (.slice E l.length z));have O:=a8 (HX.out.other (fun e=>ag e.symm) (.slice E l.length z) (j:=i*6+3));go_upto_region 3 with fail;generalize w1.setCell ⟨gr,i*6+3,none⟩ (.slice E l.length z)=J at N U O⊢;clear x2 k3 fz HR HO HX;have Y:J.cell? ⟨gr,i*6+4,none⟩=some (.int .i64 (ms[i].size:Int)):=oj N.out.row i I (by simpa[aa] using I) 4 (by omega);have k5:J.cell? ⟨gr,i*6+5,none⟩=some (.bool (decide (ms[i].bare=1))):=oj N.out.row i I (by simpa[aa] using I) 5 (by omega);obtain⟨x0,x1,x2⟩:=O.out.c3;have al:(A:Int)-(st:Int)=((A-st:Nat):Int):=(by omega);have ao:IntKind.i64.wrap ((A-st:Nat):Int)=((A-st:Nat):Int):=(by rw[IntKind.wrap_i64];omega);by_cases Q:ms[i].bare=1
 ·rw[decide_eq_true Q] at k5;have G:=a8 (show eS ms[i] (st,A,l)=if A-st=ms[i].size then(if l.getLast? =some 10 then some l.dropLast else none) else none by unfold eS;rw[if_pos Q]);have Z:=nAl J (.cells #[.int .u8 10] 5 (1,2));have CC:=a8 (D5 (some ⟨J.heap.size,0,none⟩) lo E z l (J.alloc (.cells #[.int .u8 10] 5 (1,2))) (U.out.below Z (MH _)) (Dr J) ai ak);have V:=a8 (N.out.below Z);have ab:=a8 (U.out.below Z (MH _));have ad:=a8 (O.out.below Z O.out.lt);have am:=fun(w:World) (C:Array Value) (n c:Nat)=>Lib.run_convert_bytes_const (P:=Tryz.prog) w 52 5 C n c Tryz.underlying52 Tryz.underlying5;clear Z Q;go_wp2_with fail;refine CC.out.mono ?_;rintro e w3 ⟨rfl,rfl⟩;generalize J.alloc (.cells #[.int .u8 10] 5 (1,2))=w4 at V ab ad⊢;have ac:=a8 (fun(bv:Value)=>V.out.set i bv);have HL:=a8 ah;have q3:w4.cell? ⟨gr,i*6+3,none⟩=some ((bvs.set i (.slice E l.length z))[i]'(by simpa[aa] using I)):=oj V.out.row i I (by simpa[aa] using I) 3 (by omega);have fz:=fun j=>V.out.row.frozen j;clear Y k5 x0 x1 x2 CC;by_cases L:l.getLast? =some 10
  ·rw[if_pos L] at G;rw[if_pos L,decide_eq_true L];have af:=a8 (show dO (w4.setCell ⟨gr,i*6+3,none⟩ (.slice E (l.length-1) z)) lo (.slice E (l.length-1) z) l.dropLast from by
    have h1:=Dn L;rw[h1.2.2];exact(BY _ ab.out (by omega) h1.1).set_low (p:=⟨gr,i*6+3,none⟩) HL.out _)
   have ae:=a8 (ad.out.other (fun e=>ag e.symm) (.slice E (l.length-1) z) (j:=i*6+3));have K:=a8 (ac.out (.slice E (l.length-1) z));generalize l.length-1=kk at af ae K⊢;clear L ac ab ad V U O N;go_upto_region 5 with fail;generalize w4.setCell ⟨gr,i*6+3,none⟩ (.slice E kk z)=w5 at af ae K⊢;clear q3 fz;rw[List.set_set] at K;have Y:w5.cell? ⟨gr,i*6+4,none⟩=some (.int .i64 (ms[i].size:Int)):=oj K.out.row i I (by simpa[aa] using I) 4 (by omega);obtain⟨x0,x1⟩:=ae.out.c2;by_cases M:A-st=ms[i].size
   ·have R:(((A-st:Nat):Int)==(ms[i].size:Int))=true:=(by simp;omega);rw[if_pos M] at G;generalize ms[i].size=sz at Y R;clear M;go_quiet(fail);go_wp2;go_ret;exact⟨true,kk,z,rfl,K.out.below (below_drewN (MJ _ _) _),(fun h=>by cases h),fun _=>⟨_,G.out,af.out.below (below_drewN (MJ _ _) _) (MH _)⟩⟩
   ·have R:(((A-st:Nat):Int)==(ms[i].size:Int))=false:=(by simp;omega);rw[if_neg M] at G;generalize ms[i].size=sz at Y R;clear M;go_quiet(fail);go_wp2;go_ret;exact⟨false,kk,z,rfl,K.out.below (below_drewN (MJ _ _) _),(fun _=>G.out),(fun h=>by cases h)⟩
  ·rw[if_neg L] at G;rw[if_neg L,decide_eq_false L];have K:=a8 (ac.out (.slice E l.length z));clear L ac ab ad V U O N;have aj:=a8 (show eS ms[i] (st,A,l)=none by rw[G.out];split<;>rfl);go_wp2;go_quiet(fail);go_wp2;go_ret;rw[List.set_set] at K;exact⟨false,l.length,z,rfl,K.out.below (below_drewN (MJ _ _) _),(fun _=>aj.out),(fun h=>by cases h)⟩
 ·rw[decide_eq_false Q] at k5;have G:=a8 (show eS ms[i] (st,A,l)=if A-st=ms[i].size then some l else none by unfold eS;rw[if_neg Q]);by_cases M:A-st=ms[i].size
  ·have R:(((A-st:Nat):Int)==(ms[i].size:Int))=true:=(by simp;omega);rw[if_pos M] at G;generalize ms[i].size=sz at Y R;clear M Q;go_wp2;go_quiet(fail);go_wp2;go_ret;exact⟨true,l.length,z,rfl,N.out.below (below_drewN (MJ _ _) _),(fun h=>by cases h),fun _=>⟨l,G.out,U.out.below (below_drewN (MJ _ _) _) (MH _)⟩⟩
  ·have R:(((A-st:Nat):Int)==(ms[i].size:Int))=false:=(by simp;omega);rw[if_neg M] at G;generalize ms[i].size=sz at Y R;clear M Q;go_wp2;go_quiet(fail);go_wp2;go_ret;exact⟨false,l.length,z,rfl,N.out.below (below_drewN (MJ _ _) _),(fun _=>G.out),(fun h=>by cases h)⟩
end Go.Proofs.YtpdbolihakojcaaGreatDoor
