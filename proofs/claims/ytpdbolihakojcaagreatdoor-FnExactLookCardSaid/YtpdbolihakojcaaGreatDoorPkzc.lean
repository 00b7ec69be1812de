import Derived.Test.YtpdbolihakojcaaGreatDoorPkz
namespace Go.Proofs.YtpdbolihakojcaaGreatDoor
set_option maxRecDepth 20000
set_option linter.unusedVariables false
set_option linter.unusedSimpArgs false
set_option maxHeartbeats 4000000
open Go.RowKit
variable {W Y w w' w0 wr : World} {b : List UInt8} {A B at_ base' c cap e f g gs i j k lo m n u z : Nat} {R d is l : List Nat} {E G I J K L M N O v0 v1 v2 v3 v4 v5 v6 x y : Value} {o : Oper} {Q : Exit → Act → World → Prop} {bvs xs : List Value} {t : TypeId} {cs tmps : Array Value} {p : Addr} {a : Option Addr} {first ok : Bool} {s : ByteArray} {rs : List (List Nat)}
section
open Go.Maps
theorem Mq{r:List (List UInt8)}{s:UX}(z:1≤s.next)(h:(match r with|[]=>none|x::_=>dS x 1 4294967295)=none):dY false ([88]::r) s=none:=by
 unfold dY;rw[if_neg (by simp)];unfold nX;split
 ·next a b x xs e=>
  simp only[List.cons.injEq] at e;obtain⟨rfl,rfl⟩:=e;simp only at h;rw[nu (LO:=1) (HI:=4294967295) z (MH _),h];simp
 ·rfl
theorem Ks{b:List UInt8}{r:List (List UInt8)}{s:UX}{n:Nat}(A:1≤s.next)(h:dS b 1 4294967295=some n)(E:n<s.next):dY false ([88]::b::r) s=none:=by
 unfold dY;rw[if_neg (by simp)];unfold nX;split
 ·next a b x xs e=>
  simp only[List.cons.injEq] at e;obtain⟨rfl,rfl,rfl⟩:=e;have z:¬(s.next≤n∧n≤fY):=(by omega);rw[nu (LO:=1) (HI:=4294967295) A (MH _),h];simp[z]
 ·rfl
theorem IY{b:List UInt8}{s:UX}:dY false [[88],b] s=none:=by
 unfold dY;rw[if_neg (by simp)];rfl
theorem Lz{b x:List UInt8}{xs:List (List UInt8)}{s:UX}{n:Nat}(A:1≤s.next)(h:dS b 1 4294967295=some n)(E:¬n<s.next):dY false ([88]::b::x::xs) s=(fh n (x::xs) 0 s.dead).map (fun ds=>⟨s.val,n,ds⟩):=by
 have z:=ef h;unfold dY;rw[if_neg (by simp)];unfold nX;simp only;rw[if_pos trivial,nu (LO:=1) (HI:=4294967295) A (MH _),h];simp only;rw[if_pos ⟨by omega,z.2⟩];simp only;cases fh n (x::xs) 0 s.dead<;>rfl
theorem F5{n:Nat}{x:List UInt8}{xs:List (List UInt8)}{last:Nat}{ds:List Nat}(A:n≤4294967295):fh n (x::xs) last ds=match dS x 1 4294967295 with
  |some u=>if last<u∧u<n then fh n xs u (ds++[u]) else none
  |none=>none:=by
 have e:dS x (last+1) (n-1)=match dS x 1 4294967295 with
   |some u=>if last+1≤u∧u≤n-1 then some u else none
   |none=>none:=nu (by omega) (by omega)
 rw[fh,e];cases h:dS x 1 4294967295 with
 |none=>rfl
 |some u=>
  have:=ef h;simp only;by_cases z:last<u∧u<n
  ·rw[if_pos (by omega),if_pos z]
  ·rw[if_neg (by omega),if_neg z]
theorem td(E O G B:Nat)(w wr:World)(s:UX)(ws:List ByteArray)(hR:UdR E O G B w wr s ws)(hE:∀w',gM (fun k=>k=E∨k=O) B w w'→Env w')(ai:∀y∈ws,y.size≤40000)(hs:1≤s.next)(ay:s.dead.length+ws.length≤2000000000):
  Calls Tryz.prog 154 #[.pointer (some ⟨E,0,none⟩),.pointer (some ⟨G,0,none⟩)] wr (LI E O G B w (dY false ([88]::ws.map (·.data.toList)) s)):=by
 have HE:=a8 hE;have HR:=a8 hR;have au:=a8 ai;have C1:=a8 (ka G ws wr hR.tw (hR.env hE) ai);clear hR hE ai;go_enter Tryz.func154,Tryz.ntmps154;go_wp2_with fail;refine C1.out.mono ?_;rintro e w1 ⟨ad,⟨I,r1,n,rfl,L,rfl,aw⟩|⟨hf,L⟩⟩
 rotate_left
 ·obtain⟨t,rfl⟩:=hf;have z:=a8 (show dY false ([88]::ws.map (·.data.toList)) s=none from Mq hs (by cases ws<;>exact L));have HF:=a8 (HR.out.on ad);clear L ad C1;go_wp2;exact⟨rfl,Or.inr ⟨⟨t,rfl⟩,z.out,HF.out⟩⟩
 have U:=a8 (HR.out.word ad aw);have ap:=a8 L;have aQ:=ef L;clear ad aw L C1 HR;obtain⟨-,g1⟩:=U.out.st.c2;by_cases Z:n<s.next
 ·have aE:(n:Int)<(s.next:Int):=(by omega);have z:=a8 (show dY false ([88]::(I::r1).map (·.data.toList)) s=none from Ks hs ap.out Z);clear Z;go_wp2;exact⟨rfl,Or.inr ⟨⟨_,rfl⟩,z.out,U.out.bad⟩⟩
 have aE:¬(n:Int)<(s.next:Int):=(by omega);have fz:=fun j=>U.out.st.fz j;have V:=a8 (U.out.put 1 (.int .u32 (n:Int)) {s with next:=n} rfl rfl);have aI:=a8 Z;clear Z;go_upto_region 4 with fail;generalize w1.setCell ⟨E,1,none⟩ (.int .u32 (n:Int))=w2 at V⊢;clear g1 fz U;have af:=a8 (pb G r1 w2 V.out.tw);go_wp2_with fail;refine af.out.mono ?_;rintro e w3 ⟨rfl,rfl⟩;cases r1 with
 |nil=>
  have z:=a8 (show dY false ([88]::[I].map (·.data.toList)) s=none from IY);clear af;go_wp2;exact⟨rfl,Or.inr ⟨⟨_,rfl⟩,z.out,V.out.bad⟩⟩
 |cons x2 r2=>
  have Y:decide (0<(x2::r2).length)=true:=(by simp);rw[Y];have ac:=a8 (show dY false ([88]::I.data.toList::(x2::r2).map (·.data.toList)) s=(fh n ((x2::r2).map (·.data.toList)) 0 s.dead).map (fun ds=>⟨s.val,n,ds⟩) from Lz hs ap.out aI.out);clear Y af;go_wp2;have aj:=a8 (show∀y∈x2::r2,y.size≤40000 from fun y hy=>au.out y (MV _ hy));have ak:s.dead.length+(x2::r2).length≤2000000000:=(by simp only[M2] at ay⊢;omega);have an:=a8 ak;clear ay ak au;obtain⟨M,ah⟩:∃M,M=x2::r2:=⟨_,rfl⟩
  rw[←ah] at V aj an ac;have ag:=a8 (show(I::x2::r2).map (·.data.toList)=I.data.toList::M.map (·.data.toList) by rw[ah];rfl);clear ah;go_loopw [5,6] (fun t5 _ wr=>∃(last:Nat) (J:List ByteArray) (ds:List Nat),t5= .int .u32 (last:Int)∧last≤4294967295∧Hid (UdR E O G B w wr ⟨s.val,n,ds⟩ J)∧Hid (fh n (J.map (·.data.toList)) last ds=fh n (M.map (·.data.toList)) 0 s.dead)∧Hid (ds.length+J.length≤2000000000)∧Hid (∀y∈J,y.size≤40000)) (fun t5 _ _=>n-(intOf t5).toNat)
  case atStart=>exact⟨0,M,s.dead,rfl,by omega,V,a8 rfl,an,aj⟩
  case round=>
   obtain⟨last,J,ds,rfl,aR,HI,ab,ao,ar⟩:=hrel;have aa:=a8 (pb G J wr HI.out.tw);cases J with
   |nil=>
    have z:=a8 (show dY false ([88]::(I::x2::r2).map (·.data.toList)) s=some ⟨s.val,n,ds⟩ by
     rw[ag.out,ac.out,←ab.out];rfl)
    go_wp2_with fail;refine aa.out.mono ?_;rintro e w3 ⟨rfl,rfl⟩;go_wp2
    go_end0
    exact Or.inl ⟨⟨s.val,n,ds⟩,[],rfl,HI.out,z.out.trans (if_pos rfl).symm⟩
   |cons x r=>
    have Y:decide (0<(x::r).length)=true:=(by simp);rw[Y] at aa;clear Y;go_wp2_with fail;refine aa.out.mono ?_;rintro e w3 ⟨rfl,rfl⟩;have C3:=a8 (ka G (x::r) w3 HI.out.tw (HI.out.env HE.out) ar.out);have A:=a8 (F5 (n:=n) (x:=x.data.toList) (xs:=r.map (·.data.toList)) (last:=last) (ds:=ds) aQ.2);clear aa;go_wp2_with fail;refine C3.out.mono ?_;rintro e w4 ⟨ae,⟨x',r',u,aD,K,rfl,ax⟩|⟨hf,K⟩⟩
    ·simp only[List.cons.injEq] at aD;obtain⟨rfl,rfl⟩:=aD;have R:=a8 (HI.out.word ae ax);have aB:=ef K;rw[K] at A;simp only at A;clear ae ax K C3;by_cases Q:last<u∧u<n
     ·rw[if_pos Q] at A;have av:¬(u:Int)≤(last:Int):=(by omega);have aO:¬(n:Int)≤(u:Int):=(by omega);obtain⟨N,D,hN,am,al⟩:=R.out.dd;have aq:=a8 am;have aG:=a8 al;have aN:=a8 hN;have aK:=LZ u aB.2;obtain⟨-,-,-,-,-,c5⟩:=R.out.st.c6;have aP:N<maxLen:=(by have h1:=ao.out;simp only at hN;unfold maxLen;omega);have aF:=a8 (show fh n (r.map (·.data.toList)) u (ds++[u])=fh n (M.map (·.data.toList)) 0 s.dead by rw[←ab.out,M0,A.out]);have aH:=a8 (show(ds++[u]).length+r.length≤2000000000 by have h1:=ao.out;simp only[M2] at h1;simp only[MT,M2,List.length_nil];omega);have aJ:=a8 (show∀y∈r,y.size≤40000 from fun y hy=>ar.out y (MV _ hy));have aL:=a8 Q;clear am al hN Q;go_wp2_with (at_mapUpdate;refine wpList_mapUpdate_own _ rfl _ _ _ 203 rfl 28 187 Ma Tryz.underlying203 unitElem O N D rfl aq.out aP _ _ _ rfl rfl aK _ [] unitElem_mk ?_;intro w5 aA az)
      have aM:=a8 (R.out.bury aN.out aG.out aq.out.isMap aA az);clear aA az;exact⟨⟨u,r,ds++[u],rfl,aB.2,aM,aF,aH,aJ⟩,by have:=aL.out;simp[intOf];omega⟩
     ·rw[if_neg Q] at A;have z:=a8 (show dY false ([88]::(I::x2::r2).map (·.data.toList)) s=none by
       rw[ag.out,ac.out,←ab.out,M0,A.out];rfl)
      by_cases aC:u≤last
      ·have av:(u:Int)≤(last:Int):=(by omega);clear Q aC;go_wp2;exact⟨rfl,Or.inr ⟨⟨_,rfl⟩,z.out,R.out.bad⟩⟩
      ·have av:¬(u:Int)≤(last:Int):=(by omega);have aO:(n:Int)≤(u:Int):=(by omega);clear Q aC;go_wp2;exact⟨rfl,Or.inr ⟨⟨_,rfl⟩,z.out,R.out.bad⟩⟩
    ·obtain⟨t,rfl⟩:=hf;simp only at K;rw[K] at A;simp only at A;have z:=a8 (show dY false ([88]::(I::x2::r2).map (·.data.toList)) s=none by
      rw[ag.out,ac.out,←ab.out,M0,A.out];rfl)
     have HF:=a8 (HI.out.on ae);clear K ae C3;go_wp2;exact⟨rfl,Or.inr ⟨⟨t,rfl⟩,z.out,HF.out⟩⟩
theorem DH{ws:List (List UInt8)}{s:UX}(h:ws.head?≠some [86]):dY true ws s=none:=by
 unfold dY;rw[if_pos rfl];unfold jT;split
 ·next a b c=>rw[if_neg (fun e=>h (by rw[e];rfl))]
 ·rfl
theorem Mo{r:List (List UInt8)}{s:UX}(h:(match r with|[]=>none|x::_=>dS x 1 4294967295)=none):dY true ([86]::r) s=none:=by
 unfold dY;rw[if_pos rfl];unfold jT;split
 ·next a b c e=>
  simp only[List.cons.injEq] at e;obtain⟨rfl,rfl⟩:=e;simp only at h;rw[show fY=4294967295 from rfl,h];simp
 ·rfl
theorem Mp{b:List UInt8}{r:List (List UInt8)}{s:UX}(h:(match r with|[]=>none|x::_=>dS x 1 4294967295)=none):dY true ([86]::b::r) s=none:=by
 unfold dY;rw[if_pos rfl];unfold jT;split
 ·next a b c e=>
  simp only[List.cons.injEq] at e;obtain⟨rfl,rfl,rfl⟩:=e;simp only at h;rw[show fY=4294967295 from rfl,h];cases dS b 1 4294967295<;>simp
 ·rfl
theorem Kr{b c:List UInt8}{r:List (List UInt8)}{s:UX}{v n:Nat}(z:dS b 1 4294967295=some v)(A:dS c 1 4294967295=some n):dY true ([86]::b::c::r) s=if r=[] then some ⟨v,n,s.dead⟩ else none:=by
 unfold dY;rw[if_pos rfl];unfold jT;cases r with
 |nil=>
  rw[show fY=4294967295 from rfl];simp[z,A]
 |cons x xs=>rfl
theorem DI{ws:List (List UInt8)}{s:UX}(h:ws.head?≠some [88]):dY false ws s=none:=by
 unfold dY;rw[if_neg (by simp)];unfold nX;split
 ·next a b x xs=>rw[if_neg (fun e=>h (by rw[e];rfl))]
 ·rfl
theorem yg(G V I B k:Nat)(w wr:World)(s:UX)(ws:List ByteArray)(hR:UdR G V I B w wr s ws)(hE:∀w',gM (fun k=>k=G∨k=V) B w w'→Env w')(ak:∀y∈ws,y.size≤40000)(hs:0<k→1≤s.next)(aj:s.dead.length+ws.length≤2000000000):
  Calls Tryz.prog 116 #[.pointer (some ⟨G,0,none⟩),.int .i64 (k:Int),.pointer (some ⟨I,0,none⟩)] wr (LI G V I B w (dY (decide (k=0)) (ws.map (·.data.toList)) s)):=by
 have HE:=a8 hE;have HR:=a8 hR;have ae:=a8 ak;have ap:=a8 hs;have al:=a8 aj;have CW:=a8 (mW I ws wr hR.tw);clear hE hR ak hs aj;go_enter Tryz.func116,Tryz.ntmps116;go_wp2_with fail;refine CW.out.mono ?_;rintro e w1 (⟨x,r,rfl,rfl,ag,af⟩|⟨rfl,aq,rfl⟩)
 ·have E:=a8 (HR.out.word af ag);have ad:=a8 (show∀y∈r,y.size≤40000 from fun y hy=>ae.out y (MV _ hy));clear ag af CW HR ae;by_cases Y:k=0
  ·subst Y;by_cases A:x=⟨#[86]⟩
   ·subst A;have C1:=a8 (ka I r w1 E.out.tw (E.out.env HE.out) ad.out);go_wp2_with fail;refine C1.out.mono ?_;rintro e w2 ⟨R,⟨x1,r1,O,rfl,K,rfl,ah⟩|⟨hf,K⟩⟩
    rotate_left
    ·obtain⟨t,rfl⟩:=hf;have z:=a8 (show dY (decide (0=0)) ([86]::r.map (·.data.toList)) s=none from Mo (by cases r<;>exact K));have aa:=a8 (E.out.on R);clear K R C1;go_wp2;exact⟨rfl,Or.inr ⟨⟨t,rfl⟩,z.out,aa.out⟩⟩
    have Q:=a8 (E.out.word R ah);have am:=a8 K;have g0:w2.cell? ⟨G,0,none⟩=some (.int .u32 (s.val:Int)):=Q.out.st.cell 0;have fg:=fun j=>Q.out.st.fz j;have J:=a8 (Q.out.put 0 (.int .u32 (O:Int)) {s with val:=O} rfl rfl);clear R ah K C1 E;go_upto_region 4 with fail;generalize w2.setCell ⟨G,0,none⟩ (.int .u32 (O:Int))=W2 at J⊢;clear g0 fg Q;have C2:=a8 (ka I r1 W2 J.out.tw (J.out.env HE.out) (fun y hy=>ad.out y (MV _ hy)));go_wp2_with fail;refine C2.out.mono ?_;rintro e w3 ⟨U,⟨x2,Z,n2,rfl,L,rfl,ai⟩|⟨hf,L⟩⟩
    rotate_left
    ·obtain⟨t,rfl⟩:=hf;have z:=a8 (show dY (decide (0=0)) ([86]::x1.data.toList::r1.map (·.data.toList)) s=none from Mp (by cases r1<;>exact L));have aa:=a8 (J.out.on U);clear L U C2;go_wp2;exact⟨rfl,Or.inr ⟨⟨t,rfl⟩,z.out,aa.out⟩⟩
    have ac:=a8 (J.out.word U ai);have an:=a8 L;obtain⟨-,g1⟩:=ac.out.st.c2;have fg:=fun j=>ac.out.st.fz j;have ao:=a8 (ac.out.put 1 (.int .u32 (n2:Int)) {s with val:=O,next:=n2} rfl rfl);have z:=a8 (show dY (decide (0=0)) ((⟨#[86]⟩::x1::x2::Z).map (·.data.toList)) s=if Z=[] then some {s with val:=O,next:=n2} else none from(Kr (r:=Z.map (fun x:ByteArray=>x.data.toList)) am.out an.out).trans (by cases Z<;>simp));clear U ai L C2 J;go_wp2
    go_end0
    exact Or.inl ⟨_,_,rfl,ao.out,z.out⟩
   ·have z:=a8 (show dY (decide (0=0)) ((x::r).map (·.data.toList)) s=none from DH (fun e=>A (ql (by simpa using e))));have ar:(x.toList==[86])=false:=rC A;clear A;go_wp2;exact⟨rfl,Or.inr ⟨⟨_,rfl⟩,z.out,E.out.bad⟩⟩
  ·have av:((k:Int)==0)=false:=(by simp;omega);have au:(0:Int)<(k:Int):=(by omega);have ab:=a8 (show decide (k=0)=false by simpa using Y);by_cases A:x=⟨#[88]⟩
   ·subst A;have CM:=a8 (td G V I B w w1 s r E.out HE.out ad.out (ap.out (by omega)) (by have:=al.out;simp only[M2] at this;omega));clear Y;go_wp2_with fail;refine CM.out.mono ?_;rintro e w2 (⟨s',r',rfl,M,N⟩|⟨⟨t,rfl⟩,M,N⟩)
    ·have H2:=a8 M;have H3:=a8 (show dY (decide (k=0)) ([88]::r.map (·.data.toList)) s=if r'=[] then some s' else none by rw[ab.out];exact N);clear M N CM;go_wp2
     go_end0
     exact Or.inl ⟨_,_,rfl,H2.out,H3.out⟩
    ·have H2:=a8 (show dY (decide (k=0)) ([88]::r.map (·.data.toList)) s=none by rw[ab.out];exact M);have H3:=a8 N;clear M N CM;go_wp2;exact⟨rfl,Or.inr ⟨⟨t,rfl⟩,H2.out,H3.out⟩⟩
   ·have z:=a8 (show dY (decide (k=0)) ((x::r).map (·.data.toList)) s=none by rw[ab.out];exact DI (fun e=>A (ql (by simpa using e))));have ar:(x.toList==[88])=false:=rC A;clear A Y;go_wp2;exact⟨rfl,Or.inr ⟨⟨_,rfl⟩,z.out,E.out.bad⟩⟩
 ·obtain⟨t,rfl⟩:=aq;have z:=a8 (show dY (decide (k=0)) (([]:List ByteArray).map (·.data.toList)) s=none from by
   cases decide (k=0)
   ·exact DI (by simp)
   ·exact DH (by simp))
  clear CW;go_wp2;exact⟨rfl,Or.inr ⟨⟨t,rfl⟩,z.out,HR.out.bad⟩⟩
end
end Go.Proofs.YtpdbolihakojcaaGreatDoor
