package xml_test

import (
	"math"
	"slices"
	"strings"
	"testing"

	"catchword/api"
	"catchword/xml"
)

// same tells whether two lists of nodes are the same; no attributes may be nil or empty.
func same(a, b []xml.Node) bool {
	return slices.EqualFunc(a, b, func(m, n xml.Node) bool {
		return m.Name == n.Name && m.Text == n.Text && slices.Equal(m.Attrs, n.Attrs) &&
			m.Parent == n.Parent && m.Level == n.Level && m.End == n.End
	})
}

func parsed(t *testing.T, s string) []xml.Node {
	t.Helper()
	nodes, e := xml.Parse(s)
	if e != api.OK || len(nodes) == 0 {
		t.Fatalf("Parse of %.200q: %v, %d nodes", s, e, len(nodes))
	}
	return nodes
}

// answers checks that each text is told to be a document, or refused by that error and with no nodes.
func answers(t *testing.T, want api.Errno, texts ...string) {
	t.Helper()
	for _, s := range texts {
		nodes, e := xml.Parse(s)
		if e != want {
			t.Errorf("Parse of %.200q: %v, not %v", s, e, want)
		}
		if (len(nodes) > 0) != (e == api.OK) {
			t.Errorf("Parse of %.200q: %v and %d nodes", s, e, len(nodes))
		}
	}
}

// within lays texts into an element.
func within(texts ...string) []string {
	var all []string
	for _, s := range texts {
		all = append(all, "<a>"+s+"</a>")
	}
	return all
}

// around lays texts ahead of an element, and behind one.
func around(texts ...string) []string {
	var all []string
	for _, s := range texts {
		all = append(all, s+"<a/>", "<a/>"+s)
	}
	return all
}

func TestSignP51(t *testing.T) {
	for r := rune(-0x100); r <= 0x110100; r++ {
		want := r == 9 || r == 10 || r == 13 || r >= 0x20 && r <= 0xd7ff || r >= 0xe000 && r <= 0xfffd || r >= 0x10000 && r <= 0x10ffff
		if got := xml.Sign(r); got != want {
			t.Fatalf("Sign of %x: %v", r, got)
		}
	}
	for _, r := range []rune{math.MinInt32, math.MaxInt32} {
		if xml.Sign(r) {
			t.Errorf("Sign of %x", r)
		}
	}
}

func TestParseP51(t *testing.T) {
	for s, want := range map[string][]xml.Node{
		`<a b="1">x&lt;y<c/></a>`: {
			{Name: "a", Attrs: []xml.Attr{{Name: "b", Val: "1"}}, Parent: -1, End: 3}, {Text: "x<y", Level: 1, End: 2}, {Name: "c", Level: 1, End: 3},
		},
		"<a/>":    {{Name: "a", Parent: -1, End: 1}},
		"<a></a>": {{Name: "a", Parent: -1, End: 1}},
		"<a><b><c/>x</b>y<b>z</b></a>": {
			{Name: "a", Parent: -1, End: 7}, {Name: "b", Level: 1, End: 4}, {Name: "c", Parent: 1, Level: 2, End: 3},
			{Text: "x", Parent: 1, Level: 2, End: 4}, {Text: "y", Level: 1, End: 5}, {Name: "b", Level: 1, End: 7}, {Text: "z", Parent: 5, Level: 2, End: 7},
		},
		"<?xml version='1.0'?>\r\n<!-- a --><?p?> <a> </a>\t<?q x?><!-- b -->\n": {{Name: "a", Parent: -1, End: 2}, {Text: " ", Level: 1, End: 2}},
		"<_ :a-.0é = '\"' b\t=\n\"'>\r\n\" é\r='&#x1F600;&apos;'/>": {
			{Name: "_", Attrs: []xml.Attr{{Name: ":a-.0é", Val: `"`}, {Name: "b", Val: "'>\r\n"}, {Name: "é", Val: "😀'"}}, Parent: -1, End: 1},
		},
		"<a b=''><c b=''/></a>": {
			{Name: "a", Attrs: []xml.Attr{{Name: "b"}}, Parent: -1, End: 2}, {Name: "c", Attrs: []xml.Attr{{Name: "b"}}, Level: 1, End: 2},
		},
	} {
		if got := parsed(t, s); !same(got, want) {
			t.Errorf("Parse of %q: %v, not %v", s, got, want)
		}
	}
}

func TestParseOfMaxTextP51(t *testing.T) {
	if api.MaxText != 65536 {
		t.Error("MaxText is", api.MaxText)
	}
	fill := func(ahead, fill, behind string) string {
		return ahead + strings.Repeat(fill, (65536-len(ahead)-len(behind))/len(fill)) + behind
	}
	for _, s := range []string{fill("<a>", "x", "</a>"), fill("<a>x", "é", "</a>"), fill("", " ", "<a/>"), fill("<a b='", "\n", "'/>"), fill("<a/><!--", " ", "-->")} {
		if len(s) != 65536 {
			t.Fatal("not of that length:", len(s))
		}
		answers(t, api.OK, s)
		// That it is too long comes ahead of all other faults.
		answers(t, api.ErrMany, s+" ", " "+s, "\xff"+s, "\x00"+s, s+"\xff", s+s)
	}
	answers(t, api.ErrMany, strings.Repeat("\xff", 65537), strings.Repeat("<", 65537), strings.Repeat("<a>", 30000))
	answers(t, api.ErrUTF, strings.Repeat("\xff", 65536))
	answers(t, api.ErrXML, strings.Repeat("<", 65536))
}

func TestParseOfOtherBytesP51(t *testing.T) {
	places := []string{
		"?", "?<a/>", "<a/>?", "<?>", "<?xml ??><a/>", "<!--?--><a/>", "<?p ??><a/>", "<a?/>", "<a ?=''/>", "<a b='?'/>", "<a>?</a>", "<a><![CDATA[?]]></a>",
		// The fault of the bytes comes ahead of all faults of the form, wherever these are.
		"<<<?", "<a></b>?", strings.Repeat("<a>", 101) + "?", strings.Repeat("<a/>", 16000) + "?",
	}
	for _, place := range places {
		lay := func(s string) string { return strings.Replace(place, "?", s, 1) }
		for _, s := range []string{"\xff", "\x80", "\xc3", "\xe2\x82", "\xed\xa0\x80", "\xc0\xaf", "\xf4\x90\x80\x80", "\xff\x00", "\xc3\xef\xbf\xbe"} {
			answers(t, api.ErrUTF, lay(s))
		}
		for _, s := range []string{"\x00", "\x01", "\x08", "\x0b", "\x0c", "\x0e", "\x1f", "\xef\xbf\xbe", "\xef\xbf\xbf", "\x00\xff", "\xef\xbf\xbf\xff"} {
			answers(t, api.ErrXML, lay(s))
		}
	}
	answers(t, api.OK, within("\x7f", "\u0080", "\ufffd", "\U0001fffe", "\U0010ffff", "\ue000", "\ud7ff", "\t\n\r ")...)
}

func TestParseOfHeadingsP51(t *testing.T) {
	answers(t, api.OK, "<?xml ?><a/>", "<?xml\t?><a/>", "<?xml\n?><a/>", "<?xml\r?><a/>", "<?xml version='1.0' encoding=\"x\"?>\n<a/>", "<?xml <&]]>-- é??><a/>", "<?xml >?><a/>",
		"<?xml  ?><?p?><a/>", "<?xml-x?><a/>", "<?xmlx y?><a/>", "<?xml:?><a/>", "<?xm ?><a/>")
	answers(t, api.ErrXML, "<?xml?><a/>", "<?XML ?><a/>", "<?Xml ?><a/>", "<?xml ", "<?xml ?", "<?xml ?<a/>", "<?xml ><a/>", "<?xml ? ><a/>", "<?xml", "<?xml ?>", "<?xml ?>x<a/>",
		"<?xml ?><?xml ?><a/>", " <?xml ?><a/>", "\n<?xml ?><a/>", "<!----><?xml ?><a/>", "<a/><?xml ?>", "<a><?xml ?></a>", "\ufeff<?xml ?><a/>", "<? xml ?><a/>", "<?xml/?><a/>")
}

func TestParseOfRemarksP51(t *testing.T) {
	right := []string{"<!---->", "<!-- -->", "<!--a-->", "<!-- - - -->", "<!---a-->", "<!-->-->", "<!--->-->", "<!-- <a>&x;]]><?xml ?> é\n-->", "<!--a--><!--b-->"}
	wrong := []string{"<!-->", "<!--->", "<!----->", "<!------>", "<!-- -- -->", "<!--a--->", "<!-- --->", "<!-- -->-->", "<!-- ", "<!-- -", "<!-- --", "<!-- - ->", "<!- -->", "<!-", "<! -- -->", "<!>", "<!"}
	answers(t, api.OK, within(right...)...)
	answers(t, api.OK, around(right...)...)
	answers(t, api.ErrXML, around(wrong...)...)
	for _, s := range within(wrong...) {
		// Behind the first --> the signs that are left may be a text.
		if s != "<a><!-- -->--></a>" {
			answers(t, api.ErrXML, s)
		}
	}
	answers(t, api.ErrXML, "<!-- --", "<a><!-- -->", "<a <!-- --> />", "<a b=<!-- -->''/>", "<<!-- -->a/>", "<a></a<!-- -->>")
}

func TestParseOfInstructionsP51(t *testing.T) {
	right := []string{"<?p?>", "<?p ?>", "<?p\t?>", "<?p\nx?>", "<?p x??>", "<?p ??>", "<?p <a>&x;]]>-- --> ? > é?>", "<?é-.0 x?>", "<?_:?>", "<?xmlx?>", "<?xm?>", "<?xxml ?>", "<?p?><?p?>", "<?ẋml?>"}
	wrong := []string{"<??>", "<? ?>", "<? p?>", "<?p", "<?p ", "<?p x", "<?p x?", "<?p?", "<?p x? >", "<?p>", "<?p??>", "<?p<?>", "<?1?>", "<?-p?>", "<?p=?>", "<?p/?>", "<?xml?>", "<?XML?>", "<?xMl x?>", "<?XmL\n?>"}
	answers(t, api.OK, within(right...)...)
	answers(t, api.OK, around(right...)...)
	answers(t, api.ErrXML, within(wrong...)...)
	answers(t, api.ErrXML, around(wrong...)...)
	answers(t, api.ErrXML, "<a <?p?>/>", "<a b='<?p?>'/>", "<?p?>", "<a><?p?>")
}

func TestParseOfCDATAP51(t *testing.T) {
	right := []string{"<![CDATA[]]>", "<![CDATA[ ]]>", "<![CDATA[x]]>", "<![CDATA[]]]>", "<![CDATA[]]]]>", "<![CDATA[]>]]>", "<![CDATA[<a>&x;<!-- -- <![CDATA[ é]]>", "<![CDATA[a]]><![CDATA[b]]>"}
	wrong := []string{"<![CDATA[", "<![CDATA[x", "<![CDATA[x]", "<![CDATA[x]]", "<![CDATA[x]>", "<![CDATA[x]] >", "<![CDATA[x]]>]]>", "<![cdata[x]]>", "<![CDATA [x]]>", "<! [CDATA[x]]>", "<![CDATA x]]>", "<![CDAT[x]]>", "<![x]]>"}
	answers(t, api.OK, within(right...)...)
	answers(t, api.ErrXML, within(wrong...)...)
	answers(t, api.ErrXML, around(right...)...)
	answers(t, api.ErrXML, around(wrong...)...)
	answers(t, api.ErrXML, "<![CDATA[<a/>]]>", "<a b='<![CDATA[x]]>'/>", "<a <![CDATA[x]]>/>")
}

// references are texts by the signs that they tell.
var references = map[string]string{
	"&lt;": "<", "&gt;": ">", "&amp;": "&", "&apos;": "'", "&quot;": `"`,
	"&#65;": "A", "&#x41;": "A", "&#x0041;": "A", "&#" + strings.Repeat("0", 30000) + "65;": "A", "&#x" + strings.Repeat("0", 30000) + "e9;": "é",
	"&#9;": "\t", "&#10;": "\n", "&#xd;": "\r", "&#x20;": " ", "&#127;": "\u007f", "&#xaBcD;": "\uabcd", "&#xD7FF;": "\ud7ff", "&#xe000;": "\ue000", "&#xFFFD;": "\ufffd",
	"&#65533;": "\ufffd", "&#x10000;": "\U00010000", "&#x1fffe;": "\U0001fffe", "&#x10ffff;": "\U0010ffff", "&#1114111;": "\U0010ffff",
	"&amp;lt;": "&lt;", "&#38;lt;": "&lt;", "&#60;b/&#62;": "<b/>", "&#38;&#x26;": "&&",
}

func TestParseOfReferencesP51(t *testing.T) {
	for s, want := range references {
		if got := parsed(t, "<a>"+s+"</a>"); len(got) != 2 || got[1].Text != want {
			t.Errorf("the text %.80q: %.200v", s, got)
		}
		for _, quote := range []string{"'", `"`} {
			got := parsed(t, "<a b="+quote+"x"+s+"y"+quote+"/>")
			if len(got) != 1 || !slices.Equal(got[0].Attrs, []xml.Attr{{Name: "b", Val: "x" + want + "y"}}) {
				t.Errorf("the value %.80q: %.200v", s, got)
			}
		}
	}
	wrong := []string{
		"&", "&;", "& ", "&lt", "&lt ;", "& lt;", "&l;", "&LT;", "&Lt;", "&ltx;", "&x;", "&nbsp;", "&lt&gt;", "&&lt;", "&quo;", "&am;p;", "&é;",
		"&#;", "&#", "&#65", "&#65 ;", "&# 65;", "&#x;", "&#x", "&#x41", "&#X41;", "&x41;", "&#41x;", "&#a;", "&#xg;", "&#-65;", "&#+65;", "&#x+41;", "&#6_5;", "&#x4_1;", "&#0x41;", "&#x0x41;", "&#0b1;", "&#65.;", "&#٦٥;", "&65;", "&# ;",
		"&#0;", "&#x0;", "&#00;", "&#1;", "&#8;", "&#11;", "&#12;", "&#14;", "&#31;", "&#x1f;", "&#xd800;", "&#xdfff;", "&#55296;", "&#xfffe;", "&#xffff;", "&#65535;", "&#x110000;", "&#1114112;",
		// Numbers that would be those of signs, if only some of their bits were taken.
		"&#4294967361;", "&#x100000041;", "&#18446744073709551681;", "&#x10000000000000041;", "&#x80000041;", "&#2147483713;", "&#99999999999999999999999999;", "&#x" + strings.Repeat("f", 1000) + ";",
	}
	answers(t, api.ErrXML, within(wrong...)...)
	answers(t, api.ErrXML, around(wrong...)...)
	answers(t, api.ErrXML, around("&lt;", "&#32;", "&#x20;")...)
	for _, s := range wrong {
		answers(t, api.ErrXML, "<a b='"+s+"'/>", `<a b="x`+s+`"></a>`, "<a>x"+s, "<a>"+s+";</a>x")
	}
	answers(t, api.ErrXML, "<a&lt;/>", "<a &lt;=''/>", "<a b&#61;''/>", "<a b=&quot;x&quot;/>", "&lt;a/>", "<a></a&gt;")
}

func TestParseOfAttributesP51(t *testing.T) {
	answers(t, api.OK, "<a b=''/>", `<a b=""></a>`, "<a b = 'x' />", "<a\tb\n=\r'x'\n/>", "<a b='1' c='1'/>", "<a b='1' B='2'/>", "<a b='1' b1='2'/>", "<a a='a'/>", "<a b='>'/>", "<a b='/>'/>", "<a b=']]>'/>", "<a b='--'/>",
		`<a b='"' c="'"/>`, "<a xml='' xmlns:x=''/>", "<a _='' :='' é='' b-1.2=''/>", "<a b='\n\t é'></a\n>", "<a b='1'><c b='1'/><c b='1'/></a>")
	answers(t, api.ErrXML, "<a b/>", "<a b>", "<a b=/>", "<a b=x/>", "<a b=1/>", "<a b='/>", "<a b='x\"/>", `<a b="x'/>`, "<a ='x'/>", "<a 'x'/>", "<a b 'x'/>", "<a b=='x'/>", "<a b='x''/>", "<ab='x'/>", "<a b='x'c='y'/>", "<a b='x',c='y'/>",
		"<a 1='x'/>", "<a -b='x'/>", "<a .b='x'/>", "<a b c='x'/>", "<a b/='x'/>", "<a b;='x'/>", "<a / b='x'>", "<a/ >", "<a/", "<a /", "<a / >", "<a/></a>", "</a b='x'>", "<a></a b='x'>",
		"<a b='<'/>", "<a b=\"x<y\"/>", "<a b='<c/>'/>", "<a b='&'/>", "<a b=", "<a b= ", "<a b='", "<a b='x", "<a b='x'", "<a b='x' ", "<a b='x' c")
	answers(t, api.ErrXML, "<a b='1' b='2'/>", "<a b='1' b='1'/>", "<a b='1' c='' b='2'>", `<a b='1' c='' d='' b = "2"></a>`, "<a é='1' é='2'/>", "<a><c b='' b=''/></a>", "<a c='' b='' b='' c=''/>")
	many := "<a"
	for i := range 4000 {
		many += " " + strings.Repeat("b", i%3) + string(rune(0x4e00+i)) + "=''"
	}
	answers(t, api.OK, many+"/>")
	answers(t, api.ErrXML, many+" \u4e00=''/>")
	if got := parsed(t, many+"/>"); len(got[0].Attrs) != 4000 || got[0].Attrs[3999].Name != string(rune(0x4e00+3999)) {
		t.Error("of 4000 attributes", len(got[0].Attrs))
	}
}

func TestParseOfElementsP51(t *testing.T) {
	answers(t, api.OK, "<a/>", "<a />", "<a\n\t/>", "<a></a>", "<a ></a >", "<a\r></a\n\t>", "<a><b></b></a>", "<a><a></a></a>", "<A/>", "<Z/>", "<z/>", "<_/>", "<:/>", "<é/>", "<\u0080/>", "<×/>", "<😀/>", "<a-/>", "<a.b/>", "<a09/>", "<a:b/>", "<xml/>", "<a>></a>", "<a>/></a>", "<a>'\"=</a>", " <a/> ", "\n<a/>\r\t")
	answers(t, api.ErrXML, "", " ", "x", "<", ">", "<a", "<a ", "<a>", "<a><", "<a></", "<a></a", "<a></a ", "</a>", "<>", "</>", "<a></>", "< a/>", "<a>< /a>", "<a></ a>", "<a></a/>", "<a></a></a>", "<a/><a/>", "<a/><b>", "<a></a><a></a>",
		"<a></b>", "<a></A>", "<a></aa>", "<aa></a>", "<é></e>", "<a><b></a></b>", "<a><b></a>", "<a><b></b>", "<a><b/></b></a>", "<a></a b>",
		"<1/>", "<-a/>", "<.a/>", "<a!/>", "<a{/>", "<@/>", "<[/>", "<`/>", "<a,b/>", "<a\u007f/>", "<a><1/></a>", "x<a/>", "<a/>x", "<a/>&lt;", "<a/>]]>", ">\n<a/>", "<!DOCTYPE a><a/>", "<a><!DOCTYPE b></a>", "<!ELEMENT a><a/>", "\ufeff<a/>", "\u00a0<a/>", "<a/>\u0085", "<a\u00a0b=''/>", "<a\u2003b=''/>")
	answers(t, api.OK, within("]]", "]>", "]", "]]]", "] ]>", "]]&gt;", "]]<b/>>", "]]<!---->>", "]<![CDATA[]]]>>", "]]<![CDATA[]]>>", "]]<![CDATA[>]]>", "&#93;]>", "]]&#62;")...)
	answers(t, api.ErrXML, within("]]>", "x]]>y", "]]]>", "]]]]>", " ]]>", "<b/>]]>", "&lt;]]>")...)
}

// deep is an element in so many others, each of these in the next one.
func deep(others int, element string) string {
	return strings.Repeat("<a>", others) + element + strings.Repeat("</a>", others)
}

func TestParseOfMaxDepthP51(t *testing.T) {
	if api.MaxDepth != 100 {
		t.Error("MaxDepth is", api.MaxDepth)
	}
	right := []string{"<b/>", "<b></b>", "<b c='1' />", "<b>x</b>", "<b/><b/>", "<b><!----><?p?><![CDATA[x]]>&lt;</b>"}
	for _, element := range right {
		answers(t, api.OK, deep(99, element), deep(98, element), "<c>"+deep(98, "x<b></b>"+element+"<b></b>x")+"<b/></c>", "<c>"+strings.Repeat(deep(98, element), 20)+"</c>")
		answers(t, api.ErrDeep, deep(100, element), deep(101, element), deep(1000, element), "<!---->"+deep(100, "x"+element), strings.Repeat("<a>", 100)+element)
	}
	if nodes := parsed(t, deep(99, "<b>x</b>")); len(nodes) != 101 || !same(nodes[100:], []xml.Node{{Text: "x", Parent: 99, Level: 100, End: 101}}) {
		t.Error("a text in 100 elements:", nodes)
	}
	at := func(s string) string { return strings.Repeat("<a>", 100) + s }
	// Its attributes come first; what is behind these isn't asked.
	answers(t, api.ErrDeep, at("<b>"), at("<b/>"), at("<b></c>"), at("<b c=''>&x;"), at("<b c='' ><<"), at("<b c='&lt;' d=''/>]]>"), at("<b/"), at("<b c='' /d=''>"))
	answers(t, api.ErrXML, at("<b c>"), at("<b c='' c=''>"), at("<b c='&x;'/>"), at("<b c='<'/>"), at("<1>"), at("<"), at("<b"), at("<b c='1'd=''>"), at("<b c"), at("&x;<b/>"), at("]]><b/>"), at("</b><b/>"), at("<!-- <b/>"), at(""))
	answers(t, api.ErrXML, "<b c=''c=''>"+at("<b/>"), "<1>"+at("<b/>"), "<b></c>"+at("<b/>"), "<a/>"+at("<b/>"))
	answers(t, api.OK, at("<!-- <b> --><?p <b>?><![CDATA[<b>]]>")+strings.Repeat("</a>", 100))
}

// crowd is an element's beginning, and so many nodes with it: texts and elements by turns, a text first.
func crowd(nodes int) string {
	return "<a>" + strings.Repeat("x<b/>", (nodes-1)/2) + "x"[:(nodes-1)%2]
}

func TestParseOfMaxNodesP51(t *testing.T) {
	if api.MaxNodes != 16384 {
		t.Error("MaxNodes is", api.MaxNodes)
	}
	for n := range 10 {
		if nodes := parsed(t, crowd(n+1)+"</a>"); len(nodes) != n+1 {
			t.Fatal("a crowd of", n+1, "has", len(nodes))
		}
	}
	full := crowd(16383) + "<b/>"
	if nodes := parsed(t, full+"</a>"); len(nodes) != 16384 || nodes[0].End != 16384 || nodes[16383].Name != "b" || nodes[16383].End != 16384 {
		t.Error("of 16384 nodes", len(nodes))
	}
	if nodes := parsed(t, crowd(16384)+"yz</a>"); len(nodes) != 16384 || nodes[16383].Text != "xyz" {
		t.Error("of 16384 nodes", len(nodes))
	}
	answers(t, api.OK, full+"<!----><?p?><![CDATA[]]><!-- --></a><!---->", crowd(16384)+"&lt;<![CDATA[y]]>z</a>")
	answers(t, api.ErrMany, crowd(16385)+"</a>", crowd(16386)+"</a>", crowd(20000)+"</a>", full+"<b/></a>", full+"<b></b></a>", full+"x</a>", full+"&lt;</a>", full+"<![CDATA[x]]></a>", full+"<!---->x</a>", full+" </a>", full+"<![CDATA[]]>x</a>",
		crowd(16384)+"<b/></a>", crowd(16384)+"<!---->x</a>", crowd(16384)+"<?p?>&lt;</a>")
	// What is behind the node that is one too many isn't asked.
	answers(t, api.ErrMany, full+"x", full+"<b>", full+"x&y;", full+"x]]>", full+"<b></c>", full+"<![CDATA[x]]>]]>", full+"&lt;&", full+"<b/><c d>", full+"x<", crowd(16384)+"<b c=''></d>")
	answers(t, api.ErrXML, full, full+"<b", full+"<b c>", full+"<b c='' c=''/>", full+"&y;x", full+"]]>x", full+"</b>x", full+"<![CDATA[x", full+"<!-- x", crowd(16384), crowd(16384)+"&", full+"</a>x", full+"</a><b/>", "<a/>"+full+"x")
	answers(t, api.ErrMany, full+strings.Repeat("<a>", 100))
}

func TestParseTellsTheFirstFaultP51(t *testing.T) {
	deep := strings.Repeat("<c>", 99)
	full := crowd(16383) + "<b/>"
	answers(t, api.ErrDeep, "<a>"+deep+"<c>", "<a>"+deep+"<c>"+full)
	// An element that is too deep and one too many is too deep.
	almost := crowd(16383-98) + strings.Repeat("<c>", 99)
	if _, e := xml.Parse(almost + strings.Repeat("</c>", 99) + "</a>"); e != api.OK {
		t.Fatal("an almost full crowd:", e)
	}
	answers(t, api.ErrDeep, almost+"<c>", almost+"<c/>")
	answers(t, api.ErrMany, almost+"x<c>", almost+"x")
}

// parts of a document, one behind the other, of each kind.
const whole = "<?xml v?> <!-- a --><?p q?>\n<a é = '1&lt;' c=\"&#x41;\"><b/>x&amp;y é<![CDATA[<]]><!-- - --><?r?><d e='😀'>]]</d\n></a>"

func TestParseOfBeginningsP51(t *testing.T) {
	parsed(t, whole)
	for i := range len(whole) {
		want := api.ErrXML
		if whole[i]&0xc0 == 0x80 { // cut within a sign
			want = api.ErrUTF
		}
		answers(t, want, whole[:i])
	}
}

func TestTextsP52(t *testing.T) {
	for s, want := range map[string][]string{
		"":                           nil,
		"<![CDATA[]]>":               nil,
		"<![CDATA[]]><![CDATA[]]>":   nil,
		"<!----><?p?>":               nil,
		"<!-- x --><?p x?>":          nil,
		"x":                          {"x"},
		" ":                          {" "},
		"\r\n\t \r":                  {"\r\n\t \r"},
		"x&lt;y":                     {"x<y"},
		"x<![CDATA[&lt;<b>]]>y":      {"x&lt;<b>y"},
		"&#65;<![CDATA[B]]>C&quot;":  {`ABC"`},
		"<![CDATA[a]]><![CDATA[b]]>": {"ab"},
		"x<![CDATA[]]>y":             {"xy"},
		"x<!---->y":                  {"x", "y"},
		"x<?p?>y":                    {"x", "y"},
		"x<!----><?p?><!---->y":      {"x", "y"},
		"<!---->x<!---->":            {"x"},
		"x<!----><![CDATA[]]>":       {"x"},
		"<![CDATA[]]><!---->x":       {"x"},
		"x<b/>y":                     {"x", "y"},
		"x<b>y</b>z":                 {"x", "y", "z"},
		"<b>x</b><b>y</b>":           {"x", "y"},
		"<b><c>x</c></b>y":           {"x", "y"},
		"é<!---->&#xe9;<?p?>😀":       {"é", "é", "😀"},
		"]]<![CDATA[]]]]>&gt;":       {"]]]]>"},
		"x<![CDATA[ y ]]> <b/>\n":    {"x y  ", "\n"},
	} {
		var got []string
		for i, n := range parsed(t, "<a c='v'>"+s+"</a>") {
			if (n.Name == "") == (n.Text == "") {
				t.Errorf("of %q: the node %v", s, n)
			}
			if n.Name == "" {
				got = append(got, n.Text)
				if n.End != i+1 || len(n.Attrs) > 0 {
					t.Errorf("of %q: the text %v", s, n)
				}
			}
		}
		if !slices.Equal(got, want) {
			t.Errorf("the texts of %q: %q, not %q", s, got, want)
		}
	}
}

func TestInstructionsAreNoNodesP52(t *testing.T) {
	want := []xml.Node{{Name: "a", Parent: -1, End: 4}, {Name: "b", Level: 1, End: 2}, {Text: "x", Level: 1, End: 3}, {Text: "y", Level: 1, End: 4}}
	for _, s := range []string{
		"<a><b/>x<!---->y</a>",
		"<?xml ?><?xmlp?><!-- --><a><?p?><b><!-- z --><?xmlq z?></b><!-- z -->x<?p?><!-- z -->y<?p <z/>?></a><?p?><!-- <z/> -->",
	} {
		if got := parsed(t, s); !same(got, want) {
			t.Errorf("the nodes of %q: %v", s, got)
		}
	}
}

func TestAnswersAreNewP51(t *testing.T) {
	s := "<a b='1' c='2'><d b='1'/>x<e b='1' c='2' f='3'/></a>"
	first, second := parsed(t, s), parsed(t, s)
	for i := range first {
		if attrs := first[i].Attrs; len(attrs) > 0 {
			_ = append(attrs, xml.Attr{Name: "lost"})
			attrs[0] = xml.Attr{Name: "changed"}
		}
		first[i].Text = "changed"
	}
	if first[3].Attrs[1].Name != "c" || !same(second, parsed(t, s)) {
		t.Error("two answers share something")
	}
}

func TestTextP53(t *testing.T) {
	for s, want := range map[string]string{
		"<a/>":  "<a></a>",
		"<a />": "<a></a>",
		"<?xml ?><!-- a --><a  b = '1'\tc=\"2\" ><?p?>x</a > \n":         `<a b="1" c="2">x</a>`,
		"<a>x<!---->y<?p?>z</a>":                                         "<a>xyz</a>",
		"<a b='&lt;&gt;&amp;&quot;&apos;\n'>&lt;>&amp;\"'\r\n</a>":       "<a b=\"&lt;&gt;&amp;&quot;'\n\">&lt;&gt;&amp;&quot;'\r\n</a>",
		"<a><![CDATA[<b>&amp;]]]]><![CDATA[>]]></a>":                     "<a>&lt;b&gt;&amp;amp;]]&gt;</a>",
		"<a><b><c/></b>x<d>y</d><e/></a>":                                "<a><b><c></c></b>x<d>y</d><e></e></a>",
		"<é ä='&#246;'>&#x1f600;</é>":                                    "<é ä=\"ö\">😀</é>",
		"<a><b/><b/></a>":                                                "<a><b></b><b></b></a>",
		"<a>]]<!---->></a>":                                              "<a>]]&gt;</a>",
		deep(99, "<b/>x"):                                                deep(99, "<b></b>x"),
		"<a b='" + strings.Repeat("x", 60000) + "' b1='&#13;&#10;'></a>": "<a b=\"" + strings.Repeat("x", 60000) + "\" b1=\"\r\n\"></a>",
	} {
		if got := xml.Text(parsed(t, s)); got != want {
			t.Errorf("Text of %.200q: %.200q, not %.200q", s, got, want)
		}
	}
}

// joined is nodes with texts that stand side by side made one.
func joined(nodes []xml.Node) []xml.Node {
	place := make([]int, len(nodes)+1)
	var all []xml.Node
	for i, n := range nodes {
		if i > 0 && n.Name == "" && nodes[i-1].Name == "" && n.Parent == nodes[i-1].Parent {
			all[len(all)-1].Text += n.Text
		} else {
			all = append(all, n)
		}
		place[i+1] = len(all)
	}
	for i := range all {
		all[i].End = place[all[i].End]
		if all[i].Parent >= 0 {
			all[i].Parent = place[all[i].Parent+1] - 1
		}
	}
	return all
}

// again checks that what Text writes of nodes is a document of the same nodes, and written likewise.
func again(t *testing.T, nodes []xml.Node) {
	t.Helper()
	s := xml.Text(nodes)
	got, e := xml.Parse(s)
	if e != api.OK || !same(got, joined(nodes)) {
		t.Errorf("Parse of %.200q: %v, %.200v, not %.200v", s, e, got, joined(nodes))
	}
	if other := xml.Text(got); other != s {
		t.Errorf("Text of %.200q: %.200q", s, other)
	}
}

func TestTextParsedAgainP53(t *testing.T) {
	for _, s := range []string{whole, "<a/>", "<a>x<!---->y<b>z</b><!---->u<?p?>v</a>", "<a>x<?p?>y<?p?>z<b c='\t\r\n'/></a>", crowd(16384) + "</a>", deep(99, "<b>x</b>y"), "<a>]]<!---->&gt;</a>"} {
		again(t, parsed(t, s))
	}
	for s := range references {
		again(t, parsed(t, "<a b='"+s+"'>"+s+"</a>"))
	}
}

func TestTextOfOthersP53(t *testing.T) {
	if got := xml.Text(nil); got != "" {
		t.Errorf("Text of no nodes: %q", got)
	}
	for _, end := range []int{math.MinInt, -1, 0, 1, 2, 3, 4, 9, math.MaxInt} {
		for _, level := range []int{math.MinInt, -1, 0, 1, 7, math.MaxInt} {
			n := xml.Node{Name: "a", Parent: -end, Level: level, End: end, Attrs: []xml.Attr{{}, {Name: "<", Val: "\xff"}}}
			text := xml.Node{Text: "x\xff\x00", Parent: level, Level: end, End: end}
			for _, nodes := range [][]xml.Node{{n}, {n, n, n}, {text}, {text, n, text}, {{}, n, {}}, {n, text, {Name: "<", Text: "y", End: 2}, n}, slices.Repeat([]xml.Node{n, text}, 20000)} {
				before := slices.Clone(nodes)
				xml.Text(nodes)
				if !same(before, nodes) {
					t.Error("Text has changed its nodes")
				}
			}
		}
	}
}
