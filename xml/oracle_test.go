package xml_test

import (
	"math/rand"
	"regexp"
	"strconv"
	"strings"
	"testing"

	"catchword/api"
	"catchword/xml"
)

// The document's rules a second time, as regular expressions.
const (
	blankRule     = `[ \t\n\r]`
	nameRule      = `[A-Za-z_:\x{80}-\x{10ffff}][A-Za-z_:\x{80}-\x{10ffff}0-9.-]*`
	referenceRule = `&(?:lt|gt|amp|apos|quot|#[0-9]+|#x[0-9a-fA-F]+);`
	valueRule     = `(?:"(?:[^<&"]|` + referenceRule + `)*"|'(?:[^<&']|` + referenceRule + `)*')`
	attrRule      = blankRule + `+(` + nameRule + `)` + blankRule + `*=` + blankRule + `*(` + valueRule + `)`
)

var (
	heading     = regexp.MustCompile(`^<\?xml` + blankRule + `(?s:.*?)\?>`)
	remark      = regexp.MustCompile(`^<!--(?:[^-]|-[^-])*-->`)
	instruction = regexp.MustCompile(`^<\?(` + nameRule + `)(?:` + blankRule + `(?s:.*?))?\?>`)
	blanks      = regexp.MustCompile(`^` + blankRule + `+`)
	beginning   = regexp.MustCompile(`^<(` + nameRule + `)((?:` + attrRule + `)*)` + blankRule + `*(/?)>`)
	attr        = regexp.MustCompile(attrRule)
	end         = regexp.MustCompile(`^</(` + nameRule + `)` + blankRule + `*>`)
	cdata       = regexp.MustCompile(`^<!\[CDATA\[((?s:.*?))\]\]>`)
	reference   = regexp.MustCompile(referenceRule)
	signs       = regexp.MustCompile(`^[^<&]+`)
)

// oracle reads a document by these; what it can't read, it panics at.
type oracle struct {
	rest  string
	nodes []xml.Node
}

// wrong is what an oracle panics with.
type wrong struct{}

// ask is the nodes of a document, and whether it is one.
func ask(s string) (nodes []xml.Node, ok bool) {
	defer func() {
		if p := recover(); p == (wrong{}) {
			nodes, ok = nil, false
		} else if p != nil {
			panic(p)
		}
	}()
	o := &oracle{rest: s}
	o.take(heading)
	o.between()
	o.element(-1, 0)
	o.between()
	o.must(o.rest == "")
	return o.nodes, true
}

func (o *oracle) must(ok bool) {
	if !ok {
		panic(wrong{})
	}
}

func (o *oracle) take(rule *regexp.Regexp) []string {
	found := rule.FindStringSubmatch(o.rest)
	if found != nil {
		o.rest = o.rest[len(found[0]):]
	}
	return found
}

// aside reads a remark or an instruction, if there is one.
func (o *oracle) aside() bool {
	if found := o.take(instruction); found != nil {
		o.must(!strings.EqualFold(found[1], "xml"))
		return true
	}
	return o.take(remark) != nil
}

func (o *oracle) between() {
	for o.aside() || o.take(blanks) != nil {
	}
}

func (o *oracle) element(parent, level int) {
	found := o.take(beginning)
	o.must(found != nil)
	at := len(o.nodes)
	n := xml.Node{Name: found[1], Parent: parent, Level: level}
	names := map[string]bool{}
	for _, a := range attr.FindAllStringSubmatch(found[2], -1) {
		o.must(!names[a[1]])
		names[a[1]] = true
		n.Attrs = append(n.Attrs, xml.Attr{Name: a[1], Val: o.resolved(a[2][1 : len(a[2])-1])})
	}
	o.nodes = append(o.nodes, n)
	if found[len(found)-1] == "" {
		o.parts(at, level+1)
	}
	o.nodes[at].End = len(o.nodes)
}

func (o *oracle) parts(parent, level int) {
	for {
		if s := o.text(); s != "" {
			o.nodes = append(o.nodes, xml.Node{Text: s, Parent: parent, Level: level, End: len(o.nodes) + 1})
		}
		if found := o.take(end); found != nil {
			o.must(found[1] == o.nodes[parent].Name)
			return
		}
		if !o.aside() {
			o.element(parent, level)
		}
	}
}

func (o *oracle) text() string {
	s := ""
	for {
		if found := o.take(cdata); found != nil {
			s += found[1]
		} else if found := o.take(signs); found != nil {
			o.must(!strings.Contains(found[0], "]]>"))
			s += found[0]
		} else if at := reference.FindStringIndex(o.rest); at != nil && at[0] == 0 {
			s += o.resolved(o.rest[:at[1]])
			o.rest = o.rest[at[1]:]
		} else {
			return s
		}
	}
}

// resolved is a text with signs for its references.
func (o *oracle) resolved(s string) string {
	return reference.ReplaceAllStringFunc(s, func(r string) string {
		switch r = r[1 : len(r)-1]; r {
		case "lt":
			return "<"
		case "gt":
			return ">"
		case "amp":
			return "&"
		case "apos":
			return "'"
		case "quot":
			return `"`
		}
		n, err := strconv.ParseInt("0"+r[1:], 0, 32)
		if r[1] != 'x' {
			n, err = strconv.ParseInt(r[1:], 10, 32)
		}
		o.must(err == nil && xml.Sign(rune(n)))
		return string(rune(n))
	})
}

// pieces are what documents, right or wrong, are made of.
var pieces = []string{
	"<a>", "</a>", "<a/>", "<b c='1'>", "</b>", "<b c='&lt;' d=\"é\" />", "x", "é", " ", "\n", "&lt;", "&#65;", "&#x42;", "&#x1;", "&", ";", "<!--", "-->", "<!-- y -->", "-", "--", ">", "<", "/", "=", "'", `"`,
	"<?p", "?>", "<?p z?>", "?", "<?xml ", "<?xml ?>", "xml", "<![CDATA[", "]]>", "<![CDATA[z]]>", "<![CDATA[]]>", "]", "]]", "c", ":", "1", ".", "#", " c='2'", "<!", "😀",
}

// document is a random document that is right.
func document(random *rand.Rand) string {
	pick := func(from ...string) string { return from[random.Intn(len(from))] }
	var element func(level int) string
	element = func(level int) string {
		name := pick("a", "b", "_1", "é:x-.")
		s := "<" + name
		if random.Intn(2) == 0 {
			s += pick(" ", "\n\t") + "c" + pick("", " ") + "=" + pick("", "\r") + pick("'1'", `"'"`, `'"&amp;>'`, "''", `"&#xe9; "`)
		}
		if random.Intn(3) == 0 {
			s += pick(" d=''", " c1='é'", " D='x'")
		}
		s += pick("", "", " ")
		if random.Intn(4) == 0 {
			return s + "/>"
		}
		s += ">"
		for range random.Intn(4) {
			if level < 3 && random.Intn(2) == 0 {
				s += element(level + 1)
			} else {
				s += pick("x", "y z", "&gt;", "&#x1F600;", "]]", "<![CDATA[<q>&]]>", "<![CDATA[]]>", "<!-- - -->", "<?p?>", "<?q ? >?>", "\r\n", `"`)
			}
		}
		return s + "</" + name + pick("", "", "\n") + ">"
	}
	return pick("", "", "<?xml v='1'?>") + pick("", "<!---->", " <?p x?>\n") + element(0) + pick("", "\n", "<!-- z --><?p?>")
}

// changed is a document with some signs dropped, doubled or moved, or with pieces laid in.
func changed(random *rand.Rand, s string) string {
	r := []rune(s)
	for range 1 + random.Intn(3) {
		i := random.Intn(len(r) + 1)
		j := min(len(r), i+random.Intn(4))
		piece := []rune(pieces[random.Intn(len(pieces))])
		switch random.Intn(3) {
		case 0:
			piece = nil
		case 1:
			j = i
		}
		r = append(append(append([]rune(nil), r[:i]...), piece...), r[j:]...)
	}
	return string(r)
}

// agree checks Parse, and Text of what it tells, against the oracle: whether the text is a document.
func agree(t *testing.T, s string) bool {
	t.Helper()
	want, ok := ask(s)
	got, e := xml.Parse(s)
	if ok != (e == api.OK) || !ok && e != api.ErrXML || !same(got, want) {
		t.Fatalf("Parse of %q: %v, %v, not %v, %v", s, e, got, ok, want)
	}
	if ok {
		again(t, got)
	}
	return ok
}

func TestParseAsExpressionsP51P52P53(t *testing.T) {
	random := rand.New(rand.NewSource(5))
	right, wrong := 0, 0
	count := func(ok bool) {
		if ok {
			right++
		} else {
			wrong++
		}
	}
	for range 8000 {
		s := document(random)
		if !agree(t, s) {
			t.Fatalf("%q is no document", s)
		}
		for range 4 {
			count(agree(t, changed(random, s)))
		}
		s = ""
		for range random.Intn(8) {
			s += pieces[random.Intn(len(pieces))]
		}
		count(agree(t, "<a>"+s+"</a>"))
		count(agree(t, s+"<a/>"))
		count(agree(t, s))
	}
	if right < 5000 || wrong < 5000 {
		t.Error("too few were right or wrong:", right, wrong)
	}
}
