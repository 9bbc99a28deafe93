package desk

import (
	"strings"

	"dovetail/api"
	"dovetail/compat"
	"dovetail/image"
	"dovetail/nat"
	"dovetail/pack"
	"dovetail/schema"
	"dovetail/value"
)

const (
	none    = "none"
	fits    = "fits"
	short   = "short"
	witness = "witness"
)

// What a step is asked for here its arguments have: the line was looked at when it was read.

// name is the first argument, a schema's name.
func (x step) name() string { return x.raw(0) }

// raw is the bytes of an argument.
func (x step) raw(i int) string { return x.args[i].Raw }

// asked is what the arguments of scan, bounds and starts ask for alike; and those that stand behind them.
func (x step) asked() (api.Query, []api.Part) {
	limit, _ := nat.Small(x.args[3].Num)
	return api.Query{Prefix: x.args[1], Back: x.args[2].Yes, Limit: limit}, x.args[4:]
}

func (d *desk) takeMarks(x step) ([]string, error) {
	d.marks = strings.TrimSuffix(x.block, lineEnd)
	return toldOK(nil)
}

func (d *desk) takeEntries(x step) ([]string, error) {
	d.entries = strings.TrimSuffix(x.block, lineEnd)
	return toldOK(nil)
}

func (d *desk) load(step) ([]string, error) {
	if err := d.space.Tables(d.marks, d.entries); err != nil {
		return nil, err
	}
	d.hold(d.space)
	return toldOK(nil)
}

func (d *desk) define(x step) ([]string, error) { return toldOK(d.space.Define(x.name(), x.block)) }

func (d *desk) evolve(x step) ([]string, error) { return toldOK(d.space.Evolve(x.name(), x.block)) }

func (d *desk) put(x step) ([]string, error) {
	return toldOK(d.space.Put(x.name(), x.args[1], x.raw(2)))
}

func (d *desk) get(x step) ([]string, error) {
	kept, is, err := d.space.Get(x.name(), x.args[1])
	if err == nil && !is {
		return []string{none}, nil
	}
	return toldBytes(kept, err)
}

func (d *desk) delete(x step) ([]string, error) {
	was, err := d.space.Delete(x.name(), x.args[1])
	if err != nil {
		return nil, err
	}
	return toldPart(api.Part{Kind: api.Bool, Yes: was})
}

func (d *desk) importRow(x step) ([]string, error) {
	return toldOK(d.space.Import(x.name(), x.raw(1), x.raw(2)))
}

func (d *desk) key(x step) ([]string, error) {
	s, err := d.space.Schema(x.name())
	if err != nil {
		return nil, err
	}
	v, e := value.Make(x.args[1])
	if e != api.OK {
		return nil, e
	}
	return toldBytes(pack.Encode(d.tables, s, v))
}

func (d *desk) readKey(x step) ([]string, error) {
	s, err := d.space.Schema(x.name())
	if err != nil {
		return nil, err
	}
	v, err := pack.Decode(d.tables, s, x.raw(1))
	if err != nil {
		return nil, err
	}
	return toldPart(value.Tell(v))
}

func (d *desk) scan(x step) ([]string, error) {
	q, _ := x.asked()
	return d.scanned(x, q)
}

func (d *desk) bounds(x step) ([]string, error) {
	q, behind := x.asked()
	for _, p := range behind {
		q.Bounds = append(q.Bounds, api.Bound{Above: p.Items[0].Yes, Equal: p.Items[1].Yes, Part: p.Items[2]})
	}
	return d.scanned(x, q)
}

func (d *desk) starts(x step) ([]string, error) {
	q, behind := x.asked()
	q.Starts, q.Start = true, behind[0].Raw
	return d.scanned(x, q)
}

// scanned are the rows that are asked for, of the schema that a line names.
func (d *desk) scanned(x step, q api.Query) ([]string, error) {
	rows, err := d.space.Scan(x.name(), q)
	if err != nil {
		return nil, err
	}
	return toldRows(rows)
}

func (d *desk) rekey(x step) ([]string, error) {
	var l []api.Source
	for _, p := range x.args[2:] {
		l = append(l, sourceOf(p))
	}
	return toldOK(d.space.Rekey(x.name(), x.raw(1), l))
}

// sourceOf is an argument as a source.
func sourceOf(p api.Part) api.Source {
	if isTuple(p) {
		return api.Source{Field: -1, Part: p.Items[0]}
	}
	n, _ := nat.Small(p.Num)
	return api.Source{Field: n}
}

func (d *desk) names(step) ([]string, error) {
	names := d.space.Names()
	return append(furtherIn(names), counted("names", len(names))), nil
}

func (d *desk) schema(x step) ([]string, error) {
	s, err := d.space.Schema(x.name())
	if err != nil {
		return nil, err
	}
	text, err := schema.Print(s)
	if err != nil {
		return nil, err
	}
	return furtherIn(strings.Split(strings.TrimSuffix(text, lineEnd), lineEnd)), nil
}

func (d *desk) len(x step) ([]string, error) {
	n, err := d.space.Len(x.name())
	if err != nil {
		return nil, err
	}
	return []string{counted("rows", n)}, nil
}

func (d *desk) fits(x step) ([]string, error) {
	s, err := d.space.Schema(x.name())
	if err != nil {
		return nil, err
	}
	to, err := d.space.Schema(x.raw(1))
	if err != nil {
		return nil, err
	}
	v, err := compat.Check(s, to)
	switch {
	case err != nil:
		return nil, err
	case v.Fits:
		return []string{fits}, nil
	case v.Short:
		return []string{short}, nil
	}
	return []string{witness}, nil
}

func (d *desk) save(step) ([]string, error) {
	b, e := image.Save(d.space)
	if e != api.OK {
		return nil, e
	}
	d.image = b
	return []string{counted("kept", len(b))}, nil
}

func (d *desk) back(step) ([]string, error) {
	if d.image == "" {
		return []string{none}, nil
	}
	s, e := image.Load(d.image)
	if e != api.OK {
		return nil, e
	}
	d.hold(s)
	return toldOK(nil)
}
