package copies

import (
	"reflect"
	"slices"
	"testing"

	"archivum/api"
)

// fill makes a value in which every list has two elements, and every number and
// every string is another one.
func fill(v reflect.Value, n *int) {
	*n++
	switch v.Kind() {
	case reflect.Int:
		v.SetInt(int64(*n))
	case reflect.String:
		v.SetString(string(rune('A' + *n)))
	case reflect.Bool:
		v.SetBool(true)
	case reflect.Slice:
		v.Set(reflect.MakeSlice(v.Type(), 2, 2))
		for i := range 2 {
			fill(v.Index(i), n)
		}
	case reflect.Struct:
		for i := range v.NumField() {
			fill(v.Field(i), n)
		}
	}
}

// overwrite sets all to zero that is reached by the lists of a value.
func overwrite(v reflect.Value) {
	switch v.Kind() {
	case reflect.Slice:
		for i := range v.Len() {
			overwrite(v.Index(i))
			v.Index(i).SetZero()
		}
	case reflect.Struct:
		for i := range v.NumField() {
			overwrite(v.Field(i))
		}
	}
}

func TestRegistry(t *testing.T) {
	made := func() api.Registry {
		var r api.Registry
		n := 0
		fill(reflect.ValueOf(&r).Elem(), &n)
		return r
	}
	a, b := made(), Registry(made())
	if !reflect.DeepEqual(a, b) {
		t.Error("it is not the same")
	}
	b = Registry(a)
	overwrite(reflect.ValueOf(a))
	if reflect.DeepEqual(a, made()) || !reflect.DeepEqual(b, made()) {
		t.Error("it shares memory")
	}
	if !reflect.DeepEqual(Registry(api.Registry{}), api.Registry{}) {
		t.Error("the empty registry")
	}
}

func TestEach(t *testing.T) {
	l := [][]int{{1, 2}, {3}}
	out := Each(l, func(x *[]int) { *x = slices.Clone(*x) })
	l[0][1], l[1] = 5, nil
	if !reflect.DeepEqual(out, [][]int{{1, 2}, {3}}) {
		t.Error(out)
	}
	if out := Each([]int(nil), func(*int) { t.Error("there is no element") }); len(out) != 0 {
		t.Error(out)
	}
}
