// Package copies makes copies of what package api describes: they share no memory with the originals.
package copies

import (
	"slices"

	"archivum/api"
)

// Registry returns a copy of a registry.
func Registry(r api.Registry) api.Registry {
	r.Offices = Each(r.Offices, func(o *api.Office) { o.Next = slices.Clone(o.Next) })
	r.Plans = Each(r.Plans, func(p *api.Plan) { p.Classes, p.Moved = slices.Clone(p.Classes), slices.Clone(p.Moved) })
	r.Files = Each(r.Files, func(f *api.File) { f.Notes = slices.Clone(f.Notes) })
	r.Rules, r.Holds, r.Clerks = slices.Clone(r.Rules), slices.Clone(r.Holds), slices.Clone(r.Clerks)
	r.Selections = Each(r.Selections, func(s *api.Selection) { s.Files = slices.Clone(s.Files) })
	r.Proposals = Each(r.Proposals, func(p *api.Proposal) { p.Files = slices.Clone(p.Files) })
	r.Approvals, r.Departures = slices.Clone(r.Approvals), slices.Clone(r.Departures)
	r.Certificates = Each(r.Certificates, func(c *api.Certificate) { c.Files = slices.Clone(c.Files) })
	return r
}

// Each returns a copy of a list whose elements get memory of their own.
func Each[T any](l []T, own func(*T)) []T {
	out := slices.Clone(l)
	for i := range out {
		own(&out[i])
	}
	return out
}
