"""Steps: each makes one table of another, and puts what it shows back into it."""


class Step:
    # By itself it shows each table as it is; what a step does otherwise, its class tells.
    def words(self):
        return ()

    def view_form(self, form):
        return form

    def got(self, form, table):
        return table

    def put(self, form, table, view):
        return view

    def exact(self, form):
        return True

    def steady(self, form):
        return True


def written(value):
    # The point keeps words apart from names and numbers, and makes the empty word seen.
    return "." + value if isinstance(value, str) else str(value)
