"""What the document says of every step, looked at for all tables and views of small forms, or for some of great ones."""

from samples import tables_of
from twoglass.forms import check_form
from twoglass.tables import keeps


def check_round_trips(test, step, form, tables, views):
    """Views and tables keep their forms; got behind put is the view; put of what was got is the table."""
    view_form = step.view_form(form)
    check_form(view_form)
    for table in tables:
        test.assertTrue(keeps(form, table), table)
        view = step.got(form, table)
        test.assertTrue(keeps(view_form, view), view)
        test.assertEqual(step.put(form, table, view), table)
    for table in tables:
        for view in views:
            test.assertTrue(keeps(view_form, view), view)
            after = step.put(form, table, view)
            test.assertTrue(keeps(form, after), after)
            test.assertEqual(step.got(form, after), view)


def is_exact(step, form, tables):
    return len({step.got(form, table) for table in tables}) == len(tables)


def is_steady(step, form, tables, views):
    after = {table: {view: step.put(form, table, view) for view in views} for table in tables}
    return all(after[after[table][first]][second] == after[table][second]
               for table in tables for first in views for second in views)


def check_step(test, step, form):
    """All of it, by going through all tables and all views of a small form."""
    tables, views = tables_of(form), tables_of(step.view_form(form))
    check_round_trips(test, step, form, tables, views)
    test.assertIs(step.exact(form), is_exact(step, form, tables))
    test.assertIs(step.steady(form), is_steady(step, form, tables, views))


def refusal(make, *arguments):
    """The class of what is raised, or None."""
    try:
        make(*arguments)
    except Exception as error:
        return type(error)
    return None
